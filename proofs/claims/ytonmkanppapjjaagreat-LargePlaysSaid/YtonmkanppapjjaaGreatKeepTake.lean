/- What 'Take' of the document's own keeper returns. -/
import Derived.Test.YtonmkanppapjjaaGreatKeepTwo
import Derived.Test.YtonmkanppapjjaaGreatKeepIn
import Derived.Test.YtonmkanppapjjaaGreatKeepWithout
import Derived.Test.YtonmkanppapjjaaGreatLargeFits
import Derived.Deep.RegionHeld3
namespace Go.Proofs.YtonmkanppapjjaaGreat
open Go.RowKit
set_option linter.unusedVariables false

/-- A new keeper, a span and an error's number that a call answers. -/
def TookIs (w : World) (P : Nat → Prop) (r : LargeV × Spn × Int) (e : Ending) (w' : World) : Prop := ∃ v', e = .returned (.tuple #[v', spanV r.2.1, .int .i64 r.2.2]) ∧ KoIs w' P r.1 v' ∧ Below w.heap.size w w'
/-- The eleven cells of an answer. -/
theorem eleven {W : World} {b b2 : Nat} {x0 x1 x2 x3 x4 x5 x6 y0 y1 y2 y3 : Value} (h7 : F7 W b x0 x1 x2 x3 x4 x5 x6) (h4 : F4 W b2 y0 y1 y2 y3) (hne : b2 ≠ b) (u0 u1 u2 u3 u4 u5 u6 t0 t1 t2 t3 : Value) :
    F7 (set4 (set7 W b u0 u1 u2 u3 u4 u5 u6) b2 t0 t1 t2 t3) b u0 u1 u2 u3 u4 u5 u6 ∧ F4 (set4 (set7 W b u0 u1 u2 u3 u4 u5 u6) b2 t0 t1 t2 t3) b2 t0 t1 t2 t3 :=
  ⟨(h7.put u0 u1 u2 u3 u4 u5 u6).aside4 hne t0 t1 t2 t3, (h4.aside7 (fun e => hne e.symm) u0 u1 u2 u3 u4 u5 u6).put t0 t1 t2 t3⟩

set_option maxRecDepth 100000 in
set_option maxHeartbeats 2000000 in
theorem ref_ktake_no (P : Nat → Prop) (q : LargeV) (v : Value) (n : Int) (w : World) (hP : ∀ b, w.heap.size ≤ b → P b) (hv : KoIs w P q v) (h0 : 0 < q.h.free.length) (hn : in64 n) (hf : lFits n = false) :
    Calls Tryz.prog 88 #[v, .int .i64 n] w (TookIs w P (q, spanNone, 1)) := by
  obtain ⟨A, m, c, A2, m2, c2, A3, m3, c3, A4, m4, c4, rfl, k⟩ := hv
  obtain ⟨W0, hW0⟩ : ∃ W0, W0 = ((w.alloc (.cells #[.int .i64 q.h.pages, .slice A m c, .slice A2 m2 c2, .int .i64 q.h.last, .slice A3 m3 c3, .slice A4 m4 c4, .bool q.held] 76)).alloc (.cells #[.int .i64 0, .slice none 0 0, .slice none 0 0, .int .i64 0, .slice none 0 0, .slice none 0 0, .bool false] 76)).alloc (.cells #[.int .i64 0, .int .i64 0, .int .i64 0, .int .i64 0] 50) := ⟨_, rfl⟩
  have HM := took_made w (.int .i64 q.h.pages) (.slice A m c) (.slice A2 m2 c2) (.int .i64 q.h.last) (.slice A3 m3 c3) (.slice A4 m4 c4) (.bool q.held) (.int .i64 0) (.slice none 0 0) (.slice none 0 0) (.int .i64 0) (.slice none 0 0) (.slice none 0 0) (.bool false) (.int .i64 0) (.int .i64 0) (.int .i64 0) (.int .i64 0) 76 76 50
  rw [← hW0] at HM
  obtain ⟨f0, f1, f2, HB, hz⟩ := HM
  have CF := ref_fits n W0 hn
  rw [hf] at CF
  have HFIN : Hid (∀ WF, Kept (fun b => w.heap.size ≤ b ∧ b < W0.heap.size) W0 WF → TookIs w P (q, spanNone, 1) (.returned (.tuple #[.agg #[.int .i64 q.h.pages, .slice A m c, .slice A2 m2 c2, .int .i64 q.h.last, .slice A3 m3 c3, .slice A4 m4 c4, .bool q.held], .agg #[.int .i64 0, .int .i64 0, .int .i64 0, .int .i64 0], .int .i64 1])) WF) := hidb (fun WF hK => by
    obtain ⟨h1, h2⟩ := KoIs.close hP HB HB.size (k.open_ h0 HB).isv h0 hK
    exact ⟨_, rfl, h1, h2⟩)
  obtain ⟨pg, hpg⟩ : ∃ x, q.h.pages = x := ⟨_, rfl⟩
  obtain ⟨la, hla⟩ : ∃ x, q.h.last = x := ⟨_, rfl⟩
  obtain ⟨hd, hhd⟩ : ∃ x, q.held = x := ⟨_, rfl⟩
  rw [hpg, hla, hhd] at HFIN f0 hW0
  unfold kval
  rw [hpg, hla, hhd]
  have HE : Hid (F7 (set4 (set7 W0 (w.heap.size + 1) (.int .i64 pg) (.slice A m c) (.slice A2 m2 c2) (.int .i64 la) (.slice A3 m3 c3) (.slice A4 m4 c4) (.bool hd)) (w.heap.size + 1 + 1) (.int .i64 0) (.int .i64 0) (.int .i64 0) (.int .i64 0)) (w.heap.size + 1) (.int .i64 pg) (.slice A m c) (.slice A2 m2 c2) (.int .i64 la) (.slice A3 m3 c3) (.slice A4 m4 c4) (.bool hd) ∧ F4 (set4 (set7 W0 (w.heap.size + 1) (.int .i64 pg) (.slice A m c) (.slice A2 m2 c2) (.int .i64 la) (.slice A3 m3 c3) (.slice A4 m4 c4) (.bool hd)) (w.heap.size + 1 + 1) (.int .i64 0) (.int .i64 0) (.int .i64 0) (.int .i64 0)) (w.heap.size + 1 + 1) (.int .i64 0) (.int .i64 0) (.int .i64 0) (.int .i64 0)) := hidb (eleven f1 f2 (by omega) _ _ _ _ _ _ _ _ _ _ _)
  have HEND : Hid (TookIs w P (q, spanNone, 1) (.returned (.tuple #[.agg #[.int .i64 pg, .slice A m c, .slice A2 m2 c2, .int .i64 la, .slice A3 m3 c3, .slice A4 m4 c4, .bool hd], .agg #[.int .i64 0, .int .i64 0, .int .i64 0, .int .i64 0], .int .i64 1])) (set4 (set7 W0 (w.heap.size + 1) (.int .i64 pg) (.slice A m c) (.slice A2 m2 c2) (.int .i64 la) (.slice A3 m3 c3) (.slice A4 m4 c4) (.bool hd)) (w.heap.size + 1 + 1) (.int .i64 0) (.int .i64 0) (.int .i64 0) (.int .i64 0))) := hidb (HFIN.out _ (kept_put4 (kept_set7 (Kept.refl _ _) (Or.inl ⟨by omega, by omega⟩) _ _ _ _ _ _ _) (Or.inl ⟨by omega, by omega⟩) _ _ _ _))
  obtain ⟨c0, c1, c2', c3', c4', c5', c6', _⟩ := f0
  obtain ⟨z0, z1, z2, z3, z4, z5, z6, zf⟩ := f1
  obtain ⟨s0, s1, s2, s3, sf⟩ := f2
  have zf0 := zf 0
  have zf1 := zf 1
  have zf2 := zf 2
  have zf3 := zf 3
  have zf4 := zf 4
  have zf5 := zf 5
  have zf6 := zf 6
  have sf0 := sf 0
  have sf1 := sf 1
  have sf2 := sf 2
  have sf3 := sf 3
  have HW0 := hidb hW0
  clear hW0 HFIN k hpg hla hhd zf sf HB hP h0 hf hn
  go_enter Tryz.func88, Tryz.ntmps88
  go_wp2_with (first
    | (go_at_call 41; go_loud (rw [← HW0.out]; (with_reducible refine CF.mono ?_); rintro e w1 ⟨rfl, rfl⟩)))
  obtain ⟨⟨b0, b1, b2, b3, b4, b5, b6, _⟩, ⟨t0, t1, t2, t3, _⟩⟩ := HE.out
  unfold set4 set7 at b0 b1 b2 b3 b4 b5 b6 t0 t1 t2 t3
  refine bodyPost_ret (v := .tuple #[.agg #[.int .i64 pg, .slice A m c, .slice A2 m2 c2, .int .i64 la, .slice A3 m3 c3, .slice A4 m4 c4, .bool hd], .agg #[.int .i64 0, .int .i64 0, .int .i64 0, .int .i64 0], .int .i64 1]) (by simp [results, Tryz.results88, go_sem, b0, b1, b2, b3, b4, b5, b6, t0, t1, t2, t3]) rfl ?_
  exact HEND.out

end Go.Proofs.YtonmkanppapjjaaGreat
