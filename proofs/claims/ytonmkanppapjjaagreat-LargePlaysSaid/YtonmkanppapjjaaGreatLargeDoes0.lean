/- What the walks of layer 10's acts lean on: both sides behind an act. -/
import Derived.Test.YtonmkanppapjjaaGreatLargeLaws0
import Derived.Test.YtonmkanppapjjaaGreatLargeStep
import Derived.Test.YtonmkanppapjjaaGreatKeepGive
namespace Go.Proofs.YtonmkanppapjjaaGreat
open Go.RowKit Go.Maps
set_option linter.unusedVariables false

section
variable {w W W' : World} {p hp : Nat} {S T : Nat → Prop} {v : LargeV} {k : Nat} {pages : Int} {Sh : Nat → Prop} {K V : Option Addr} {kc vc : Nat}
theorem KpAt.kept (k : KpAt W Sh p hp K kc V vc v) (hK : Kept T W W') (hn : ∀ b, KpS Sh p K V b → ¬ T b) : KpAt W' Sh p hp K kc V vc v := by
  have hb := hK.block p k.ltp (hn p (Or.inr (Or.inl rfl)))
  have hc : ∀ j, W'.cell? ⟨p, j, none⟩ = W.cell? ⟨p, j, none⟩ := fun j => World.cell?_of_block (w := W) (a := ⟨p, j, none⟩) hb
  exact ⟨(hc 0).trans k.c0, (hc 1).trans k.c1, (hc 2).trans k.c2, (hc 3).trans k.c3, fun j => (World.frozen?_of_block (w := W) (a := ⟨p, j, none⟩) hb).trans (k.fz j), own_kept k.k1 hK (fun b e => hn b (Or.inr (Or.inr (Or.inl ((ab_eq K _ _).symm.trans e))))), own_kept k.k2 hK (fun b e => hn b (Or.inr (Or.inr (Or.inr ((ab_eq V _ _).symm.trans e))))), k.hp_.keep hK (fun b h => hn b (Or.inl h)), k.lk, k.lv, k.n1, k.n2, k.n3, k.n4⟩
theorem KeepSt.kept (s : KeepSt w W p hp S v k pages) (hK : Kept T W W') (hn : ∀ b, S b → ¬ T b) (hT : ∀ b, T b → w.heap.size ≤ b) : KeepSt w W' p hp S v k pages := by
  obtain ⟨⟨Sh, K, kc, V, vc, q1, q2⟩, l0, l1, l2, l3, l4, l5⟩ := s
  exact ⟨⟨Sh, K, kc, V, vc, q1.kept hK fun b hb => hn b (q2 b hb), q2⟩, l0, fun b h => Nat.lt_of_lt_of_le (l1 b h) hK.size, l2, l3.trans (hK.below l3.size hT), l4, l5⟩
theorem KeepSt.later (s : KeepSt w W p hp S v k pages) {k' : Nat} (h : k ≤ k') : KeepSt w W p hp S v k' pages := ⟨s.at_, s.ok, s.lt, s.low, s.bel, by have := s.la; omega, s.pg⟩
end
/-- What an act answers, and both sides behind it. -/
def DoesTo (w W : World) (p hp : Nat) (S D : Nat → Prop) (v' : LargeV) (k : Nat) (pages : Int) (e : Ending) (WF : World) : Prop :=
  ∃ mv, e = .returned (.tuple #[.bool true, mv]) ∧ ∃ S', KeepSt w WF p hp S' v' k pages ∧ KoIs WF (fun b => ¬ S' b ∧ D b) v' mv ∧ SideK S W S' WF
/-- Both sides ahead of an act's answer: the document's keeper lies in W2, the code's in w3. -/
theorem does_end {w W W2 w3 W4 WF : World} {p hp : Nat} {S S' D : Nat → Prop} {v' : LargeV} {k' : Nat} {pages : Int} {A A2 A3 A4 : Option Addr} {n c n2 c2 n3 c3 n4 c4 : Nat} {pg la : Int} {hd : Bool}
    (hB2 : Below W.heap.size W W2) (hr : W.heap.size + 2 < W2.heap.size) (hS : ∀ b, S b → b < W.heap.size) (hw : w.heap.size ≤ W.heap.size) (d : Ko W2 (fun b => (¬ S b ∧ D b) ∧ W.heap.size + 2 ≠ b) v' A n c A2 n2 c2 A3 n3 c3 A4 n4 c4) (h0 : 0 < v'.h.free.length)
    (s3 : KeepSt w w3 p hp S' v' k' pages) (hs : SideK S W2 S' w3) (hb4 : Below w3.heap.size w3 W4) (hK : Kept (fun b => W.heap.size + 2 = b) W4 WF) (e1 : v'.h.pages = pg) (e2 : v'.h.last = la) (e3 : v'.held = hd) :
    DoesTo w W p hp S D v' k' pages (.returned (.tuple #[.bool true, .agg #[.int .i64 pg, .slice A n c, .slice A2 n2 c2, .int .i64 la, .slice A3 n3 c3, .slice A4 n4 c4, .bool hd]])) WF := by
  subst e1 e2 e3
  have h2 := hB2.size
  have hn : ¬ S' (W.heap.size + 2) := fun c => by
    rcases hs.2 _ c with h | h
    · have := hS _ h; omega
    · omega
  have d3 := ((d.apart h0).kept hs.1 (fun b hb => hb.1.1.1)).below hb4 |>.kept hK (fun b hb => hb.1.2)
  refine ⟨_, rfl, S', ((s3.below hb4).kept hK (fun b hb e => hn (e ▸ hb)) (fun b e => by omega)), (d3.isv).weaken (fun b hb => ⟨fun c => ?_, hb.1.1.2⟩), ⟨?_, fun b hb => ?_⟩⟩
  · rcases hs.2 b c with h | h
    · exact hb.1.1.1 h
    · have := hb.2; omega
  · refine (((Kept.of_below hB2 S).trans hs.1 (fun b _ h => h)).trans (Kept.of_below hb4 S) (fun b _ h => h)).trans hK (fun b hb e => ?_)
    omega
  · rcases hs.2 b hb with h | h
    · exact Or.inl h
    · exact Or.inr (by omega)
theorem SideK.f7 {S S' : Nat → Prop} {W W' : World} {b : Nat} {x0 x1 x2 x3 x4 x5 x6 : Value} (h : SideK S W S' W') (f : F7 W b x0 x1 x2 x3 x4 x5 x6) (hn : ¬ S b) : F7 W' b x0 x1 x2 x3 x4 x5 x6 := f.kept h.1 hn
theorem SideK.f4 {S S' : Nat → Prop} {W W' : World} {b : Nat} {x0 x1 x2 x3 : Value} (h : SideK S W S' W') (f : F4 W b x0 x1 x2 x3) (hn : ¬ S b) : F4 W' b x0 x1 x2 x3 := f.kept h.1 hn

/-- Take, in all cases. -/
theorem ref_ktake (P : Nat → Prop) (q : LargeV) (v : Value) (n : Int) (w : World) (hP : ∀ b, w.heap.size ≤ b → P b) (hv : KoIs w P q v) (o : LOk q) (hla0 : q.h.last ≤ 1000000000) (hn : in64 n) :
    Calls Tryz.prog 88 #[v, .int .i64 n] w (TookIs w P (lTake q n)) := by
  cases hf : lFits n with
  | false => rw [lTake_no hf]; exact ref_ktake_no P q v n w hP hv (by rw [o.hok.fl]; omega) hn hf
  | true => exact ref_ktake_yes P q v n w hP hv o o.few hla0 hn hf

/-- An act's three blocks: the document's keeper, the act, the result. -/
structure ActSt (w W W0 : World) (p hp : Nat) (S D : Nat → Prop) (v : LargeV) (k : Nat) (pages : Int) (a : Act10) (A : Option Addr) (n c : Nat) (A2 : Option Addr) (n2 c2 : Nat) (A3 : Option Addr) (n3 c3 : Nat) (A4 : Option Addr) (n4 c4 : Nat) : Prop where
  st : KeepSt w W p hp S v k pages
  ko : Ko W0 (fun b => (¬ S b ∧ D b) ∧ W.heap.size + 2 ≠ b) v A n c A2 n2 c2 A3 n3 c3 A4 n4 c4
  m7 : F7 W0 W.heap.size (.int .i64 v.h.pages) (.slice A n c) (.slice A2 n2 c2) (.int .i64 v.h.last) (.slice A3 n3 c3) (.slice A4 n4 c4) (.bool v.held)
  a5 : ∀ W', Below W0.heap.size W0 W' → W'.cell? ⟨W.heap.size + 1, 0, none⟩ = some (.int .i64 a.kind) ∧ W'.cell? ⟨W.heap.size + 1, 1, none⟩ = some (.int .i64 a.n) ∧ W'.cell? ⟨W.heap.size + 1, 2, none⟩ = some (.int .i64 a.order) ∧ W'.cell? ⟨W.heap.size + 1, 3, none⟩ = some (.bool a.on) ∧ W'.cell? ⟨W.heap.size + 1, 4, none⟩ = some (.slice a.A a.len a.cap)
  r7 : F7 W0 (W.heap.size + 2) (.int .i64 0) (.slice none 0 0) (.slice none 0 0) (.int .i64 0) (.slice none 0 0) (.slice none 0 0) (.bool false)
  bel : Below W.heap.size W W0
  sz : W0.heap.size = W.heap.size + 3
theorem ActSt.start {w W : World} {p hp : Nat} {S D : Nat → Prop} {v : LargeV} {k : Nat} {pages : Int} (s : KeepSt w W p hp S v k pages) (a : Act10) {A A2 A3 A4 : Option Addr} {n c n2 c2 n3 c3 n4 c4 : Nat} (d : Ko W (fun b => ¬ S b ∧ D b) v A n c A2 n2 c2 A3 n3 c3 A4 n4 c4) (t1 t2 t3 : TypeId) :
    ActSt w W (((W.alloc (.cells #[.int .i64 v.h.pages, .slice A n c, .slice A2 n2 c2, .int .i64 v.h.last, .slice A3 n3 c3, .slice A4 n4 c4, .bool v.held] t1)).alloc (.cells #[.int .i64 a.kind, .int .i64 a.n, .int .i64 a.order, .bool a.on, .slice a.A a.len a.cap] t2)).alloc (.cells #[.int .i64 0, .slice none 0 0, .slice none 0 0, .int .i64 0, .slice none 0 0, .slice none 0 0, .bool false] t3)) p hp S D v k pages a A n c A2 n2 c2 A3 n3 c3 A4 n4 c4 := by
  have hB : Below W.heap.size W (((W.alloc (.cells #[.int .i64 v.h.pages, .slice A n c, .slice A2 n2 c2, .int .i64 v.h.last, .slice A3 n3 c3, .slice A4 n4 c4, .bool v.held] t1)).alloc (.cells #[.int .i64 a.kind, .int .i64 a.n, .int .i64 a.order, .bool a.on, .slice a.A a.len a.cap] t2)).alloc (.cells #[.int .i64 0, .slice none 0 0, .slice none 0 0, .int .i64 0, .slice none 0 0, .slice none 0 0, .bool false] t3)) :=
    (((Below.refl _ _).alloc (Nat.le_refl _) _).alloc (by simp) _).alloc (by simp; omega) _
  have e3 := F7.made ((W.alloc (.cells #[.int .i64 v.h.pages, .slice A n c, .slice A2 n2 c2, .int .i64 v.h.last, .slice A3 n3 c3, .slice A4 n4 c4, .bool v.held] t1)).alloc (.cells #[.int .i64 a.kind, .int .i64 a.n, .int .i64 a.order, .bool a.on, .slice a.A a.len a.cap] t2)) (.int .i64 0) (.slice none 0 0) (.slice none 0 0) (.int .i64 0) (.slice none 0 0) (.slice none 0 0) (.bool false) t3
  simp only [World.size_alloc] at e3
  refine ⟨s, ((d.apart (by rw [s.ok.hok.fl]; omega)).weaken (fun b h => ⟨h.1, fun e => by have := h.2; omega⟩)).below hB, ((F7.made W _ _ _ _ _ _ _ _).al _).al _, fun W' hb => ?_, e3, hB, by simp⟩
  have q : ∀ j, W'.cell? ⟨W.heap.size + 1, j, none⟩ = _ := fun j => hb.cell (p := ⟨W.heap.size + 1, j, none⟩) (by simp)
  rw [q, q, q, q, q]
  simp [go_sem]

end Go.Proofs.YtonmkanppapjjaaGreat
