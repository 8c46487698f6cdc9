/- What 'Flush' and 'Hold' of the document's own keeper return. -/
import Derived.Test.YtonmkanppapjjaaGreatKeepTwo
import Derived.Test.YtonmkanppapjjaaGreatKeepIn
import Derived.Deep.RegionLaw
namespace Go.Proofs.YtonmkanppapjjaaGreat
open Go.RowKit
set_option linter.unusedVariables false

/-- A new keeper and another result that a call answers. -/
def HeldIs (w : World) (P : Nat → Prop) (q : LargeV) (u : Value) (e : Ending) (w' : World) : Prop := ∃ v', e = .returned (.tuple #[v', u]) ∧ KoIs w' P q v' ∧ Below w.heap.size w w'
/-- Its rows are short. -/
structure Few (q : LargeV) : Prop where
  l : q.h.l.length ≤ 60000
  k : q.kept.length ≤ 60000
  w : q.waits.length ≤ 60000
theorem in64_few {x : Int} (h0 : 0 ≤ x) (h1 : x ≤ 100000000000) : in64 x := ⟨by omega, by omega⟩
theorem sl_of_ints {W : World} {base : Nat} {e : TypeId} {A : Option Addr} {n c : Nat} {l : List Int} (h : W.ownsRow base e 1 (.slice A n c) n (l.map iv)) (hl : l.length = n) : Sl W W.heap.size A n (l.map iv) := by
  subst hl
  exact Sl.of_own h
/-- The heap frees spans that are there, in any world that comes up. -/
theorem t_kdrop {W : World} {a x : Nat} {D : Nat → Prop} {h : HeapV} {pg la : Int} {A A2 : Option Addr} {n c n2 c2 : Nat} (hx : x ≤ W.heap.size) (hv : HIs W (OldD a x D) h (hval pg A n c A2 n2 c2 la)) (o : HOk h) (hl : h.l.length ≤ 60000) (hla : h.last ≤ 1000000000) (AI : Option Addr) (m cI : Nat) (l : List Spn) (hs : Sl W W.heap.size AI m ((l.map (·.1)).map iv)) (hm : m ≤ 60000) (hmem : ∀ s ∈ l, s ∈ h.l) (g : HeapV) (no : Int) (e : hDrop h (l.map (·.1)) = (g, no)) :
    Calls Tryz.prog 139 #[hval pg A n c A2 n2 c2 la, .slice AI m cI] W fun e w' => ∃ B k d B2 k2 d2, e = .returned (.tuple #[hval pg B k d B2 k2 d2 la, .int .i64 no]) ∧ HIs w' (OldD a x D) g (hval pg B k d B2 k2 d2 la) ∧ Below W.heap.size W w' := by
  refine (ref_hdrop (OldD a x D) h _ AI m cI (l.map (·.1)) W (fun b hb => Or.inr (by omega)) hv hs (by omega) (fun i hi => ?_) o.fl (by omega) (fun s hs => ?_)).mono ?_
  · obtain ⟨s, hs, rfl⟩ := List.mem_map.1 hi
    have h1 := o.idr s (hmem s hs)
    exact in64_few (by omega) (by omega)
  · have e1 := o.start hs
    have e2 := o.p1
    exact ⟨in64_few (by omega) (by omega), in64_few (by omega) (by omega)⟩
  · rw [e]
    rintro e' w' ⟨⟨v', rfl, hv'⟩, hb⟩
    have hp := hDrop_ok o (l.map (·.1))
    rw [e] at hp
    obtain ⟨p1, _⟩ := hv.parts_
    have h1 : g.pages = h.pages := hp.2.1
    have h2 : g.last = h.last := hp.2.2.2
    obtain ⟨B, d, B2, d2, ev, hrest⟩ := hv'
    refine ⟨B, g.free.length, d, B2, g.l.length, d2, ?_, ⟨B, d, B2, d2, ?_, hrest⟩, hb⟩
    · rw [ev, h1, h2, p1.1, p1.2.2.2]; rfl
    · rw [h1, h2, p1.1, p1.2.2.2]; rfl
theorem oldD_not {a x : Nat} {D : Nat → Prop} : ∀ b, OldD a x D b → ¬ (a ≤ b ∧ b < x) := fun b hb hc => by
  rcases hb with h | h <;> omega
theorem oldD_P {a x : Nat} {P : Nat → Prop} (hax : a ≤ x) (hP : ∀ b, a ≤ b → P b) : ∀ b, OldD a x P b → P b := fun b hb => by
  rcases hb with h | h
  · exact h.2
  · exact hP b (by omega)
/-- An empty row that a call has just made. -/
theorem SpRow.new0 {W : World} {a x E : Nat} {P : Nat → Prop} (h1 : x ≤ E) (h2 : E < W.heap.size) : SpRow W (OldD a x P) (some ⟨E, 0, none⟩) 0 0 [] :=
  ⟨⟨rfl, fun h => absurd h (by omega)⟩, fun a e => by obtain rfl := Option.some.inj e; exact Or.inr h1, ⟨Nat.le_refl _, by omega, fun e => by cases e⟩, fun a e => by obtain rfl := Option.some.inj e; exact h2⟩

set_option maxRecDepth 100000 in
set_option maxHeartbeats 8000000 in
theorem ref_kflush (P : Nat → Prop) (q : LargeV) (v : Value) (w : World) (hP : ∀ b, w.heap.size ≤ b → P b) (hv : KoIs w P q v) (o : LOk q) (hf : Few q) (hla0 : q.h.last ≤ 1000000000) :
    Calls Tryz.prog 91 #[v] w (HeldIs w P (lFlush q) ((.int .i64 (q.kept.length : Int)))) := by
  have h0 : 0 < q.h.free.length := by rw [o.hok.fl]; omega
  obtain ⟨A, m, c, A2, m2, c2, A3, m3, c3, A4, m4, c4, rfl, k⟩ := hv
  obtain ⟨g, hg⟩ : ∃ g, hDrop q.h (q.kept.map (·.1)) = g := ⟨_, rfl⟩
  obtain ⟨g, no⟩ := g
  have hgo := hDrop_ok o.hok (q.kept.map (·.1))
  rw [hg] at hgo
  have e1 : g.pages = q.h.pages := hgo.2.1
  have e2 : g.last = q.h.last := hgo.2.2.2
  have eq2 : lFlush q = (⟨g, [], q.waits, q.held⟩ : LargeV) := by
    unfold lFlush
    rw [hg]
  rw [eq2]
  have hlr : q.kept.length = m3 := k.l3
  have hfr : m3 ≤ 60000 := by rw [← hlr]; exact hf.k
  obtain ⟨pg, hpg⟩ : ∃ x, q.h.pages = x := ⟨_, rfl⟩
  obtain ⟨la, hla⟩ : ∃ x, q.h.last = x := ⟨_, rfl⟩
  obtain ⟨hd, hhd⟩ : ∃ x, q.held = x := ⟨_, rfl⟩
  obtain ⟨W0, hW0⟩ : ∃ W0, W0 = ((w.alloc (.cells #[.int .i64 pg, .slice A m c, .slice A2 m2 c2, .int .i64 la, .slice A3 m3 c3, .slice A4 m4 c4, .bool hd] 76)).alloc (.cells #[.int .i64 0, .slice none 0 0, .slice none 0 0, .int .i64 0, .slice none 0 0, .slice none 0 0, .bool false] 76)) := ⟨_, rfl⟩
  have HM := held_made w (.int .i64 pg) (.slice A m c) (.slice A2 m2 c2) (.int .i64 la) (.slice A3 m3 c3) (.slice A4 m4 c4) (.bool hd) (.int .i64 0) (.slice none 0 0) (.slice none 0 0) (.int .i64 0) (.slice none 0 0) (.slice none 0 0) (.bool false) 76 76
  rw [← hW0] at HM
  obtain ⟨f0, f1, HB, hz⟩ := HM
  have HKO := hidb (k.open_ h0 HB)
  have hhi := hidb (show ∀ W, Below W0.heap.size W0 W → HIs W (OldD w.heap.size W0.heap.size P) q.h (hval pg A m c A2 m2 c2 la) from fun W hb => by rw [← hpg, ← hla]; exact (HKO.out.below hb).hi)
  have CN : Hid (∀ W, Below W0.heap.size W0 W → Calls Tryz.prog 43 #[.slice A3 m3 c3] W fun e w1 => ∃ A5 c5, e = .returned (.slice A5 m3 c5) ∧ Hid (Sl w1 w1.heap.size A5 m3 ((q.kept.map (·.1)).map iv)) ∧ Hid (Below W.heap.size W w1)) := hidb (fun W hb => by
    refine (ref_lnumbers A3 m3 c3 q.kept W (HKO.out.below hb).kr.row (by omega)).mono ?_
    rintro e w1 ⟨A5, c5, rfl, ho, hb1⟩
    have hlm : (q.kept.map (·.1)).length = m3 := by rw [List.length_map, hlr]
    rw [hlm] at ho ⊢
    exact ⟨A5, c5, rfl, hidb (sl_of_ints ho hlm), hidb hb1⟩)
  have CD : Hid (∀ W A5 c5, Below W0.heap.size W0 W → Hid (Sl W W.heap.size A5 m3 ((q.kept.map (·.1)).map iv)) → Calls Tryz.prog 139 #[.agg #[.int .i64 pg, .slice A m c, .slice A2 m2 c2, .int .i64 la], .slice A5 m3 c5] W fun e w5 => ∃ B j d B2 j2 d2, e = .returned (.tuple #[.agg #[.int .i64 pg, .slice B j d, .slice B2 j2 d2, .int .i64 la], .int .i64 no]) ∧ Hid (HIs w5 (OldD w.heap.size W0.heap.size P) g (hval pg B j d B2 j2 d2 la)) ∧ Hid (Below W.heap.size W w5)) := hidb (fun W A5 c5 hb hs =>
    (t_kdrop hb.size (hhi.out W hb) o.hok hf.l hla0 A5 m3 c5 q.kept hs.out hfr (fun s hs => (o.keptm s hs).1) g no hg).mono fun e w5 ⟨B, j, d, B2, j2, d2, x1, x2, x3⟩ => ⟨B, j, d, B2, j2, d2, x1, hidb x2, hidb x3⟩)
  have HC : Hid (∀ W, Below W0.heap.size W0 W → F7 W w.heap.size (.int .i64 pg) (.slice A m c) (.slice A2 m2 c2) (.int .i64 la) (.slice A3 m3 c3) (.slice A4 m4 c4) (.bool hd) ∧ F7 W (w.heap.size + 1) (.int .i64 0) (.slice none 0 0) (.slice none 0 0) (.int .i64 0) (.slice none 0 0) (.slice none 0 0) (.bool false)) := hidb (fun W hb => ⟨f0.below hb, f1.below hb⟩)
  have HFIN : Hid (∀ w5 WF B j d B2 j2 d2, Below W0.heap.size W0 w5 → HIs w5 (OldD w.heap.size W0.heap.size P) g (hval pg B j d B2 j2 d2 la) → Kept (fun b => w.heap.size ≤ b ∧ b < W0.heap.size) w5 WF → w5.heap.size < WF.heap.size → HeldIs w P (⟨g, [], q.waits, hd⟩ : LargeV) (.int .i64 (m3 : Int)) (.returned (.tuple #[.agg #[.int .i64 pg, .slice B j d, .slice B2 j2 d2, .int .i64 la, .slice (some ⟨w5.heap.size, 0, none⟩) 0 0, .slice A4 m4 c4, .bool hd], (.int .i64 (m3 : Int))])) WF) := hidb (fun w5 WF B j d B2 j2 d2 hb hh hK hE => by
    have hb5 := HB.trans (hb.mono HB.size)
    have hko := (HKO.out.below hb).kept hK oldD_not
    refine ⟨_, rfl, KoIs.weaken ⟨B, j, d, B2, j2, d2, some ⟨w5.heap.size, 0, none⟩, 0, 0, A4, m4, c4, ?_, ⟨?_, ?_, ?_⟩⟩ (oldD_P HB.size hP), hb5.trans (hK.below hb5.size fun b hb => hb.1)⟩
    rotate_left 1
    · show HIs WF _ g _
      rw [e1, e2, hpg, hla]
      exact hh.keptT hK oldD_not
    · exact SpRow.new0 hb.size hE
    · exact hko.wr
    · show _ = kval g.pages _ _ _ _ _ _ g.last _ _ _ _ _ _ hd
      rw [e1, e2, hpg, hla]; rfl)
  have HEND : Hid (∀ w5 B j d B2 j2 d2, Below W0.heap.size W0 w5 → Hid (HIs w5 (OldD w.heap.size W0.heap.size P) g (hval pg B j d B2 j2 d2 la)) →
      F7 (set4 w5 w.heap.size (.int .i64 pg) (.slice B j d) (.slice B2 j2 d2) (.int .i64 la)) w.heap.size (.int .i64 pg) (.slice B j d) (.slice B2 j2 d2) (.int .i64 la) (.slice A3 m3 c3) (.slice A4 m4 c4) (.bool hd) ∧ F7 (set4 w5 w.heap.size (.int .i64 pg) (.slice B j d) (.slice B2 j2 d2) (.int .i64 la)) (w.heap.size + 1) (.int .i64 0) (.slice none 0 0) (.slice none 0 0) (.int .i64 0) (.slice none 0 0) (.slice none 0 0) (.bool false) ∧ (set4 w5 w.heap.size (.int .i64 pg) (.slice B j d) (.slice B2 j2 d2) (.int .i64 la)).heap.size = w5.heap.size ∧ w.heap.size + 1 < w5.heap.size ∧
      ∀ W4, W4 = set4 w5 w.heap.size (.int .i64 pg) (.slice B j d) (.slice B2 j2 d2) (.int .i64 la) → 
        F7 ((set7 (W4.setCell ⟨w.heap.size, 4, none⟩ (.slice (some ⟨w5.heap.size, 0, none⟩) 0 0)) (w.heap.size + 1) (.int .i64 pg) (.slice B j d) (.slice B2 j2 d2) (.int .i64 la) (.slice (some ⟨w5.heap.size, 0, none⟩) 0 0) (.slice A4 m4 c4) (.bool hd)).alloc (.cells #[] 50)) (w.heap.size + 1) (.int .i64 pg) (.slice B j d) (.slice B2 j2 d2) (.int .i64 la) (.slice (some ⟨w5.heap.size, 0, none⟩) 0 0) (.slice A4 m4 c4) (.bool hd) ∧
        HeldIs w P (⟨g, [], q.waits, hd⟩ : LargeV) (.int .i64 (m3 : Int)) (.returned (.tuple #[.agg #[.int .i64 pg, .slice B j d, .slice B2 j2 d2, .int .i64 la, .slice (some ⟨w5.heap.size, 0, none⟩) 0 0, .slice A4 m4 c4, .bool hd], (.int .i64 (m3 : Int))])) ((set7 (W4.setCell ⟨w.heap.size, 4, none⟩ (.slice (some ⟨w5.heap.size, 0, none⟩) 0 0)) (w.heap.size + 1) (.int .i64 pg) (.slice B j d) (.slice B2 j2 d2) (.int .i64 la) (.slice (some ⟨w5.heap.size, 0, none⟩) 0 0) (.slice A4 m4 c4) (.bool hd)).alloc (.cells #[] 50))) := hidb (fun w5 B j d B2 j2 d2 hb hh => by
    obtain ⟨g0, g1⟩ := HC.out w5 hb
    have hsz := hb.size
    have hz5 : (set4 w5 w.heap.size (.int .i64 pg) (.slice B j d) (.slice B2 j2 d2) (.int .i64 la)).heap.size = w5.heap.size := by unfold set4; simp
    have g1' := g1.aside4 (b' := w.heap.size) (by omega) (.int .i64 pg) (.slice B j d) (.slice B2 j2 d2) (.int .i64 la)
    refine ⟨g0.set4_ _ _ _ _, g1', hz5, by omega, fun W4 hW4 => ?_⟩
    rw [← hW4] at g1' hz5
    refine ⟨((g1'.other (by omega) 4 _).put _ _ _ _ _ _ _).al _, HFIN.out w5 _ B j d B2 j2 d2 hb hh.out ?_ ?_⟩
    · rw [hW4]
      exact kept_al (kept_set7 ((kept_put4 (Kept.refl _ _) (Or.inl ⟨Nat.le_refl _, by omega⟩) _ _ _ _).set (a := ⟨w.heap.size, 4, none⟩) (Or.inl ⟨Nat.le_refl _, by show w.heap.size < _; omega⟩) _) (Or.inl ⟨by omega, by omega⟩) _ _ _ _ _ _ _) _
    · unfold set7; simp; omega)
  have HW0 := hidb hW0
  unfold kval
  rw [hpg, hla, hhd, hlr]
  obtain ⟨⟨c0, c1, c2', c3', c4', c5', c6', cf⟩, _⟩ := HC.out W0 (Below.refl _ _)
  have cf0 := cf 0
  clear hW0 HFIN k hpg hla hhd HB hP h0 hf hla0 o hg hgo e1 e2 eq2 hlr hhi HKO f0 f1 hz cf
  go_enter Tryz.func91, Tryz.ntmps91
  go_wp2
  rw [← HW0.out]
  go_region_law (first
    | (go_simp; go_at_call 43; (with_reducible refine (CN.out _ (by repeat (first | assumption | exact Below.refl _ _ | refine Below.drew ?_ | refine Below.alloc ?_ (by first | omega | (simp; done) | (simp; omega)) _))).mono ?_); rintro e w1 ⟨A5, c5, rfl, HS5, HB1⟩; have HB1' : Below W0.heap.size W0 w1 := (Below.trans (b := W0.drew) (Below.refl _ W0).drew HB1.out); obtain ⟨⟨k0, k1, k2, k3, k4, k5, k6, _⟩, _⟩ := HC.out w1 HB1')
    | (go_simp; go_at_call 139; (with_reducible refine (CD.out _ _ _ (by repeat (first | assumption | exact Below.refl _ _ | refine Below.drew ?_ | refine Below.alloc ?_ (by first | omega | (simp; done) | (simp; omega)) _)) HS5).mono ?_); rintro e w5 ⟨B, j, d, B2, j2, d2, rfl, HH5, HB5⟩; have HB5' := hidb (HB1'.trans (HB5.out.mono HB1'.size)); obtain ⟨⟨x0, x1, x2, x3, x4, x5, x6, xf⟩, _⟩ := HC.out w5 HB5'.out; have xf0 := xf 0; have xf1 := xf 1; have xf2 := xf 2; have xf3 := xf 3; clear xf))
  all_goals
    obtain ⟨⟨y0, y1, y2, y3, y4, y5, y6, yf⟩, ⟨z0, z1, z2, z3, z4, z5, z6, zf⟩, hz5, hlt5, HE⟩ := HEND.out w5 B j d B2 j2 d2 HB5'.out HH5
    obtain ⟨W4, hW4⟩ : ∃ W4, W4 = set4 w5 w.heap.size (.int .i64 pg) (.slice B j d) (.slice B2 j2 d2) (.int .i64 la) := ⟨_, rfl⟩
    have HE2 := hidb (HE W4 hW4)
    rw [← hW4] at y0 y1 y2 y3 y4 y5 y6 yf z0 z1 z2 z3 z4 z5 z6 zf hz5
    have hW5 := hW4
    unfold set4 at hW5
    rw [← hW5]
    have hq0 : w.heap.size < W4.heap.size := by omega
    have hq1 : w.heap.size + 1 < W4.heap.size := by omega
    have HZ5 := hidb hz5
    clear hz5
    have yf4 := yf 4
    have zf0 := zf 0
    have zf1 := zf 1
    have zf2 := zf 2
    have zf3 := zf 3
    have zf4 := zf 4
    have zf5 := zf 5
    have zf6 := zf 6
    clear HE hW4 hW5 yf zf x0 x1 x2 x3 x4 x5 x6 xf0 xf1 xf2 xf3 c0 c1 c2' c3' c4' c5' c6' k0 k1 k2 k3 k4 k5 k6
    go_wp2
    rw [HZ5.out]
    obtain ⟨⟨b0, b1, b2, b3, b4, b5, b6, _⟩, HR⟩ := HE2.out
    unfold set7 at b0 b1 b2 b3 b4 b5 b6
    refine bodyPost_ret (v := .tuple #[.agg #[.int .i64 pg, .slice B j d, .slice B2 j2 d2, .int .i64 la, .slice (some ⟨w5.heap.size, 0, none⟩) 0 0, .slice A4 m4 c4, .bool hd], (.int .i64 (m3 : Int))]) (by simp [results, Tryz.results91, go_sem, b0, b1, b2, b3, b4, b5, b6]) rfl ?_
    exact HR

set_option maxRecDepth 100000 in
set_option maxHeartbeats 8000000 in
theorem ref_khold_off (P : Nat → Prop) (q : LargeV) (v : Value) (w : World) (hP : ∀ b, w.heap.size ≤ b → P b) (hv : KoIs w P q v) (o : LOk q) (hf : Few q) (hla0 : q.h.last ≤ 1000000000) :
    Calls Tryz.prog 90 #[v, .bool false] w (HeldIs w P (lHold q false) ((.bool q.held))) := by
  have h0 : 0 < q.h.free.length := by rw [o.hok.fl]; omega
  obtain ⟨A, m, c, A2, m2, c2, A3, m3, c3, A4, m4, c4, rfl, k⟩ := hv
  obtain ⟨g, hg⟩ : ∃ g, hDrop q.h (q.waits.map (·.1)) = g := ⟨_, rfl⟩
  obtain ⟨g, no⟩ := g
  have hgo := hDrop_ok o.hok (q.waits.map (·.1))
  rw [hg] at hgo
  have e1 : g.pages = q.h.pages := hgo.2.1
  have e2 : g.last = q.h.last := hgo.2.2.2
  have eq2 : lHold q false = (⟨g, q.kept, [], false⟩ : LargeV) := by
    unfold lHold
    simp only [hg, Bool.false_eq_true, if_false]
  rw [eq2]
  have hlr : q.waits.length = m4 := k.l4
  have hfr : m4 ≤ 60000 := by rw [← hlr]; exact hf.w
  obtain ⟨pg, hpg⟩ : ∃ x, q.h.pages = x := ⟨_, rfl⟩
  obtain ⟨la, hla⟩ : ∃ x, q.h.last = x := ⟨_, rfl⟩
  obtain ⟨hd, hhd⟩ : ∃ x, q.held = x := ⟨_, rfl⟩
  obtain ⟨W0, hW0⟩ : ∃ W0, W0 = ((w.alloc (.cells #[.int .i64 pg, .slice A m c, .slice A2 m2 c2, .int .i64 la, .slice A3 m3 c3, .slice A4 m4 c4, .bool false] 76)).alloc (.cells #[.int .i64 0, .slice none 0 0, .slice none 0 0, .int .i64 0, .slice none 0 0, .slice none 0 0, .bool false] 76)) := ⟨_, rfl⟩
  have HM := held_made w (.int .i64 pg) (.slice A m c) (.slice A2 m2 c2) (.int .i64 la) (.slice A3 m3 c3) (.slice A4 m4 c4) (.bool false) (.int .i64 0) (.slice none 0 0) (.slice none 0 0) (.int .i64 0) (.slice none 0 0) (.slice none 0 0) (.bool false) 76 76
  rw [← hW0] at HM
  obtain ⟨f0, f1, HB, hz⟩ := HM
  have HKO := hidb (k.open_ h0 HB)
  have hhi := hidb (show ∀ W, Below W0.heap.size W0 W → HIs W (OldD w.heap.size W0.heap.size P) q.h (hval pg A m c A2 m2 c2 la) from fun W hb => by rw [← hpg, ← hla]; exact (HKO.out.below hb).hi)
  have CN : Hid (∀ W, Below W0.heap.size W0 W → Calls Tryz.prog 43 #[.slice A4 m4 c4] W fun e w1 => ∃ A5 c5, e = .returned (.slice A5 m4 c5) ∧ Hid (Sl w1 w1.heap.size A5 m4 ((q.waits.map (·.1)).map iv)) ∧ Hid (Below W.heap.size W w1)) := hidb (fun W hb => by
    refine (ref_lnumbers A4 m4 c4 q.waits W (HKO.out.below hb).wr.row (by omega)).mono ?_
    rintro e w1 ⟨A5, c5, rfl, ho, hb1⟩
    have hlm : (q.waits.map (·.1)).length = m4 := by rw [List.length_map, hlr]
    rw [hlm] at ho ⊢
    exact ⟨A5, c5, rfl, hidb (sl_of_ints ho hlm), hidb hb1⟩)
  have CD : Hid (∀ W A5 c5, Below W0.heap.size W0 W → Hid (Sl W W.heap.size A5 m4 ((q.waits.map (·.1)).map iv)) → Calls Tryz.prog 139 #[.agg #[.int .i64 pg, .slice A m c, .slice A2 m2 c2, .int .i64 la], .slice A5 m4 c5] W fun e w5 => ∃ B j d B2 j2 d2, e = .returned (.tuple #[.agg #[.int .i64 pg, .slice B j d, .slice B2 j2 d2, .int .i64 la], .int .i64 no]) ∧ Hid (HIs w5 (OldD w.heap.size W0.heap.size P) g (hval pg B j d B2 j2 d2 la)) ∧ Hid (Below W.heap.size W w5)) := hidb (fun W A5 c5 hb hs =>
    (t_kdrop hb.size (hhi.out W hb) o.hok hf.l hla0 A5 m4 c5 q.waits hs.out hfr (fun s hs => (o.waitsm s hs).1) g no hg).mono fun e w5 ⟨B, j, d, B2, j2, d2, x1, x2, x3⟩ => ⟨B, j, d, B2, j2, d2, x1, hidb x2, hidb x3⟩)
  have HC : Hid (∀ W, Below W0.heap.size W0 W → F7 W w.heap.size (.int .i64 pg) (.slice A m c) (.slice A2 m2 c2) (.int .i64 la) (.slice A3 m3 c3) (.slice A4 m4 c4) (.bool false) ∧ F7 W (w.heap.size + 1) (.int .i64 0) (.slice none 0 0) (.slice none 0 0) (.int .i64 0) (.slice none 0 0) (.slice none 0 0) (.bool false)) := hidb (fun W hb => ⟨f0.below hb, f1.below hb⟩)
  have HFIN : Hid (∀ w5 WF B j d B2 j2 d2, Below W0.heap.size W0 w5 → HIs w5 (OldD w.heap.size W0.heap.size P) g (hval pg B j d B2 j2 d2 la) → Kept (fun b => w.heap.size ≤ b ∧ b < W0.heap.size) w5 WF → w5.heap.size < WF.heap.size → HeldIs w P (⟨g, q.kept, [], false⟩ : LargeV) (.bool hd) (.returned (.tuple #[.agg #[.int .i64 pg, .slice B j d, .slice B2 j2 d2, .int .i64 la, .slice A3 m3 c3, .slice (some ⟨w5.heap.size, 0, none⟩) 0 0, .bool false], (.bool hd)])) WF) := hidb (fun w5 WF B j d B2 j2 d2 hb hh hK hE => by
    have hb5 := HB.trans (hb.mono HB.size)
    have hko := (HKO.out.below hb).kept hK oldD_not
    refine ⟨_, rfl, KoIs.weaken ⟨B, j, d, B2, j2, d2, A3, m3, c3, some ⟨w5.heap.size, 0, none⟩, 0, 0, ?_, ⟨?_, ?_, ?_⟩⟩ (oldD_P HB.size hP), hb5.trans (hK.below hb5.size fun b hb => hb.1)⟩
    rotate_left 1
    · show HIs WF _ g _
      rw [e1, e2, hpg, hla]
      exact hh.keptT hK oldD_not
    · exact hko.kr
    · exact SpRow.new0 hb.size hE
    · show _ = kval g.pages _ _ _ _ _ _ g.last _ _ _ _ _ _ false
      rw [e1, e2, hpg, hla]; rfl)
  have HEND : Hid (∀ w5 B j d B2 j2 d2, Below W0.heap.size W0 w5 → Hid (HIs w5 (OldD w.heap.size W0.heap.size P) g (hval pg B j d B2 j2 d2 la)) →
      F7 (set4 w5 w.heap.size (.int .i64 pg) (.slice B j d) (.slice B2 j2 d2) (.int .i64 la)) w.heap.size (.int .i64 pg) (.slice B j d) (.slice B2 j2 d2) (.int .i64 la) (.slice A3 m3 c3) (.slice A4 m4 c4) (.bool false) ∧ F7 (set4 w5 w.heap.size (.int .i64 pg) (.slice B j d) (.slice B2 j2 d2) (.int .i64 la)) (w.heap.size + 1) (.int .i64 0) (.slice none 0 0) (.slice none 0 0) (.int .i64 0) (.slice none 0 0) (.slice none 0 0) (.bool false) ∧ (set4 w5 w.heap.size (.int .i64 pg) (.slice B j d) (.slice B2 j2 d2) (.int .i64 la)).heap.size = w5.heap.size ∧ w.heap.size + 1 < w5.heap.size ∧
      ∀ W4, W4 = set4 w5 w.heap.size (.int .i64 pg) (.slice B j d) (.slice B2 j2 d2) (.int .i64 la) → 
        F7 ((set7 (W4.setCell ⟨w.heap.size, 5, none⟩ (.slice (some ⟨w5.heap.size, 0, none⟩) 0 0)) (w.heap.size + 1) (.int .i64 pg) (.slice B j d) (.slice B2 j2 d2) (.int .i64 la) (.slice A3 m3 c3) (.slice (some ⟨w5.heap.size, 0, none⟩) 0 0) (.bool false)).alloc (.cells #[] 50)) (w.heap.size + 1) (.int .i64 pg) (.slice B j d) (.slice B2 j2 d2) (.int .i64 la) (.slice A3 m3 c3) (.slice (some ⟨w5.heap.size, 0, none⟩) 0 0) (.bool false) ∧
        HeldIs w P (⟨g, q.kept, [], false⟩ : LargeV) (.bool hd) (.returned (.tuple #[.agg #[.int .i64 pg, .slice B j d, .slice B2 j2 d2, .int .i64 la, .slice A3 m3 c3, .slice (some ⟨w5.heap.size, 0, none⟩) 0 0, .bool false], (.bool hd)])) ((set7 (W4.setCell ⟨w.heap.size, 5, none⟩ (.slice (some ⟨w5.heap.size, 0, none⟩) 0 0)) (w.heap.size + 1) (.int .i64 pg) (.slice B j d) (.slice B2 j2 d2) (.int .i64 la) (.slice A3 m3 c3) (.slice (some ⟨w5.heap.size, 0, none⟩) 0 0) (.bool false)).alloc (.cells #[] 50))) := hidb (fun w5 B j d B2 j2 d2 hb hh => by
    obtain ⟨g0, g1⟩ := HC.out w5 hb
    have hsz := hb.size
    have hz5 : (set4 w5 w.heap.size (.int .i64 pg) (.slice B j d) (.slice B2 j2 d2) (.int .i64 la)).heap.size = w5.heap.size := by unfold set4; simp
    have g1' := g1.aside4 (b' := w.heap.size) (by omega) (.int .i64 pg) (.slice B j d) (.slice B2 j2 d2) (.int .i64 la)
    refine ⟨g0.set4_ _ _ _ _, g1', hz5, by omega, fun W4 hW4 => ?_⟩
    rw [← hW4] at g1' hz5
    refine ⟨((g1'.other (by omega) 5 _).put _ _ _ _ _ _ _).al _, HFIN.out w5 _ B j d B2 j2 d2 hb hh.out ?_ ?_⟩
    · rw [hW4]
      exact kept_al (kept_set7 ((kept_put4 (Kept.refl _ _) (Or.inl ⟨Nat.le_refl _, by omega⟩) _ _ _ _).set (a := ⟨w.heap.size, 5, none⟩) (Or.inl ⟨Nat.le_refl _, by show w.heap.size < _; omega⟩) _) (Or.inl ⟨by omega, by omega⟩) _ _ _ _ _ _ _) _
    · unfold set7; simp; omega)
  have HW0 : Hid (W0 = ((w.alloc (.cells #[.int .i64 pg, .slice A m c, .slice A2 m2 c2, .int .i64 la, .slice A3 m3 c3, .slice A4 m4 c4, .bool false] 76)).alloc (.cells #[.int .i64 0, .slice none 0 0, .slice none 0 0, .int .i64 0, .slice none 0 0, .slice none 0 0, .bool false] 76))) := hidb hW0
  unfold kval
  rw [hpg, hla, hhd]
  obtain ⟨⟨c0, c1, c2', c3', c4', c5', c6', cf⟩, _⟩ := HC.out W0 (Below.refl _ _)
  have cf0 := cf 0
  clear hW0 HFIN k hpg hla hhd HB hP h0 hf hla0 o hg hgo e1 e2 eq2 hlr hhi HKO f0 f1 hz cf
  go_enter Tryz.func90, Tryz.ntmps90
  go_wp2
  rw [← HW0.out]
  go_region_law (first
    | (go_simp; go_at_call 43; (with_reducible refine (CN.out _ (by repeat (first | assumption | exact Below.refl _ _ | refine Below.drew ?_ | refine Below.alloc ?_ (by first | omega | (simp; done) | (simp; omega)) _))).mono ?_); rintro e w1 ⟨A5, c5, rfl, HS5, HB1⟩; have HB1' : Below W0.heap.size W0 w1 := (Below.trans (b := W0.drew) (Below.refl _ W0).drew HB1.out); obtain ⟨⟨k0, k1, k2, k3, k4, k5, k6, _⟩, _⟩ := HC.out w1 HB1')
    | (go_simp; go_at_call 139; (with_reducible refine (CD.out _ _ _ (by repeat (first | assumption | exact Below.refl _ _ | refine Below.drew ?_ | refine Below.alloc ?_ (by first | omega | (simp; done) | (simp; omega)) _)) HS5).mono ?_); rintro e w5 ⟨B, j, d, B2, j2, d2, rfl, HH5, HB5⟩; have HB5' := hidb (HB1'.trans (HB5.out.mono HB1'.size)); obtain ⟨⟨x0, x1, x2, x3, x4, x5, x6, xf⟩, _⟩ := HC.out w5 HB5'.out; have xf0 := xf 0; have xf1 := xf 1; have xf2 := xf 2; have xf3 := xf 3; clear xf))
  all_goals
    obtain ⟨⟨y0, y1, y2, y3, y4, y5, y6, yf⟩, ⟨z0, z1, z2, z3, z4, z5, z6, zf⟩, hz5, hlt5, HE⟩ := HEND.out w5 B j d B2 j2 d2 HB5'.out HH5
    obtain ⟨W4, hW4⟩ : ∃ W4, W4 = set4 w5 w.heap.size (.int .i64 pg) (.slice B j d) (.slice B2 j2 d2) (.int .i64 la) := ⟨_, rfl⟩
    have HE2 := hidb (HE W4 hW4)
    rw [← hW4] at y0 y1 y2 y3 y4 y5 y6 yf z0 z1 z2 z3 z4 z5 z6 zf hz5
    have hW5 := hW4
    unfold set4 at hW5
    rw [← hW5]
    have hq0 : w.heap.size < W4.heap.size := by omega
    have hq1 : w.heap.size + 1 < W4.heap.size := by omega
    have HZ5 := hidb hz5
    clear hz5
    have yf4 := yf 5
    have zf0 := zf 0
    have zf1 := zf 1
    have zf2 := zf 2
    have zf3 := zf 3
    have zf4 := zf 4
    have zf5 := zf 5
    have zf6 := zf 6
    clear HE hW4 hW5 yf zf x0 x1 x2 x3 x4 x5 x6 xf0 xf1 xf2 xf3 c0 c1 c2' c3' c4' c5' c6' k0 k1 k2 k3 k4 k5 k6
    go_wp2
    rw [HZ5.out]
    obtain ⟨⟨b0, b1, b2, b3, b4, b5, b6, _⟩, HR⟩ := HE2.out
    unfold set7 at b0 b1 b2 b3 b4 b5 b6
    refine bodyPost_ret (v := .tuple #[.agg #[.int .i64 pg, .slice B j d, .slice B2 j2 d2, .int .i64 la, .slice A3 m3 c3, .slice (some ⟨w5.heap.size, 0, none⟩) 0 0, .bool false], (.bool hd)]) (by simp [results, Tryz.results90, go_sem, b0, b1, b2, b3, b4, b5, b6]) rfl ?_
    exact HR

end Go.Proofs.YtonmkanppapjjaaGreat
