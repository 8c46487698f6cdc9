/- Layer 14's statement FrameReads. -/
import Derived.Test.YtkahpmnemabehaaDoorFrmMade
namespace Go.Proofs.YtkahpmnemabehaaDoor
open Go.RowKit Go.ChangeShapes Go.WideShapes
set_option linter.unusedVariables false

section
variable {w : World} {p g : Nat} {xs : List Nat} {tp : Option Addr} {l : Fns} {D : Option Addr}
theorem a_store {A B : Option Addr} {n c cB : Nat} {us : List Nat} {W : World} (s : Hid (AT w W p g 256 xs tp l)) (hs : Sl w w.heap.size A n (us.map wv)) (hn : n ≤ 256) (hB : Sl W W.heap.size B 256 (frZ.map wv)) :
    Calls Tryd.prog 10 #[.slice B 256 cB, .int .i64 0, .slice A n c] W fun e w' => ∃ D d, e = .returned (.tuple #[.slice D 256 d, .int .i64 0]) ∧ Hid (AT w w' p g 256 xs tp l) ∧ Hid (Sl w' w'.heap.size D 256 ((frLaid us).map wv)) := by
  have hl : us.length = n := by have := hs.1; simpa using this
  have h1 := ref_astore B A 256 cB n c frZ us 0 W hB ((hs.below s.out.bel).more s.out.bel.size) (by omega) (by omega) (by omega)
  refine Calls.mono h1 ?_
  rintro e w' ⟨D, d, rfl, ho, hb⟩
  have e256 : (aStore frZ 0 us).length = 256 := frLaid_length us (by omega)
  have hd := Sl.of_own ho
  rw [e256] at hd
  exact ⟨D, d, by rw [e256], hidb (s.out.step hb), hidb hd⟩
theorem a_frread {W : World} (s : Hid (AW w p g xs tp l D W)) (hl : ∀ x ∈ l, 0 ≤ x.1 ∧ x.1 ≤ 1000) (hx : Wd xs) (a : Int) (h0 : in64 a) (v : FrV) (no : Int) (hv : frRead xs l a = (v, no)) :
    Calls Tryd.prog 11 #[.pointer (some ⟨p, 0, none⟩), .pointer tp, .int .i64 a] W fun e w' => e = .returned (.tuple #[frC v, .int .i64 no]) ∧ Hid (AW w p g xs tp l D w') := by
  obtain ⟨lo, hi, h2, h3, _⟩ := s.out.1.tb
  have c := code_frread s.out.1.ar h2 h3 hl hx a h0
  rw [hv] at c
  exact c.mono fun e w' ⟨h1, h2⟩ => ⟨h1, hidb (s.out.step h2)⟩
theorem a_rread {A2 : Option Addr} {n2 c2 d : Nat} {ys : List FnV} (h : In13 w A2 n2 ys) {W : World} (s : Hid (AW w p g xs tp l D W)) (hl : ∀ x ∈ vals ys, 0 ≤ x.1 ∧ x.1 ≤ 1000) (hx : Wd xs) (a : Int) (h0 : in64 a) (v : FrV) (no : Int) (hv : frRead xs (vals ys) a = (v, no)) :
    Calls Tryd.prog 12 #[.slice D 256 d, .slice A2 n2 c2, .int .i64 a] W fun e w' => e = .returned (.tuple #[frC v, .int .i64 no]) ∧ Hid (AW w p g xs tp l D w') ∧ Hid (Below W.heap.size W w') := by
  have c := ref_frread (c := d) (c2 := c2) s.out.2 (by omega) hx (h.at_ s.out.1.bel) (Nat.le_refl _) (by have := h.few; omega) hl a h0
  rw [hv] at c
  exact c.mono fun e w' ⟨h1, h2⟩ => ⟨h1, hidb (s.out.step h2), hidb h2⟩
end

set_option maxRecDepth 100000 in
set_option maxHeartbeats 4000000 in
theorem frameReads_any (A : Option Addr) (n c : Nat) (us : List Nat) (A2 : Option Addr) (n2 c2 : Nat) (ys : List FnV) (a : Int) (w : World) (hs : Sl w w.heap.size A n (us.map wv)) (hu : Wd us) (hm : n ≤ maxLen) (hr : FnRow w 0 w.heap.size A2 n2 ys) (hm2 : n2 ≤ maxLen) (ha : in64 a) (ht : TabDB w) :
    Calls Tryd.prog 3 #[.slice A n c, .slice A2 n2 c2, .int .i64 a] w fun e w' => e = .returned (.bool true) ∧ Below w.heap.size w w' := by
  unfold maxLen at hm hm2
  have cg := ref_fgreat A2 n2 c2 ys 0 _ w hr (by omega)
  have kw0 := awake14 w ht
  by_cases hbig : 256 < n
  · clear hs hr cg ht
    have hb : (256 : Int) < (n : Int) := by omega
    go_enter Tryd.func3, Tryd.ntmps3
    go_wp2_with (first
      | (go_at_call 7; (with_reducible refine kw0.mono ?_); rintro e w1 ⟨rfl, hs1⟩))
    go_ret
    exact ⟨rfl, hs1⟩
  have hnb : ¬ ((256 : Int) < (n : Int)) := by omega
  have hn : n ≤ 256 := by omega
  cases hG : fGreat (vals ys) with
  | true =>
    rw [hG] at cg
    clear hs hr hG ht hbig
    --@1
    go_enter Tryd.func3, Tryd.ntmps3
    go_wp2_with (first
      | (go_at_call 6; (with_reducible refine cg.mono ?_); rintro e w' ⟨rfl, rfl⟩)
      | (go_at_call 7; (with_reducible refine kw0.mono ?_); rintro e w1 ⟨rfl, hs1⟩))
    go_ret
    exact ⟨rfl, hs1⟩
  | false =>
    rw [hG] at cg
    have HI := hidb (great_in hr hG)
    have HT := hidb ht
    cases hT : fTab (vals ys) with
    | false =>
      have k1 := t_made_no (A := A) (n := n) (c := c) (c2 := c2) HI.out (Below.refl _ w) hT
      have k2 := fun W (s : Hid (Below w.heap.size w W)) => (ref_fall A2 n2 c2 ys 0 W (HI.out.at_ s.out) (by have := HI.out.few; omega) HI.out.s1).mono fun e w' h => (⟨h.1, hidb (s.out.trans (h.2.mono s.out.size))⟩ : e = _ ∧ Hid (Below w.heap.size w w'))
      rw [hT] at k2
      have k3 := fun W (s : Hid (Below w.heap.size w W)) => (awake14 W (TabDB.below HT.out s.out)).mono fun e w' h => (⟨h.1, hidb (s.out.trans (h.2.mono s.out.size))⟩ : e = _ ∧ Hid (Below w.heap.size w w'))
      clear hs hr hG ht hbig hT kw0
      --@2
      go_enter Tryd.func3, Tryd.ntmps3
      go_wp2_with (first
        | (go_at_call 6; (with_reducible refine cg.mono ?_); rintro e w' ⟨rfl, rfl⟩)
        | (go_at_call 8; (with_reducible refine k1.mono ?_); rintro e w1 ⟨p, rfl, hs1⟩)
        | (go_at_call 9; (with_reducible refine (k2 _ hs1).mono ?_); rintro e w2 ⟨rfl, hs2⟩)
        | (go_at_call 7; (with_reducible refine (k3 _ hs2).mono ?_); rintro e w3 ⟨rfl, hs3⟩))
      go_ret
      exact ⟨rfl, hs3.out⟩
    | true =>
      obtain ⟨i0, hi, hz0, hz1, hz2⟩ := info_parts info_u64
      have hsz := fTab_sizes hT
      have HSZ := hidb hsz
      have HSZ2 := hidb (fOwns_sizes hsz)
      have HS := hidb hs
      have HU : Hid (Wd (frLaid us)) := hidb (frLaid_wd hu)
      have HA := hidb ha
      obtain ⟨v, no, hv⟩ : ∃ v no, frRead (frLaid us) (vals ys) a = (v, no) := ⟨_, _, rfl⟩
      have HV1 := hidb ((frRead_owns (frLaid us) (vals ys) a).trans hv)
      have HV := hidb hv
      have k1 := t_made (A := A) (n := n) (c := c) (c2 := c2) HI.out ht hs hn (Below.refl _ w) hT
      generalize fOwns (vals ys) = O at *
      have k2 := fun p g tb W s B cB hB => a_store (w := w) (p := p) (g := g) (xs := frLaid us) (tp := some ⟨tb, 0, none⟩) (l := O) (A := A) (B := B) (n := n) (c := c) (cB := cB) (us := us) (W := W) s HS.out hn hB
      have k3 := fun p g tb D W s => a_frread (w := w) (p := p) (g := g) (xs := frLaid us) (tp := some ⟨tb, 0, none⟩) (l := O) (D := D) (W := W) s HSZ2.out HU.out a HA.out v no HV1.out
      have k4 := fun p g tb D d W s => a_rread (w := w) (p := p) (g := g) (xs := frLaid us) (tp := some ⟨tb, 0, none⟩) (l := O) (D := D) (A2 := A2) (n2 := n2) (c2 := c2) (d := d) HI.out (W := W) s HSZ.out HU.out a HA.out v no HV.out
      have k5 := fun p g tb D W (s : Hid (AW w p g (frLaid us) (some ⟨tb, 0, none⟩) O D W)) => (awake14 W (TabDB.below HT.out s.out.1.bel)).mono fun e w' h => (⟨h.1, hidb (s.out.1.bel.trans (h.2.mono s.out.1.bel.size))⟩ : e = _ ∧ Hid (Below w.heap.size w w'))
      have HAL : Hid (∀ p g tb D W o, Hid (AW w p g (frLaid us) (some ⟨tb, 0, none⟩) O D W) → Hid (AW w p g (frLaid us) (some ⟨tb, 0, none⟩) O D (W.alloc o))) := hidb (fun p g tb D W o s => hidb (s.out.step (belF_al (Below.refl _ _) _)))
      obtain ⟨va, vf, vl⟩ := v
      have heq := fun W => eql_frame ⟨va, vf, vl⟩ ⟨va, vf, vl⟩ W
      rw [decide_eq_true (rfl : (⟨va, vf, vl⟩ : FrV) = ⟨va, vf, vl⟩)] at heq
      have e0 : (no == no) = true := by simp
      simp only [frC] at *
      clear hs hr hG ht hbig hT kw0 hsz hu hv ha
      --@3
      go_enter Tryd.func3, Tryd.ntmps3
      go_wp2_with (first
        | (go_at_call 6; (with_reducible refine cg.mono ?_); rintro e w' ⟨rfl, rfl⟩)
        | (go_at_call 8; (with_reducible refine k1.mono ?_); rintro e w1 ⟨p, g, tb, rfl, hs1⟩)
        | (at_make; refine wpList_make_full w1 rfl _ _ 22 rfl w1.heap.size 49 i0 (.int .u64 0) 1 Tryd.underlying22 hi hz0 hz1 .i64 .i64 _ _ 256 rfl rfl (by omega) (by omega) (by rw [hz2]; omega) (by unfold maxLen; omega) (Nat.le_refl _) ?_; intro w2 hown hgrow; rw [zero_words] at hown; have hs2 := hidb (hs1.out.step ((Below.refl _ _).grown hgrow (Nat.le_refl _) (fun k hk => by cases hk))); have hB2 : Hid (Sl w2 w2.heap.size (some ⟨w1.heap.size, 0, none⟩) 256 (frZ.map wv)) := hidb (Sl.of_own hown); clear hown hgrow)
        | (go_at_call 10; (with_reducible refine (k2 _ _ _ _ hs2 _ _ hB2.out).mono ?_); rintro e w3 ⟨D, d, rfl, hs3, hD3⟩; have hs4 := hidb (show AW w p g (frLaid us) (some ⟨tb, 0, none⟩) O D w3 from ⟨hs3.out, hD3.out⟩))
        | (go_at_call 11; (with_reducible refine (k3 _ _ _ _ _ hs4).mono ?_); rintro e w5 ⟨rfl, hs5⟩)
        | (go_at_call 12; (with_reducible refine (k4 _ _ _ _ _ _ (HAL.out _ _ _ _ _ _ hs5)).mono ?_); rintro e w6 ⟨rfl, hs6, hb6⟩; have y0 : w6.cell? ⟨w5.heap.size, 0, none⟩ = some (.int .i64 va) := (hb6.out.cell (by simp)).trans (by simp); have y1 : w6.cell? ⟨w5.heap.size, 1, none⟩ = some (.int .i64 vf) := (hb6.out.cell (by simp)).trans (by simp); have y2 : w6.cell? ⟨w5.heap.size, 2, none⟩ = some (.int .i64 vl) := (hb6.out.cell (by simp)).trans (by simp); have hlt := lt_of_cell' y0)
        | (go_at_call 7; (with_reducible refine (k5 _ _ _ _ _ (HAL.out _ _ _ _ _ _ hs6)).mono ?_); rintro e w7 ⟨rfl, hs7⟩))
      go_ret
      exact ⟨rfl, hs7.out⟩
end Go.Proofs.YtkahpmnemabehaaDoor
