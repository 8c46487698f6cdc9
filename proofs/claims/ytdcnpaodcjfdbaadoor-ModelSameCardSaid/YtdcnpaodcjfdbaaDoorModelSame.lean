/- Layer 19's statement ModelSame. -/
import Derived.Test.YtdcnpaodcjfdbaaDoorMdcTop
namespace Go.Proofs.YtdcnpaodcjfdbaaDoor
open Go.RowKit Go.ChangeShapes Go.WideShapes
set_option linter.unusedVariables false

set_option maxRecDepth 100000 in
set_option maxHeartbeats 4000000 in
theorem modelSame_any (A : Option Addr) (n c : Nat) (xs : List AfS) (A2 : Option Addr) (m c2 : Nat) (ys : List AfS) (w : World) (hs : AfRow w w.heap.size A n xs) (hs2 : AfRow w w.heap.size A2 m ys) (hn : n ≤ maxLen) (hm : m ≤ maxLen) (ht : TabDB w) :
    Calls Tryd.prog 4 #[.slice A n c, .slice A2 m c2] w fun e w' => e = .returned (.bool true) ∧ Below w.heap.size w w' := by
  unfold maxLen at hn hm
  have HT := hidb ht
  have KA : Hid (∀ W, Hid (Below w.heap.size w W) → Calls Tryd.prog 9 #[] W fun e w' => e = .returned (.bool true) ∧ Hid (Below w.heap.size w w')) := hidb (fun W s => (awake19 W (TabDB.below HT.out s.out)).mono fun e w' h => ⟨h.1, hidb (belF_tr s.out h.2)⟩)
  have g1 := ref_mdgreat (c := c) hs (by omega)
  have g2 := ref_mdgreat (c := c2) hs2 (by omega)
  have hw0 := hidb (Below.refl w.heap.size w)
  cases h1 : mdGreat (afvals xs) with
  | true =>
    rw [h1] at g1
    clear hs hs2 ht h1 g2
    --@1
    go_enter Tryd.func4, Tryd.ntmps4
    go_wp2_with (first
      | (go_at_call 8; (with_reducible refine g1.mono ?_); rintro e w1 ⟨rfl, rfl⟩)
      | (go_at_call 9; (with_reducible refine (KA.out _ hw0).mono ?_); rintro e w3 ⟨rfl, hs3⟩))
    go_ret
    exact ⟨rfl, hs3.out⟩
  | false =>
    rw [h1] at g1
    cases h2 : mdGreat (afvals ys) with
    | true =>
      rw [h2] at g2
      clear hs hs2 ht h1 h2
      --@2
      go_enter Tryd.func4, Tryd.ntmps4
      go_wp2_with (first
        | (go_at_call 8; (with_reducible refine g1.mono ?_); rintro e w1 ⟨rfl, rfl⟩)
        | (go_at_call 8; (with_reducible refine g2.mono ?_); rintro e w1 ⟨rfl, rfl⟩)
        | (go_at_call 9; (with_reducible refine (KA.out _ hw0).mono ?_); rintro e w3 ⟨rfl, hs3⟩))
      go_ret
      exact ⟨rfl, hs3.out⟩
    | false =>
      rw [h2] at g2
      obtain ⟨x1, x2⟩ := mdGreat_in h1
      obtain ⟨y1, y2⟩ := mdGreat_in h2
      rw [afvals_length, hs.len] at x1
      rw [afvals_length, hs2.len] at y1
      have x3 : ∀ x ∈ afvals xs, x.2.length ≤ 9223372036854775806 := fun x hx => by have := x2 x hx; omega
      have y3 : ∀ x ∈ afvals ys, x.2.length ≤ 9223372036854775806 := fun x hx => by have := y2 x hx; omega
      obtain ⟨D, hD⟩ : ∃ D, decide (afvals xs = afvals ys) = D := ⟨_, rfl⟩
      have hD2 : decide (afvals ys = afvals xs) = D := by rw [← hD, decide_eq_decide]; exact ⟨Eq.symm, Eq.symm⟩
      have HR : Hid (∀ W, Hid (Below w.heap.size w W) → Calls Tryd.prog 12 #[.slice A n c, .slice A2 m c2] W fun e w' => e = .returned (.bool D) ∧ Hid (Below w.heap.size w w')) := hidb (fun W s => by
        have := ref_mdsame A A2 n c m c2 xs ys W _ _ (hs.below s.out) (hs2.below s.out) (by omega) (by omega)
        rw [hD] at this
        exact this.mono fun e w' ⟨h, q, h2⟩ => ⟨h, hidb (by rw [h2]; exact belowN s.out _)⟩)
      have K1 : Hid (∀ W, Hid (Below w.heap.size w W) → Calls Tryd.prog 13 #[.slice A n c, .slice A2 m c2] W fun e w' => e = .returned (.bool D) ∧ Hid (Below w.heap.size w w')) := hidb (fun W s => by
        have := code_mdsame A A2 n c m c2 xs ys W (hs.step s.out) (hs2.step s.out) (by omega) (by omega) x3 y3
        rw [hD] at this
        exact this.mono fun e w' ⟨h, h2⟩ => ⟨h, hidb (belF_tr s.out h2)⟩)
      have K2 : Hid (∀ W, Hid (Below w.heap.size w W) → Calls Tryd.prog 13 #[.slice A2 m c2, .slice A n c] W fun e w' => e = .returned (.bool D) ∧ Hid (Below w.heap.size w w')) := hidb (fun W s => by
        have := code_mdsame A2 A m c2 n c ys xs W (hs2.step s.out) (hs.step s.out) (by omega) (by omega) y3 x3
        rw [hD2] at this
        exact this.mono fun e w' ⟨h, h2⟩ => ⟨h, hidb (belF_tr s.out h2)⟩)
      have K3 : Hid (∀ W, Hid (Below w.heap.size w W) → Calls Tryd.prog 13 #[.slice A n c, .slice A n c] W fun e w' => e = .returned (.bool true) ∧ Hid (Below w.heap.size w w')) := hidb (fun W s => by
        have := code_mdsame A A n c n c xs xs W (hs.step s.out) (hs.step s.out) (by omega) (by omega) x3 x3
        rw [decide_eq_true rfl] at this
        exact this.mono fun e w' ⟨h, h2⟩ => ⟨h, hidb (belF_tr s.out h2)⟩)
      have eD : (D == D) = true := by simp
      clear hs hs2 ht h1 h2 x1 x2 x3 y1 y2 y3 hD hD2
      --@3
      go_enter Tryd.func4, Tryd.ntmps4
      go_wp2_with (first
        | (go_at_call 8; (with_reducible refine g1.mono ?_); rintro e w1 ⟨rfl, rfl⟩)
        | (go_at_call 8; (with_reducible refine g2.mono ?_); rintro e w1 ⟨rfl, rfl⟩)
        | (go_at_call 12; (with_reducible refine (HR.out _ hw0).mono ?_); rintro e w2 ⟨rfl, hs2⟩)
        | (go_at_call 13; (with_reducible refine (K1.out _ hs2).mono ?_); rintro e w3 ⟨rfl, hs3⟩)
        | (go_at_call 13; (with_reducible refine (K2.out _ hs3).mono ?_); rintro e w4 ⟨rfl, hs4⟩)
        | (go_at_call 13; (with_reducible refine (K3.out _ hs4).mono ?_); rintro e w5 ⟨rfl, hs5⟩)
        | (go_at_call 9; (with_reducible refine (KA.out _ hs5).mono ?_); rintro e w6 ⟨rfl, hs6⟩)
        | (go_at_call 9; (with_reducible refine (KA.out _ hw0).mono ?_); rintro e w6 ⟨rfl, hs6⟩))
      go_ret
      exact ⟨by simp, hs6.out⟩
end Go.Proofs.YtdcnpaodcjfdbaaDoor
