/- What the document's own 'Order' and 'Sum' (layer 2) return; memory is as it was, but for draws. -/
import Derived.Test.YtcjdmkjcpelakaaFloatCalc
import Derived.Test.YtcjdmkjcpelakaaFloatText
import Derived.WalkSpells
namespace Go.Proofs.Ytcjdmkjcpelakaa
open Go.RowKit
set_option linter.unusedVariables false

theorem ref_ford (a b : Nat) (w : World) (ha : a < 18446744073709551616) (hb : b < 18446744073709551616) :
    Calls Try.prog 12 #[.int .u64 (a : Int), .int .u64 (b : Int)] w fun e w' => e = .returned (.int .i64 (fOrd a b)) ∧ w = w' := by
  have na := fun W => ref_fbelow a W ha
  have nb := fun W => ref_fbelow b W hb
  have sa := of_sign a ha
  have sb := of_sign b hb
  have qa : fRung a < 9223372036854775808 := Nat.mod_lt _ (by omega)
  have qb : fRung b < 9223372036854775808 := Nat.mod_lt _ (by omega)
  have E : fOrd a b = if a = b then 0 else if fNeg a then (if fNeg b then (if b < a then -1 else 1) else -1) else (if fNeg b then 1 else (if b < a then 1 else -1)) := by
    unfold fOrd fPos
    cases h1 : fNeg a <;> cases h2 : fNeg b <;> rw [h1] at sa <;> rw [h2] at sb <;> simp only [Bool.false_eq_true, if_false, if_true] at sa sb ⊢ <;> (repeat' split) <;> omega
  obtain ⟨x, hx⟩ : ∃ x : Int, (a : Int) = x := ⟨_, rfl⟩
  obtain ⟨y, hy⟩ : ∃ y : Int, (b : Int) = y := ⟨_, rfl⟩
  rw [hx] at na ⊢; rw [hy] at nb ⊢
  have HE := hidf E
  have HX := hidf hx
  have HY := hidf hy
  clear E sa sb qa qb hx hy
  by_cases xy : x = y
  · subst xy
    have e : fOrd a b = 0 := by rw [HE.out, if_pos (by have := HX.out; have := HY.out; omega)]
    rw [e]; clear e
    go_enter Try.func12, Try.ntmps12
    go_wp2
    go_ret
    exact ⟨rfl, rfl⟩
  · have xy' : (x == y) = false := by simpa using xy
    have hne : a ≠ b := by have := HX.out; have := HY.out; omega
    rw [HE.out, if_neg hne]
    clear hne HE
    by_cases hl : b < a
    · have hl' : y < x := by have := HX.out; have := HY.out; omega
      cases g1 : fNeg a <;> rw [g1] at na <;> clear g1 <;> cases g2 : fNeg b <;> rw [g2] at nb <;> clear g2 <;> simp only [Bool.false_eq_true, if_false, if_true, if_pos hl]
      all_goals
        clear hl
        go_enter Try.func12, Try.ntmps12
        go_wp2_with (go_at_call 13; first | ((with_reducible refine (na _).mono ?_); rintro e w' ⟨rfl, rfl⟩) | ((with_reducible refine (nb _).mono ?_); rintro e w' ⟨rfl, rfl⟩))
        go_ret
        exact ⟨rfl, rfl⟩
    · have hl' : decide (y < x) = false := decide_eq_false (by have := HX.out; have := HY.out; omega)
      cases g1 : fNeg a <;> rw [g1] at na <;> clear g1 <;> cases g2 : fNeg b <;> rw [g2] at nb <;> clear g2 <;> simp only [Bool.false_eq_true, if_false, if_true, if_neg hl]
      all_goals
        clear hl
        go_enter Try.func12, Try.ntmps12
        go_wp2_with (go_at_call 13; first | ((with_reducible refine (na _).mono ?_); rintro e w' ⟨rfl, rfl⟩) | ((with_reducible refine (nb _).mono ?_); rintro e w' ⟨rfl, rfl⟩))
        go_ret
        exact ⟨rfl, rfl⟩

/-- The sum of a row of cells. -/
theorem ref_fsum (blk off n c : Nat) (zs : List Nat) (w : World) (hz : zs.length = n) (hbig : n ≤ 9223372036854775807) (hi : ∀ j, j < n → zs.getD j 0 < 18446744073709551616) (hc : ∀ j, j < n → w.cell? ⟨blk, off + j, none⟩ = some (.int .u64 ((zs.getD j 0 : Nat) : Int))) :
    Calls Try.prog 15 #[.slice (some ⟨blk, off, none⟩) n c] w fun e w' => e = .returned (.int .u64 ((fSum zs : Nat) : Int)) ∧ ∃ q, w' = w.drewN q := by
  have HC := hidf hc; clear hc
  have HI := hidf hi; clear hi
  have HZ := hidf hz; clear hz
  go_enter Try.func15, Try.ntmps15
  go_wp2
  go_loopw [3, 7] (fun v k wr => ∃ j q : Nat, j ≤ n ∧ v = .int .u64 ((fSum (zs.take j) : Nat) : Int) ∧ k = .int .i64 j ∧ wr = w.drewN q) (fun _ k _ => (n - intOf k).toNat)
  case atStart => exact ⟨0, 0, by omega, rfl, rfl, rfl⟩
  case round =>
    obtain ⟨j, q, hj, rfl, rfl, rfl⟩ := hrel
    by_cases hlt : j < n
    · have hcell := HC.out j hlt
      have hb := HI.out j hlt
      have hs := fSum_lt (zs.take j)
      have HS : Hid (fSum (zs.take (j + 1)) = fCalc 1 (fSum (zs.take j)) (zs.getD j 0)) := hidf (by
        have hl : j < zs.length := by have := HZ.out; omega
        rw [List.take_succ_eq_append_getElem hl, fSum_snoc, List.getD_eq_getElem?_getD, List.getElem?_eq_getElem hl]; rfl)
      obtain ⟨z, HE⟩ : ∃ z, Hid (zs.getD j 0 = z) := ⟨_, hidf rfl⟩
      rw [HE.out] at hcell hb HS
      obtain ⟨s, HT⟩ : ∃ s, Hid (fSum (zs.take j) = s) := ⟨_, hidf rfl⟩
      rw [HT.out] at hs HS ⊢
      have hcon := fun W => ref_calc1 s z W hs hb
      go_wp2_with (go_at_call 8; refine (hcon _).mono ?_; rintro e w' ⟨rfl, q', rfl⟩)
      go_roundw
      case rel => exact ⟨j + 1, _, by omega, by rw [HS.out], by go_num, rfl⟩
      case measure => simp [intOf]; omega
    · have e : j = n := by omega
      have ht : zs.take j = zs := List.take_of_length_le (by have := HZ.out; omega)
      rw [ht]
      subst e
      clear ht
      go_wp2
      go_ret
      exact ⟨rfl, q, rfl⟩

end Go.Proofs.Ytcjdmkjcpelakaa
