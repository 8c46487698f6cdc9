/- What the other functions of the document's own answers to layer 2 (float) return; memory is as it was, but for draws. -/
import Derived.Test.YtdcnpaodcjfdbaaGreatDoorFloatPlain
namespace Go.Proofs.YtdcnpaodcjfdbaaGreatDoor
open Go.RowKit
set_option linter.unusedVariables false

theorem ref_fnan (w : World) :
    Calls Tryz.prog 116 #[] w fun e w' => e = .returned (.int .u64 9221120237041090561) ∧ w = w' := by
  go_enter Tryz.func116, Tryz.ntmps116
  go_wp2
  go_ret
  exact ⟨rfl, rfl⟩

theorem ref_ftruth (p : Bool) (w : World) :
    Calls Tryz.prog 114 #[.bool p] w fun e w' => e = .returned (.int .u64 (if p then 4607182418800017408 else 0)) ∧ w = w' := by
  cases p
  all_goals
    go_enter Tryz.func114, Tryz.ntmps114
    go_wp2
    go_ret
    exact ⟨rfl, rfl⟩

theorem ref_fsigned (b : Nat) (s : Bool) (w : World) (h : b < 18446744073709551616) :
    Calls Tryz.prog 118 #[.int .u64 (b : Int), .bool s] w fun e w' => e = .returned (.int .u64 ((fSigned b s : Nat) : Int)) ∧ w = w' := by
  have cb := fun W => ref_fbelow b W h
  have hs := of_sign b h
  have hr : fRung b < 9223372036854775808 := Nat.mod_lt _ (by omega)
  obtain ⟨r, hrr⟩ : ∃ r, fRung b = r := ⟨_, rfl⟩
  have E : Hid (fSigned b s = if s then r + 9223372036854775808 else r) := hidf (by unfold fSigned; rw [hrr])
  rw [hrr] at hs hr
  clear hrr
  cases hn : fNeg b <;> rw [hn] at cb hs <;> simp only [Bool.false_eq_true, if_false, if_true] at hs <;> subst hs <;> clear hn <;> cases s <;> simp only [Bool.false_eq_true, if_false, if_true] at E
  all_goals
    go_enter Tryz.func118, Tryz.ntmps118
    go_wp2_with (go_at_call 117; refine (cb _).mono ?_; rintro e w' ⟨rfl, rfl⟩)
    go_ret
    refine ⟨congrArg Ending.returned (congrArg (Value.int IntKind.u64) ?_), rfl⟩
    (rw [E.out]) <;> (first | rfl | omega | simp)



theorem ref_fless (a b : Nat) (w : World) (ha : a < 18446744073709551616) (hb : b < 18446744073709551616) :
    Calls Tryz.prog 115 #[.int .u64 (a : Int), .int .u64 (b : Int)] w fun e w' => e = .returned (.bool (fLess a b)) ∧ w = w' := by
  have ca := fun W => ref_fclass a W ha
  have cb := fun W => ref_fclass b W hb
  have na := fun W => ref_fbelow a W ha
  have nb := fun W => ref_fbelow b W hb
  have za := fCls_zero a
  have zb := fCls_zero b
  have sa := of_sign a ha
  have sb := of_sign b hb
  have qa : fRung a < 9223372036854775808 := Nat.mod_lt _ (by omega)
  have qb : fRung b < 9223372036854775808 := Nat.mod_lt _ (by omega)
  have ga := fCls_range a
  have gb := fCls_range b
  have E : Hid (fLess a b = decide ((if fNeg a then -(fRung a : Int) else (fRung a : Int)) < (if fNeg b then -(fRung b : Int) else (fRung b : Int)))) := hidf rfl
  obtain ⟨x, hx⟩ : ∃ x : Int, (a : Int) = x := ⟨_, rfl⟩
  obtain ⟨y, hy⟩ : ∃ y : Int, (b : Int) = y := ⟨_, rfl⟩
  have RX : Hid (x = (a : Int) ∧ y = (b : Int)) := hidf ⟨hx.symm, hy.symm⟩
  by_cases hz : fCls a = 3 ∧ fCls b = 3
  · obtain ⟨h1, h2⟩ := hz
    have e : fLess a b = false := by
      rw [E.out, za.1 h1, zb.1 h2]; cases fNeg a <;> cases fNeg b <;> rfl
    rw [e]
    rw [h1] at ca; rw [h2] at cb
    rw [hx] at ca na ⊢
    rw [hy] at cb nb ⊢
    clear hx hy za zb sa sb qa qb ga gb h1 h2 e na nb
    go_enter Tryz.func115, Tryz.ntmps115
    go_wp2_with (go_at_call 113; first | ((with_reducible refine (ca _).mono ?_); rintro e w' ⟨rfl, rfl⟩) | ((with_reducible refine (cb _).mono ?_); rintro e w' ⟨rfl, rfl⟩))
    go_ret
    exact ⟨rfl, rfl⟩
  · obtain ⟨m, hm⟩ : ∃ m : Int, (fCls a : Int) = m := ⟨_, rfl⟩
    obtain ⟨k, hk⟩ : ∃ k : Int, (fCls b : Int) = k := ⟨_, rfl⟩
    have L : Hid (fLess a b = if fNeg a then (if fNeg b then decide (b < a) else true) else (if fNeg b then false else decide (a < b))) := hidf (by
      rw [E.out]
      cases h1 : fNeg a <;> cases h2 : fNeg b <;> rw [h1] at sa <;> rw [h2] at sb <;> simp only [Bool.false_eq_true, if_false, if_true] at sa sb ⊢ <;> (rw [Bool.eq_iff_iff]; simp <;> omega))
    rw [hm] at ca; rw [hk] at cb
    rw [hx] at ca na ⊢
    rw [hy] at cb nb ⊢
    clear E sa sb qa qb za zb
    by_cases h1 : m = 3
    · have t1 : (k == 3) = false := by simp; omega
      subst h1
      clear hm hk hz ga gb hx hy
      cases g1 : fNeg a <;> rw [g1] at na L <;> clear g1 <;> cases g2 : fNeg b <;> rw [g2] at nb L <;> clear g2 <;> simp only [Bool.false_eq_true, if_false, if_true] at L
      all_goals
        go_enter Tryz.func115, Tryz.ntmps115
        go_wp2_with (first
          | (go_at_call 113; first | ((with_reducible refine (ca _).mono ?_); rintro e w' ⟨rfl, rfl⟩) | ((with_reducible refine (cb _).mono ?_); rintro e w' ⟨rfl, rfl⟩))
          | (go_at_call 117; first | ((with_reducible refine (na _).mono ?_); rintro e w' ⟨rfl, rfl⟩) | ((with_reducible refine (nb _).mono ?_); rintro e w' ⟨rfl, rfl⟩)))
        go_ret
        refine ⟨congrArg Ending.returned (congrArg Value.bool ?_), rfl⟩
        (rw [L.out]) <;> first | rfl | (have := RX.out; rw [Bool.eq_iff_iff]; simp <;> omega)
    · have t1 : (m == 3) = false := by simp; omega
      clear hm hk hz ga gb hx hy h1
      cases g1 : fNeg a <;> rw [g1] at na L <;> clear g1 <;> cases g2 : fNeg b <;> rw [g2] at nb L <;> clear g2 <;> simp only [Bool.false_eq_true, if_false, if_true] at L
      all_goals
        go_enter Tryz.func115, Tryz.ntmps115
        go_wp2_with (first
          | (go_at_call 113; first | ((with_reducible refine (ca _).mono ?_); rintro e w' ⟨rfl, rfl⟩) | ((with_reducible refine (cb _).mono ?_); rintro e w' ⟨rfl, rfl⟩))
          | (go_at_call 117; first | ((with_reducible refine (na _).mono ?_); rintro e w' ⟨rfl, rfl⟩) | ((with_reducible refine (nb _).mono ?_); rintro e w' ⟨rfl, rfl⟩)))
        go_ret
        refine ⟨congrArg Ending.returned (congrArg Value.bool ?_), rfl⟩
        (rw [L.out]) <;> first | rfl | (have := RX.out; rw [Bool.eq_iff_iff]; simp <;> omega)

end Go.Proofs.YtdcnpaodcjfdbaaGreatDoor
