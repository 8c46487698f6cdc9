/- The walks of layer 2's statements on texts: each returns true, and leaves memory as it was, but for draws and new blocks, where the library's table holds what it holds. -/
import Derived.Test.YtcjdmkjcpelakaaDoorHexRead
import Derived.Test.YtcjdmkjcpelakaaDoorFloatBelow
import Derived.Test.YtcjdmkjcpelakaaDoorFloatAwake
namespace Go.Proofs.YtcjdmkjcpelakaaDoor
open Go.RowKit
set_option linter.unusedVariables false

theorem wf_u64 {n : Int} (h : (Lit.int .u64 n).wf = true) : 0 ≤ n ∧ n ≤ 18446744073709551615 := by
  have h1 : IntKind.u64.min = 0 := rfl
  have h2 : IntKind.u64.max = 18446744073709551615 := rfl
  simp only [Lit.wf, Bool.and_eq_true, decide_eq_true_eq] at h
  omega

theorem Tab64.below {w w' : World} (h : Tab64 w) (hb : Below w.heap.size w w') : Tab64 w' :=
  ⟨by rw [hb.cell h.2]; exact h.1, Nat.lt_of_lt_of_le h.2 hb.size⟩

theorem floatIs_any (b : Nat) (w : World) (h : b < 18446744073709551616) (ht : Tab64 w) :
    Calls Tryd.prog 3 #[.int .u64 (b : Int)] w fun e w' => e = .returned (.bool true) ∧ Below w.heap.size w w' := by
  have c1 := fun W => float_class b W h
  have c2 := fun W => ref_fclass b W h
  have c3 := float_below_one w.heap.size b (w.alloc (.cells #[.int .u64 (b : Int)] 22)) h (by simp)
  have c4 := fun W => ref_fbelow b W h
  have c5 := float_text b (w.alloc (.cells #[.int .u64 (b : Int)] 22)) h (ht.alloc _)
  have c6 := fun W => ref_ftext b W h
  clear h ht
  generalize (⟨(hexT b 16).toArray⟩ : ByteArray) = t at c5 c6
  generalize fNeg b = n at c3 c4
  generalize ((fCls b : Nat) : Int) = m at c1 c2
  go_enter Tryd.func3, Tryd.ntmps3
  go_wp2_with (first
    | (go_at_call 5; refine (c1 _).mono ?_; rintro e w' ⟨rfl, rfl⟩)
    | (go_at_call 6; refine (c2 _).mono ?_; rintro e w' ⟨rfl, rfl⟩)
    | (go_at_call 7; refine c3.mono ?_; rintro e w' ⟨rfl, rfl⟩)
    | (go_at_call 8; refine (c4 _).mono ?_; rintro e w' ⟨rfl, rfl⟩)
    | (go_at_call 9; refine c5.mono ?_; rintro e w' ⟨rfl, hB⟩)
    | (go_at_call 10; refine (c6 _).mono ?_; rintro e w' ⟨rfl, rfl⟩)
    | (go_at_call 11; refine (awake_any _).mono ?_; rintro e w' ⟨rfl, q3, rfl⟩))
  go_ret
  exact ⟨rfl, below_drewN (((Below.refl _ _).alloc (Nat.le_refl _) _).trans (hB.mono (by simp))) _⟩

theorem floatReads_long (s : ByteArray) (b : Nat) (w : World) (hs : 100 < s.size) (hm : s.size ≤ 9223372036854775807) :
    Calls Tryd.prog 4 #[.string s, .int .u64 (b : Int)] w fun e w' => e = .returned (.bool true) ∧ Below w.heap.size w w' := by
  go_enter Tryd.func4, Tryd.ntmps4
  go_wp2_with (go_at_call 11; refine (awake_any _).mono ?_; rintro e w' ⟨rfl, q3, rfl⟩)
  go_ret
  exact ⟨rfl, below_drewN (Below.refl _ _) _⟩

set_option maxRecDepth 100000 in
theorem floatReads_short (s : ByteArray) (b : Nat) (w : World) (hs : s.size ≤ 100) (h : b < 18446744073709551616) (ht : Tab64 w) :
    Calls Tryd.prog 4 #[.string s, .int .u64 (b : Int)] w fun e w' => e = .returned (.bool true) ∧ Below w.heap.size w w' := by
  have r1 := fun W => float_read s W (by omega)
  have r2 := fun W => float_read ⟨(hexT b 16).toArray⟩ W (by show ((hexT b 16).toArray).size ≤ _; rw [List.size_toArray, hexT_length]; omega)
  have w1 := fun W => ref_fread s W (by unfold maxLen; omega)
  have t1 := fun W hW => float_text b W h hW
  unfold FReadOf at r1 r2
  unfold ReadOf at w1
  simp only [fRead_text b h, Option.getD_some, Option.isSome_some, if_true] at r2
  have HT := hidf ht
  clear ht
  have hs' : ¬ (100 : Int) < (s.size : Int) := by omega
  have hAll := Below.refl w.heap.size w
  generalize (⟨(hexT b 16).toArray⟩ : ByteArray) = t at r2 t1
  cases ho : fRead s.data.toList with
  | none =>
    simp only [ho, Option.getD_none, Option.isSome_none, Bool.false_eq_true, if_false] at r1 w1
    clear ho h
    go_enter Tryd.func4, Tryd.ntmps4
    go_wp2_with (first
      | (go_at_call 12; first | ((with_reducible refine (r1 _).mono ?_); rintro e w' ⟨rfl, hB⟩; replace hAll := hAll.trans (hB.mono hAll.size); clear hB) | ((with_reducible refine (r2 _).mono ?_); rintro e w' ⟨rfl, hB⟩; replace hAll := hAll.trans (hB.mono hAll.size); clear hB))
      | (go_at_call 13; refine (w1 _).mono ?_; rintro e w' ⟨rfl, rfl⟩)
      | (go_at_call 9; refine (t1 _ (HT.out.below hAll)).mono ?_; rintro e w' ⟨rfl, hB⟩; replace hAll := hAll.trans (hB.mono hAll.size); clear hB)
      | (go_at_call 11; refine (awake_any _).mono ?_; rintro e w' ⟨rfl, q3, rfl⟩))
    go_ret
    exact ⟨rfl, below_drewN hAll _⟩
  | some n =>
    obtain ⟨hn, hlt⟩ := fText_read _ _ ho
    have t2 := fun W hW => float_text n W hlt hW
    have es : (⟨(hexT n 16).toArray⟩ : ByteArray) = s := by rw [hn]
    simp only [es] at t2
    simp only [ho, Option.getD_some, Option.isSome_some, if_true] at r1 w1
    clear ho h es hn hlt
    go_enter Tryd.func4, Tryd.ntmps4
    go_wp2_with (first
      | (go_at_call 12; first | ((with_reducible refine (r1 _).mono ?_); rintro e w' ⟨rfl, hB⟩; replace hAll := hAll.trans (hB.mono hAll.size); clear hB) | ((with_reducible refine (r2 _).mono ?_); rintro e w' ⟨rfl, hB⟩; replace hAll := hAll.trans (hB.mono hAll.size); clear hB))
      | (go_at_call 13; refine (w1 _).mono ?_; rintro e w' ⟨rfl, rfl⟩)
      | (go_at_call 9; first | ((with_reducible refine (t1 _ (HT.out.below hAll)).mono ?_); rintro e w' ⟨rfl, hB⟩; replace hAll := hAll.trans (hB.mono hAll.size); clear hB) | ((with_reducible refine (t2 _ (HT.out.below hAll)).mono ?_); rintro e w' ⟨rfl, hB⟩; replace hAll := hAll.trans (hB.mono hAll.size); clear hB))
      | (go_at_call 11; refine (awake_any _).mono ?_; rintro e w' ⟨rfl, q3, rfl⟩))
    go_ret
    exact ⟨rfl, below_drewN hAll _⟩

theorem floatReads_any (s : ByteArray) (b : Nat) (w : World) (hs : s.size ≤ 9223372036854775807) (h : b < 18446744073709551616) (ht : Tab64 w) :
    Calls Tryd.prog 4 #[.string s, .int .u64 (b : Int)] w fun e w' => e = .returned (.bool true) ∧ Below w.heap.size w w' := by
  by_cases hl : 100 < s.size
  · exact floatReads_long s b w hl hs
  · exact floatReads_short s b w (by omega) h ht

end Go.Proofs.YtcjdmkjcpelakaaDoor
