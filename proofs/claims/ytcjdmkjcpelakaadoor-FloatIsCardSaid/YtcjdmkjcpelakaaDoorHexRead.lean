/- What 'Text' and 'Read' of layer 2 (float) return; memory is as it was, but for draws and new blocks. -/
import Derived.Test.YtcjdmkjcpelakaaDoorFmt16
import Derived.Test.YtcjdmkjcpelakaaDoorParse16
import Derived.Test.YtcjdmkjcpelakaaDoorFloatRef3
import Derived.Test.YtcjdmkjcpelakaaDoorShelf
import Derived.Lib.AtoiErrMem
namespace Go.Proofs.YtcjdmkjcpelakaaDoor
open Go.RowKit Go.Shelf
set_option linter.unusedVariables false

theorem hexT_pad (b k : Nat) (h : b < 16 ^ k) : ∀ j, hexT b (k + j) = List.replicate j 48 ++ hexT b k
  | 0 => rfl
  | j + 1 => by
    rw [show k + (j + 1) = (k + j) + 1 by omega, hexT_succ, hexT_pad b k h j]
    have e : b / 16 ^ (k + j) = 0 := Nat.div_eq_of_lt (Nat.lt_of_lt_of_le h (Nat.pow_le_pow_right (by omega) (by omega)))
    rw [e]
    rfl
theorem repeat_zero : ∀ j, Lib.repeatL [48] j = List.replicate j 48
  | 0 => rfl
  | j + 1 => by rw [Lib.repeatL, repeat_zero j]; rfl

theorem bytes_append (l1 l2 : List UInt8) : (⟨l1.toArray⟩ : ByteArray) ++ ⟨l2.toArray⟩ = ⟨(l1 ++ l2).toArray⟩ := by
  apply ByteArray.ext
  rw [ByteArray.data_append]
  simp

theorem float_text (b : Nat) (w : World) (h : b < 18446744073709551616) (ht : Tab64 w) :
    Calls Tryd.prog 9 #[.int .u64 (b : Int)] w fun e w' => e = .returned (.string ⟨(hexT b 16).toArray⟩) ∧ Below w.heap.size w w' := by
  have c1 := fmt16 b w h ht
  have c2 : ∀ (j : Nat) W, j ≤ 15 → Calls Tryd.prog 17 #[.string ⟨#[48]⟩, .int .i64 (15 - (j : Int))] W fun e w' => e = .returned (.string ⟨(List.replicate (15 - j) (48 : UInt8)).toArray⟩) ∧ Below W.heap.size W w' := fun j W hj => by
    have h := Tryd.strings_Repeat ⟨#[48]⟩ (15 - j) W (by omega) (by show 1 * (15 - j) ≤ _; omega)
    rw [show ((15 - j : Nat) : Int) = 15 - (j : Int) by omega] at h
    rw [← repeat_zero]
    exact h
  clear h ht
  go_enter Tryd.func9, Tryd.ntmps9
  go_wp2_with (first
    | (go_at_call 16; refine c1.mono ?_; rintro e w' ⟨⟨j, hj, hb, rfl⟩, a, rfl⟩; have HB := hidf hb; clear hb))
  have hT : Hid ((List.replicate (15 - j) (48 : UInt8)) ++ hexT b (j + 1) = hexT b 16) := hidf (by rw [← hexT_pad b (j + 1) HB.out, show j + 1 + (15 - j) = 16 by omega])
  have hw : wrap64 (16 - ((hexT b (j + 1)).length : Int)) = 15 - (j : Int) := by
    rw [hexT_length]; unfold wrap64; omega
  rw [hw]
  refine (c2 j _ hj).mono ?_
  rintro e w' ⟨rfl, hB⟩
  have hl : (hexT b (j + 1)).length = j + 1 := hexT_length b (j + 1)
  have hm : (List.replicate (15 - j) (48 : UInt8)).length = 15 - j := List.length_replicate
  clear c1 c2 HB hw
  generalize List.replicate (15 - j) (48 : UInt8) = l1 at hT hm ⊢
  generalize hexT b (j + 1) = l2 at hT hl ⊢
  have hcat : ¬ 9223372036854775807 < l1.length + l2.length := by omega
  go_wp2
  go_ret
  refine ⟨congrArg Ending.returned (congrArg Value.string ?_), ((Below.refl _ _).alloc (Nat.le_refl _) _).trans (hB.mono (by simp))⟩
  rw [← hT.out]
  exact bytes_append l1 l2

/-- The digits that may stand in a text. -/
def hexC : List UInt8 := [48, 49, 50, 51, 52, 53, 54, 55, 56, 57, 97, 98, 99, 100, 101, 102]
theorem hexC_of (c : UInt8) : hexC.contains c = decide (hexD c.toNat ≤ 15) := by
  have : ∀ n : Fin 256, hexC.contains (UInt8.ofNat n.val) = decide (hexD (UInt8.ofNat n.val).toNat ≤ 15) := by decide +kernel
  have h := this ⟨c.toNat, c.toNat_lt⟩
  rwa [UInt8.ofNat_toNat] at h
theorem mem_drop {α : Type} (p : α → Bool) (x : α) (hx : p x = false) : ∀ l : List α, x ∈ l → x ∈ l.dropWhile p
  | [], h => h
  | y :: l, h => by
    rw [List.dropWhile_cons]
    by_cases hy : p y = true
    · rw [if_pos hy]
      refine mem_drop p x hx l ?_
      rcases List.mem_cons.1 h with rfl | h
      · rw [hx] at hy; cases hy
      · exact h
    · rw [if_neg hy]; exact h
theorem drop_all {α : Type} (p : α → Bool) : ∀ l : List α, l.all p = true → l.dropWhile p = []
  | [], _ => rfl
  | y :: l, h => by
    rw [List.all_cons, Bool.and_eq_true] at h
    rw [List.dropWhile_cons, if_pos h.1]
    exact drop_all p l h.2
theorem trim_all (l : List UInt8) (h : hexAll l = true) : Lib.trimS l hexC = [] := by
  have ha : l.all (hexC.contains ·) = true := by
    unfold hexAll at h
    rw [List.all_eq_true] at h ⊢
    intro x hx
    rw [hexC_of]; exact h x hx
  have hr : Lib.trimRightS l hexC = [] := by
    unfold Lib.trimRightS
    rw [drop_all _ _ (by rw [List.all_reverse]; exact ha)]
    rfl
  unfold Lib.trimS
  rw [hr]; rfl
theorem trim_some (l : List UInt8) (h : hexAll l = false) : Lib.trimS l hexC ≠ [] := by
  unfold hexAll at h
  obtain ⟨x, hx, hn⟩ := List.all_eq_false.1 h
  have hp : hexC.contains x = false := by rw [hexC_of]; simpa using hn
  have h1 : x ∈ Lib.trimRightS l hexC := by
    unfold Lib.trimRightS
    rw [List.mem_reverse]
    exact mem_drop (hexC.contains ·) x hp _ (List.mem_reverse.2 hx)
  have h2 : x ∈ Lib.trimS l hexC := by
    unfold Lib.trimS Lib.trimLeftS
    exact mem_drop (hexC.contains ·) x hp _ h1
  exact List.ne_nil_of_mem h2

theorem parse16 (t : ByteArray) (w : World) (hl : t.size = 16) (ha : hexAll t.data.toList = true) :
    Calls Tryd.prog 20 #[.string t, .int .i64 16, .int .i64 64] w fun e w' => e = .returned (.tuple #[.int .u64 ((hexV t.data.toList : Nat) : Int), .nilIface]) ∧ w' = Lib.bytesWorld w 5 t := by
  have hcon := parse16' t w hl ha
  clear hl ha
  generalize hexV t.data.toList = v at hcon ⊢
  go_enter Tryd.func20, Tryd.ntmps20
  go_wp2_with (go_at_call 39; refine hcon.mono ?_; rintro e w' ⟨rfl, rfl⟩)
  go_ret2
  exact ⟨rfl, rfl⟩

/-- What 'Read' returns. -/
def FReadOf (l : List UInt8) (e : Ending) : Prop := e = .returned (.tuple #[.int .u64 (((fRead l).getD 0 : Nat) : Int), .int .i64 (if (fRead l).isSome then 0 else 10)])

theorem float_read (t : ByteArray) (w : World) (hs : t.size ≤ 9223372036854775807) :
    Calls Tryd.prog 12 #[.string t] w fun e w' => FReadOf t.data.toList e ∧ Below w.heap.size w w' := by
  have hlen : t.data.toList.length = t.size := by rw [Array.length_toList]; rfl
  by_cases h16 : t.size = 16
  · have c1 := Any.strings_Trim_laid Tryd.lays160 (by kernel_rfl) t ⟨#[48, 49, 50, 51, 52, 53, 54, 55, 56, 57, 97, 98, 99, 100, 101, 102]⟩ w hs (by decide) (ascii_of_all (by decide))
    change Calls Tryd.prog 19 _ _ (fun e w' => e = .returned (.string ⟨(Lib.trimS t.data.toList hexC).toArray⟩) ∧ Below w.heap.size w w') at c1
    cases ha : hexAll t.data.toList with
    | true =>
      rw [trim_all _ ha] at c1
      have c2 := fun W => parse16 t W h16 ha
      have HR : Hid (FReadOf t.data.toList (.returned (.tuple #[.int .u64 ((hexV t.data.toList : Nat) : Int), .int .i64 0]))) := hidf (by
        unfold FReadOf fRead
        rw [if_pos ⟨by rw [hlen]; exact h16, ha⟩]; rfl)
      clear ha hlen
      generalize hexV t.data.toList = v at c2 HR ⊢
      generalize t.data.toList = l at HR ⊢
      go_enter Tryd.func12, Tryd.ntmps12
      go_wp2_with (first
        | (go_at_call 19; refine c1.mono ?_; rintro e w' ⟨rfl, hB⟩)
        | (go_at_call 20; refine (c2 _).mono ?_; rintro e w2 ⟨rfl, rfl⟩))
      go_ret2
      exact ⟨HR.out, hB.trans ((Lib.bytesWorld_below _ _ _).mono hB.size)⟩
    | false =>
      have hne := trim_some _ ha
      have HR : Hid (FReadOf t.data.toList (.returned (.tuple #[.int .u64 0, .int .i64 10]))) := hidf (by
        unfold FReadOf fRead
        rw [if_neg (by rw [ha]; simp)]; rfl)
      generalize Lib.trimS t.data.toList hexC = r at c1 hne
      have hne' : r.isEmpty = false := by
        cases r
        · exact absurd rfl hne
        · rfl
      clear hne
      clear ha hlen
      generalize t.data.toList = l at HR ⊢
      go_enter Tryd.func12, Tryd.ntmps12
      go_wp2_with (first
        | (go_at_call 19; refine c1.mono ?_; rintro e w' ⟨rfl, hB⟩))
      go_ret2
      exact ⟨HR.out, hB⟩
  · have HR : Hid (FReadOf t.data.toList (.returned (.tuple #[.int .u64 0, .int .i64 10]))) := hidf (by
      unfold FReadOf fRead
      rw [if_neg (by rw [hlen]; exact fun h => h16 h.1)]; rfl)
    have h16' : (((t.size : Nat) : Int) != 16) = true := by simp; omega
    clear h16 hlen
    generalize t.data.toList = l at HR ⊢
    go_enter Tryd.func12, Tryd.ntmps12
    go_wp2
    go_ret2
    exact ⟨HR.out, Below.refl _ _⟩

end Go.Proofs.YtcjdmkjcpelakaaDoor
