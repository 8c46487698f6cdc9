/- What Read of layer 3 (bitmap) returns. -/
import Derived.Test.YtbjcdfhckhpoiaaDoorBitCodeD
import Derived.Test.YtbjcdfhckhpoiaaDoorShelf
namespace Go.Proofs.YtbjcdfhckhpoiaaDoor
open Go.RowKit Go.Shelf
set_option linter.unusedVariables false

/-- The digits that may stand in a text. -/
def binC : List UInt8 := [48, 49]
theorem binC_of (c : UInt8) : binC.contains c = (c == 48 || c == 49) := by
  rw [Bool.eq_iff_iff]; simp [binC]
theorem bmem_drop {α : Type} (p : α → Bool) (x : α) (hx : p x = false) : ∀ l : List α, x ∈ l → x ∈ l.dropWhile p
  | [], h => h
  | y :: l, h => by
    rw [List.dropWhile_cons]
    by_cases hy : p y = true
    · rw [if_pos hy]
      refine bmem_drop p x hx l ?_
      rcases List.mem_cons.1 h with rfl | h
      · rw [hx] at hy; cases hy
      · exact h
    · rw [if_neg hy]; exact h
theorem bdrop_all {α : Type} (p : α → Bool) : ∀ l : List α, l.all p = true → l.dropWhile p = []
  | [], _ => rfl
  | y :: l, h => by
    rw [List.all_cons, Bool.and_eq_true] at h
    rw [List.dropWhile_cons, if_pos h.1]
    exact bdrop_all p l h.2
theorem btrim_all (l : List UInt8) (h : bDigits l = true) : Lib.trimS l binC = [] := by
  have ha : l.all (binC.contains ·) = true := by
    unfold bDigits at h
    rw [List.all_eq_true] at h ⊢
    intro x hx
    rw [binC_of]; exact h x hx
  have hr : Lib.trimRightS l binC = [] := by
    unfold Lib.trimRightS
    rw [bdrop_all _ _ (by rw [List.all_reverse]; exact ha)]
    rfl
  unfold Lib.trimS
  rw [hr]; rfl
theorem btrim_some (l : List UInt8) (h : bDigits l = false) : Lib.trimS l binC ≠ [] := by
  unfold bDigits at h
  obtain ⟨x, hx, hn⟩ := List.all_eq_false.1 h
  have hp : binC.contains x = false := by rw [binC_of]; simpa using hn
  have h1 : x ∈ Lib.trimRightS l binC := by
    unfold Lib.trimRightS
    rw [List.mem_reverse]
    exact bmem_drop (binC.contains ·) x hp _ (List.mem_reverse.2 hx)
  have h2 : x ∈ Lib.trimS l binC := by
    unfold Lib.trimS Lib.trimLeftS
    exact bmem_drop (binC.contains ·) x hp _ h1
  exact List.ne_nil_of_mem h2

/-- The bitmap of a text; the error's number. -/
def rRead (l : List UInt8) : List Nat × Int := if 4096 < l.length then ([], 11) else if bDigits l then (cOf (bOnes l), 0) else ([], 10)

theorem code_bread (s : ByteArray) (w : World) (hs : s.size ≤ 9223372036854775807) :
    Calls Tryd.prog 13 #[.string s] w (OwnWNo w (rRead s.data.toList).1 (rRead s.data.toList).2) := by
  have hsz : s.data.toList.length = s.size := by simp
  by_cases hlong : 4096 < s.size
  · have e : rRead s.data.toList = ([], 11) := by unfold rRead; rw [if_pos (by omega)]
    rw [e]
    have P : Hid (OwnWNo w [] 11 (.returned (.tuple #[.slice none 0 0, .int .i64 11])) w) := hidb ⟨none, 0, rfl, World.ownsRow_nil _ _ _ _, Below.refl _ _⟩
    clear e hsz
    go_enter Tryd.func13, Tryd.ntmps13
    go_wp2
    go_ret2
    exact P.out
  · have c1 := Any.strings_Trim_laid Tryd.lays160 (by kernel_rfl) s ⟨#[48, 49]⟩ w hs (by decide) (ascii_of_all (by decide))
    change Calls Tryd.prog 25 _ _ (fun e w' => e = .returned (.string ⟨(Lib.trimS s.data.toList binC).toArray⟩) ∧ Below w.heap.size w w') at c1
    have HR : Hid (rRead s.data.toList = if bDigits s.data.toList then (cOf (bOnes s.data.toList), 0) else ([], 10)) := hidb (by unfold rRead; rw [if_neg (by omega)])
    have HL := hidb hsz
    clear hsz
    cases hd : bDigits s.data.toList with
    | false =>
      have hne := btrim_some _ hd
      rw [HR.out, hd]
      generalize Lib.trimS s.data.toList binC = r at c1 hne
      have hne' : r.isEmpty = false := by
        cases r
        · exact absurd rfl hne
        · rfl
      clear hne hd
      go_enter Tryd.func13, Tryd.ntmps13
      go_wp2_with (go_at_call 25; refine c1.mono ?_; rintro e w1 ⟨rfl, hb1⟩)
      go_ret2
      exact ⟨none, 0, rfl, World.ownsRow_nil _ _ _ _, hb1⟩
    | true =>
      obtain ⟨i0, hi, hz0, hz1, hz2⟩ := info_parts info_int
      rw [btrim_all _ hd] at c1
      rw [HR.out, hd]
      clear hd
      go_enter Tryd.func13, Tryd.ntmps13
      go_wp2_with (go_at_call 25; refine c1.mono ?_; rintro e w1 ⟨rfl, hb1⟩)
      have HB1 := hidb hb1
      have hs1 := hb1.size
      clear c1 hb1
      go_loopw [4, 14] (fun v k wr => ∃ j : Nat, j ≤ s.size ∧ k = .int .i64 j ∧ wr.ownsRow w1.heap.size 3 1 v (bOnes (s.data.toList.take j)).length ((bOnes (s.data.toList.take j)).map iv) ∧ Below w1.heap.size w1 wr) (fun _ k _ => (s.size - intOf k).toNat)
      case atStart => exact ⟨0, by omega, rfl, World.ownsRow_nil _ _ _ _, Below.refl _ _⟩
      case round =>
        obtain ⟨j, hj, rfl, hown, hbel⟩ := hrel
        have hbsz := hbel.size
        by_cases hlt : j < s.size
        · have htk : s.data.toList.take (j + 1) = s.data.toList.take j ++ [s[j]] := by
            rw [List.take_succ_eq_append_getElem (by simpa using hlt)]; rfl
          have hl := bOnes_length (s.data.toList.take j)
          have hlj : (s.data.toList.take j).length = j := by rw [List.length_take, HL.out]; omega
          have hon := bOnes_snoc (s.data.toList.take j) s[j]
          rw [← htk] at hon
          rw [hlj] at hon hl
          have HBEL := hidb hbel
          clear hbel htk hlj
          by_cases h1 : s[j] = 49
          · rw [if_pos h1] at hon
            have HON := hidb hon
            have t1 : ((s[j].toNat : Int) == 49) = true := by rw [h1]; rfl
            clear hon h1
            go_wp2_with (at_builtin; refine wpList_append_one wr rfl _ _ 24 rfl w1.heap.size 3 i0 (.int .i64 0) 8 Tryd.underlying24 hi hz0 hz1 hz2 rfl _ _ _ rfl (by exact hown) hbsz (.int .i64 (j : Int)) rfl _ rfl (by unfold maxLen; omega) (by omega) ?_; intro v1 w2 hown1 hb2)
            have HO := hidb hown1
            have HB2 := hidb hb2
            clear hown1 hb2 hown
            go_roundw
            case rel => exact ⟨j + 1, by omega, by go_num, by rw [HON.out, List.length_append, List.map_append]; exact HO.out, HBEL.out.trans HB2.out⟩
            case measure => simp [intOf]; omega
          · rw [if_neg h1, List.append_nil] at hon
            have HON := hidb hon
            have HO := hidb hown
            have t1 : ((s[j].toNat : Int) == 49) = false := by
              have : s[j].toNat ≠ 49 := fun h => h1 (by apply UInt8.toNat_inj.1; exact h)
              simp; omega
            clear hon h1 hown
            go_wp2
            go_roundw
            case rel => exact ⟨j + 1, by omega, by go_num, by rw [HON.out]; exact HO.out, HBEL.out⟩
            case measure => simp [intOf]; omega
        · have hje : j = s.size := by omega
          rw [hje, List.take_of_length_le (by rw [HL.out]; omega)] at hown
          obtain ⟨A', c', rfl⟩ := own_form hown
          have hl := bOnes_length s.data.toList
          rw [HL.out] at hl
          have co := code_bof A' _ c' (bOnes s.data.toList) wr (Sl.of_own hown) (by omega)
          have HBEL := hidb hbel
          clear hown hbel hje HR
          generalize (bOnes s.data.toList).length = q at *
          generalize cOf (bOnes s.data.toList) = X at *
          go_wp2_with (go_at_call 16; refine co.mono ?_; rintro e w3 ⟨A3, c3, rfl, hown3, hb3⟩)
          go_ret2
          have hs2 := HBEL.out.size
          exact ⟨A3, c3, rfl, hown3.mono (by omega), HB1.out.trans ((HBEL.out.mono hs1).trans (hb3.mono (by omega)))⟩

end Go.Proofs.YtbjcdfhckhpoiaaDoor
