/- Plain facts: what is set, and dropped, is as it was; the runs of all numbers are all pages, each once. No program is named here. -/
import Derived.Test.YtoghahldlnhpdaaIndexPlain
namespace Go.Proofs.Ytoghahldlnhpdaa

theorem okAll_mem (x : List Int) (drop : Bool) : ∀ (ps d : List Nat), okAll x drop d ps = true → ∀ p ∈ ps, if drop then x.getD p 0 ≠ 0 else x.getD p 0 = 0
  | [], _, _, p, hp => by cases hp
  | q :: ps, d, h, p, hp => by
    obtain ⟨h1, h2⟩ := Bool.and_eq_true_iff.1 (show (okOne x drop d q && okAll x drop (d ++ [q]) ps) = true from h)
    rcases List.mem_cons.1 hp with rfl | hp
    · unfold okOne at h1
      cases drop with
      | true => simpa using h1
      | false => have := (Bool.and_eq_true_iff.1 (show (x.getD p 0 == 0 && !d.contains p) = true from h1)).1; simpa using this
    · exact okAll_mem x drop ps _ h2 p hp
theorem okAll_drop (x : List Int) : ∀ (ps d : List Nat), (∀ p ∈ ps, x.getD p 0 ≠ 0) → okAll x true d ps = true
  | [], _, _ => rfl
  | q :: ps, d, h => by
    show (okOne x true d q && okAll x true (d ++ [q]) ps) = true
    rw [okAll_drop x ps _ (fun p hp => h p (by simp [hp])), Bool.and_true]
    have := h q (by simp)
    unfold okOne
    simpa using this
theorem xPut_refused {x x' : List Int} {id no : Int} {rs : List (Int × Int)} {drop : Bool} (h : xPut x id rs drop = (x', no)) (hn : no ≠ 0) : x' = x := by
  by_cases hid : drop = false → 1 ≤ id
  · cases ht : rs.all (xThere x.length) with
    | true =>
      rw [xPut_there x id rs drop hid ht] at h
      split at h
      · injection h with h1 h2; exact absurd h2.symm hn
      · injection h with h1 h2; exact h1.symm
    | false => rw [xPut_gone x id rs drop hid ht] at h; injection h with h1 h2; exact h1.symm
  · obtain ⟨rfl, h1⟩ : drop = false ∧ ¬ 1 ≤ id := by cases drop with
      | true => exact absurd (fun h => by cases h) hid
      | false => exact ⟨rfl, fun h => hid fun _ => h⟩
    rw [xPut_less x id rs (by omega)] at h; injection h with h1 h2; exact h1.symm
/-- What was set is dropped again: all is as it was. -/
theorem xPut_back {x x' : List Int} {id : Int} {rs : List (Int × Int)} (h : xPut x id rs false = (x', 0)) (id2 : Int) : xPut x' id2 rs true = (x, 0) := by
  by_cases hid : 1 ≤ id
  · have hid2 : false = false → 1 ≤ id := fun _ => hid
    cases ht : rs.all (xThere x.length) with
    | false => rw [xPut_gone x id rs false hid2 ht] at h; injection h with h1 h2; cases h2
    | true =>
      rw [xPut_there x id rs false hid2 ht] at h
      have hlt := pgs_lt _ _ ht
      cases hok : okAll x false [] (pgs rs) with
      | false => rw [hok] at h; injection h with h1 h2; cases h2
      | true =>
        rw [hok] at h
        obtain rfl : writeAll x id (pgs rs) = x' := by simpa using h
        have hl : (writeAll x id (pgs rs)).length = x.length := writeAll_length _ _ _
        rw [xPut_there _ id2 rs true (fun h => by cases h) (by rw [hl]; exact ht)]
        have hat := fun q => writeAll_at x id q (pgs rs) hlt
        rw [okAll_drop _ _ _ (fun p hp => by rw [hat, if_pos (by simpa using hp)]; omega)]
        simp only [if_true]
        congr 1
        apply List.ext_getElem?
        intro q
        by_cases hq : q < x.length
        · have e1 := writeAll_at (writeAll x id (pgs rs)) 0 q (pgs rs) (by rw [hl]; exact hlt)
          rw [List.getD_eq_getElem?_getD, List.getElem?_eq_getElem (by rw [writeAll_length, hl]; exact hq)] at e1
          rw [List.getElem?_eq_getElem (by rw [writeAll_length, hl]; exact hq), List.getElem?_eq_getElem hq]
          congr 1
          simp only [Option.getD_some] at e1
          rw [e1]
          have e0 : x.getD q 0 = x[q] := by rw [List.getD_eq_getElem?_getD, List.getElem?_eq_getElem hq]; rfl
          by_cases hc : (pgs rs).contains q = true
          · rw [if_pos hc]
            have := okAll_mem x false (pgs rs) [] hok q (by simpa using hc)
            simp only [Bool.false_eq_true, if_false] at this
            rw [← e0, this]
          · rw [if_neg hc, hat q, if_neg hc, e0]
        · rw [List.getElem?_eq_none (by rw [writeAll_length, hl]; omega), List.getElem?_eq_none (by omega)]
  · rw [xPut_less x id rs (by omega)] at h; injection h with h1 h2; cases h2

end Go.Proofs.Ytoghahldlnhpdaa
