/- Plain facts: the runs of a number are all pages that have it, each once, rising. No program is named here. -/
import Derived.Test.YtbihliaeidpfaaaIndexPlain
namespace Go.Proofs.Ytbihliaeidpfaaa

/-- The pages from p on that have a number. -/
def pagesAt (x : List Int) (id : Int) (p k : Nat) : List Nat := (List.range' p k).filter fun q => x.getD q 0 == id
theorem pagesAt_all (x : List Int) (id : Int) (p : Nat) : ∀ k, (∀ q, p ≤ q → q < p + k → x.getD q 0 = id) → pagesAt x id p k = List.range' p k := fun k h => by
  unfold pagesAt
  rw [List.filter_eq_self]
  intro q hq
  obtain ⟨h1, h2⟩ := List.mem_range'_1.1 hq
  simpa using h q h1 h2
theorem pagesAt_add (x : List Int) (id : Int) (p a b : Nat) : pagesAt x id p (a + b) = pagesAt x id p a ++ pagesAt x id (p + a) b := by
  unfold pagesAt
  rw [← List.filter_append]
  congr 1
  have := @List.range'_append p a b 1
  rw [Nat.one_mul] at this
  exact this.symm
theorem pagesAt_none (x : List Int) (id : Int) (p : Nat) (h : x.getD p 0 ≠ id) : pagesAt x id p 1 = [] := by
  have hb : (x.getD p 0 == id) = false := by simpa using h
  unfold pagesAt
  show List.filter _ [p] = []
  rw [List.filter_cons, hb]; rfl
theorem run_pages (p L : Nat) : (List.range L).map (p + ·) = List.range' p L := by
  rw [List.range_eq_range', List.map_add_range']; simp

/-- Within a run the number stands. -/
theorem runLen_in (x : List Int) (id : Int) (p : Nat) (t : Nat) (h : t < runLen x id p) : x.getD (p + t) 0 = id := by
  have hl := runLen_le x id p
  have hlt : p + t < x.length := by omega
  have := (runLen_more x id p t x[p + t] (by omega) (List.getElem?_eq_getElem hlt)).1 h
  rw [List.getD_eq_getElem?_getD, List.getElem?_eq_getElem hlt]
  exact this
theorem runLen_out (x : List Int) (id : Int) (p : Nat) (h : p + runLen x id p < x.length) : x.getD (p + runLen x id p) 0 ≠ id := by
  rw [List.getD_eq_getElem?_getD, List.getElem?_eq_getElem h]
  intro e
  exact absurd ((runLen_more x id p (runLen x id p) _ (Nat.le_refl _) (List.getElem?_eq_getElem h)).2 e) (Nat.lt_irrefl _)

/-- A run of natural numbers, within n pages, all of which have the number. -/
def RunOk (x : List Int) (id : Int) (p : Nat) (r : Int × Int) : Prop := ∃ S L : Nat, r = ((S : Int), (L : Int)) ∧ 1 ≤ L ∧ p ≤ S ∧ S + L ≤ x.length ∧ ∀ t, t < L → x.getD (S + t) 0 = id
theorem runsAt_ok (x : List Int) (id : Int) : ∀ f p, ∀ r ∈ runsAt x id f p, RunOk x id p r
  | 0, p, r, h => by cases h
  | f + 1, p, r, h => by
    unfold runsAt at h
    split at h
    · next hp =>
      split at h
      · next h0 =>
        rcases List.mem_cons.1 h with rfl | h
        · exact ⟨p, runLen x id p, rfl, h0, Nat.le_refl _, by have := runLen_le x id p; omega, fun t ht => runLen_in x id p t ht⟩
        · obtain ⟨S, L, e, h1, h2, h3, h4⟩ := runsAt_ok x id f _ r h
          exact ⟨S, L, e, h1, by omega, h3, h4⟩
      · obtain ⟨S, L, e, h1, h2, h3, h4⟩ := runsAt_ok x id f _ r h
        exact ⟨S, L, e, h1, by omega, h3, h4⟩
    · cases h
theorem runsAt_rise (x : List Int) (id : Int) : ∀ f p, (runsAt x id f p).Pairwise fun a b => a.1 + a.2 < b.1
  | 0, p => List.Pairwise.nil
  | f + 1, p => by
    unfold runsAt
    split
    · split
      · refine List.Pairwise.cons (fun b hb => ?_) (runsAt_rise x id f _)
        obtain ⟨S, L, rfl, _, h2, _⟩ := runsAt_ok x id f _ b hb
        show (p : Int) + (runLen x id p : Int) < (S : Int)
        omega
      · exact runsAt_rise x id f _
    · exact List.Pairwise.nil
theorem runsAt_pages (x : List Int) (id : Int) : ∀ f p, x.length < f + p → pgs (runsAt x id f p) = pagesAt x id p (x.length - p)
  | 0, p, h => by
    rw [show x.length - p = 0 by omega]; rfl
  | f + 1, p, h => by
    unfold runsAt
    split
    · next hp =>
      split
      · next h0 =>
        show (List.range (Int.toNat (runLen x id p : Int))).map (Int.toNat (p : Int) + ·) ++ pgs (runsAt x id f (p + runLen x id p + 1)) = _
        rw [Int.toNat_natCast, Int.toNat_natCast, run_pages, runsAt_pages x id f _ (by omega)]
        have hl := runLen_le x id p
        by_cases he : p + runLen x id p < x.length
        · rw [show x.length - p = runLen x id p + (1 + (x.length - (p + runLen x id p + 1))) by omega, pagesAt_add, pagesAt_add, pagesAt_none x id _ (runLen_out x id p he), List.nil_append]
          rw [pagesAt_all x id p _ (fun q h1 h2 => by
            have := runLen_in x id p (q - p) (by omega)
            rwa [show p + (q - p) = q by omega] at this)]
        · rw [show x.length - (p + runLen x id p + 1) = 0 by omega, show x.length - p = runLen x id p by omega]
          rw [pagesAt_all x id p _ (fun q h1 h2 => by
            have := runLen_in x id p (q - p) (by omega)
            rwa [show p + (q - p) = q by omega] at this)]
          simp [pagesAt]
      · next h0 =>
        rw [runsAt_pages x id f _ (by omega), show x.length - p = 1 + (x.length - (p + 1)) by omega, pagesAt_add, pagesAt_none x id p, List.nil_append]
        intro e
        refine h0 ((runLen_zero x id p x[p] (List.getElem?_eq_getElem hp)).2 ?_)
        rw [List.getD_eq_getElem?_getD, List.getElem?_eq_getElem hp] at e
        exact e
    · rw [show x.length - p = 0 by omega]; rfl

/-- The pages of the numbers from 0 on, below k. -/
def whole (x : List Int) : Nat → List Nat
  | 0 => []
  | k + 1 => whole x k ++ pgs (xRuns x k)
theorem xRuns_pages (x : List Int) (id : Int) : pgs (xRuns x id) = pagesAt x id 0 x.length := by
  exact runsAt_pages x id (x.length + 1) 0 (by omega)
theorem pagesAt_count (x : List Int) (id : Int) (q : Nat) (hq : q < x.length) : (pagesAt x id 0 x.length).count q = if x.getD q 0 = id then 1 else 0 := by
  unfold pagesAt
  by_cases h : x.getD q 0 = id
  · rw [if_pos h, List.count_filter (by simpa using h), (List.nodup_range' (step := 1)).count, if_pos (List.mem_range'_1.2 ⟨by omega, by omega⟩)]
  · rw [if_neg h, List.count_eq_zero]
    intro hm
    have := (List.mem_filter.1 hm).2
    exact h (by simpa using this)
theorem whole_count (x : List Int) (q : Nat) (hq : q < x.length) : ∀ k, (whole x k).count q = if 0 ≤ x.getD q 0 ∧ x.getD q 0 < (k : Int) then 1 else 0
  | 0 => by
    rw [if_neg (by omega)]; rfl
  | k + 1 => by
    show (whole x k ++ pgs (xRuns x k)).count q = _
    rw [List.count_append, whole_count x q hq k, xRuns_pages, pagesAt_count x _ q hq]
    by_cases h : x.getD q 0 = (k : Int)
    · rw [if_pos h, if_neg (by omega), if_pos (by omega)]
    · rw [if_neg h]
      by_cases h2 : 0 ≤ x.getD q 0 ∧ x.getD q 0 < (k : Int)
      · rw [if_pos h2, if_pos (by omega)]
      · rw [if_neg h2, if_neg (by omega)]
theorem pagesAt_length (x : List Int) (id : Int) (p k : Nat) : (pagesAt x id p k).length ≤ k := by
  unfold pagesAt
  exact Nat.le_trans (List.length_filter_le _ _) (by simp)
theorem whole_length (x : List Int) : ∀ k, (whole x k).length ≤ k * x.length
  | 0 => by simp [whole]
  | k + 1 => by
    show (whole x k ++ pgs (xRuns x k)).length ≤ _
    have := whole_length x k
    have := pagesAt_length x k 0 x.length
    rw [List.length_append, xRuns_pages, Nat.add_mul]
    omega
/-- How often each page was met. -/
def seenRow (n : Nat) (d : List Nat) : List Int := (List.range n).map fun q => (d.count q : Int)
theorem seenRow_at (n : Nat) (d : List Nat) (q : Nat) (hq : q < n) : (seenRow n d)[q]? = some (d.count q : Int) := by
  unfold seenRow; rw [List.getElem?_map, List.getElem?_range hq]; rfl
theorem seenRow_set (n : Nat) (d : List Nat) (p : Nat) (hp : p < n) : (seenRow n d).set p ((d.count p : Int) + 1) = seenRow n (d ++ [p]) := by
  apply List.ext_getElem?
  intro q
  by_cases hq : q < n
  · rw [List.getElem?_set, seenRow_at n _ q hq, seenRow_at n _ q hq, List.count_append]
    by_cases h : p = q
    · subst h; simp [seenRow, hp]
    · rw [if_neg h]
      congr 1
      have : List.count q [p] = 0 := by rw [List.count_eq_zero]; simp [Ne.symm h]
      omega
  · rw [List.getElem?_eq_none (by simp [seenRow]; omega), List.getElem?_eq_none (by simp [seenRow]; omega)]
theorem seenRow_length (n : Nat) (d : List Nat) : (seenRow n d).length = n := by simp [seenRow]
theorem seenRow_nil (n : Nat) : seenRow n [] = List.replicate n 0 := by
  apply List.ext_getElem?
  intro q
  by_cases hq : q < n
  · rw [seenRow_at n _ q hq]; simp [hq]
  · rw [List.getElem?_eq_none (by simp [seenRow]; omega), List.getElem?_eq_none (by simp; omega)]

end Go.Proofs.Ytbihliaeidpfaaa
