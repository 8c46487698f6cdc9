/- Plain facts on rows of pages that are free or not. No program is named here. -/
import Derived.Test.YtbihliaeidpfaaaIndexMath
namespace Go.Proofs.Ytbihliaeidpfaaa

/-- May a run be? -/
def fMay (r : Int × Int) : Bool := decide (0 ≤ r.1 ∧ r.1 < 1024 ∧ 1 ≤ r.2 ∧ r.2 ≤ 1024 ∧ r.1 + r.2 ≤ 1024)
def freePage (free : Bool) (out : List Bool) (p : Nat) : Option (List Bool) := if out.getD p false == free then none else some (out.set p free)
def freePages (free : Bool) (s : Nat) : Nat → List Bool → Option (List Bool)
  | 0, out => some out
  | k + 1, out => (freePages free s k out).bind fun o => freePage free o (s + k)
def freeRuns (free : Bool) (f : List Bool) (rs : List (Int × Int)) : Option (List Bool) :=
  rs.foldl (fun o r => o.bind (freePages free r.1.toNat r.2.toNat)) (some f)
def freeEnd (f : List Bool) : Option (List Bool) → List Bool × Int
  | some o => (o, 0)
  | none => (f, 9)
/-- What Put answers. -/
def fPut (f : List Bool) (rs : List (Int × Int)) (free : Bool) : List Bool × Int := if rs.all fMay then freeEnd f (freeRuns free f rs) else (f, 2)
def b2i (b : Bool) : Int := if b then 1 else 0
theorem b2i_one (b : Bool) : b2i b = 1 ↔ b = true := by cases b <;> simp [b2i]
/-- The runs. -/
def fList (f : List Bool) : List (Int × Int) := xRuns (f.map b2i) 1
/-- The first run that is as long as this. -/
def bestAt (l : List (Int × Int)) : Nat → Int → Option (Int × Int)
  | 0, _ => none
  | k + 1, want => (l.find? (fun r => r.2 == want)).or (bestAt l k (want + 1))
/-- The tightest run. -/
def fBest (f : List Bool) (n : Int) : Option (Int × Int) := if n < 1 then none else bestAt (fList f) (1025 - n).toNat n
/-- How many are free. -/
def fPages (f : List Bool) : Nat := (f.filter id).length
/-- Are all pages of a run free? -/
def fHas (f : List Bool) (r : Int × Int) : Bool := fMay r && (List.range r.2.toNat).all fun i => f.getD (r.1.toNat + i) false

theorem freePages_none {free : Bool} {s : Nat} {out : List Bool} : ∀ {k : Nat} (m : Nat), k ≤ m → freePages free s k out = none → freePages free s m out = none
  | k, 0, h, e => by
    obtain rfl : k = 0 := by omega
    exact e
  | k, m + 1, h, e => by
    by_cases c : k = m + 1
    · rw [← c]; exact e
    · unfold freePages
      rw [freePages_none (k := k) m (by omega) e]; rfl
theorem freeRuns_snoc (free : Bool) (f : List Bool) (rs : List (Int × Int)) (r : Int × Int) : freeRuns free f (rs ++ [r]) = (freeRuns free f rs).bind (freePages free r.1.toNat r.2.toNat) := by
  unfold freeRuns; rw [List.foldl_append]; rfl
theorem freeFold_none (free : Bool) : ∀ rs : List (Int × Int), rs.foldl (fun o r => o.bind (freePages free r.1.toNat r.2.toNat)) none = none
  | [] => rfl
  | _ :: rs => freeFold_none free rs
theorem freeRuns_none (free : Bool) (f : List Bool) (rs : List (Int × Int)) (k : Nat) (h : freeRuns free f (rs.take k) = none) : freeRuns free f rs = none := by
  have e : rs = rs.take k ++ rs.drop k := (List.take_append_drop k rs).symm
  unfold freeRuns at h ⊢
  rw [e, List.foldl_append, h, freeFold_none]
theorem fPages_snoc (f : List Bool) (b : Bool) : fPages (f ++ [b]) = fPages f + (if b then 1 else 0) := by
  unfold fPages; rw [List.filter_append, List.length_append]; cases b <;> rfl
theorem fPages_le (f : List Bool) : fPages f ≤ f.length := List.length_filter_le _ _
theorem fHas_some (f : List Bool) (s l : Nat) (i : Nat) (hi : i < l) (h : f.getD (s + i) false = false) : fHas f ((s : Int), (l : Int)) = false := by
  unfold fHas
  rw [Bool.and_eq_false_iff]; right
  rw [List.all_eq_false]
  exact ⟨i, List.mem_range.2 (by simpa using hi), by
    show ¬ (f.getD ((s : Int).toNat + i) false = true)
    rw [Int.toNat_natCast, h]; decide⟩
theorem fHas_all (f : List Bool) (s l : Nat) (hm : fMay ((s : Int), (l : Int)) = true) (h : ∀ i, i < l → f.getD (s + i) false = true) : fHas f ((s : Int), (l : Int)) = true := by
  unfold fHas
  rw [hm, Bool.true_and, List.all_eq_true]
  intro i hi
  have := List.mem_range.1 hi
  simpa using h i (by simpa using this)
theorem bestAt_none (l : List (Int × Int)) (k : Nat) (want : Int) (h : ∀ r ∈ l, r.2 ≠ want) : bestAt l (k + 1) want = bestAt l k (want + 1) := by
  have e : l.find? (fun r => r.2 == want) = none := List.find?_eq_none.2 fun r hr => by simpa using h r hr
  show (l.find? (fun r => r.2 == want)).or _ = _
  rw [e]; rfl
theorem find_first (l : List (Int × Int)) (want : Int) (j : Nat) (r : Int × Int) (h : ∀ i, i < j → ∀ y, l[i]? = some y → y.2 ≠ want) (hj : l[j]? = some r) (hr : r.2 = want) : l.find? (fun r => r.2 == want) = some r := by
  have e : l = l.take j ++ r :: l.drop (j + 1) := by
    have hl : j < l.length := (List.getElem?_eq_some_iff.1 hj).1
    have h2 : l[j] = r := (List.getElem?_eq_some_iff.1 hj).2
    rw [← h2, ← List.drop_eq_getElem_cons hl, List.take_append_drop]
  rw [e, List.find?_append, List.find?_eq_none.2 (fun y hy => ?_)]
  · simp [hr]
  · obtain ⟨i, hi, rfl⟩ := List.getElem_of_mem hy
    rw [List.length_take] at hi
    have := h i (by omega) l[i] (List.getElem?_eq_getElem (by omega))
    simpa using this
theorem bestAt_some (l : List (Int × Int)) (k : Nat) (want : Int) (j : Nat) (r : Int × Int) (h : ∀ i, i < j → ∀ y, l[i]? = some y → y.2 ≠ want) (hj : l[j]? = some r) (hr : r.2 = want) : bestAt l (k + 1) want = some r := by
  show (l.find? (fun r => r.2 == want)).or _ = _
  rw [find_first l want j r h hj hr]; rfl

theorem freePage_length {free : Bool} {out o : List Bool} {p : Nat} (h : freePage free out p = some o) : o.length = out.length := by
  unfold freePage at h
  split at h
  · cases h
  · obtain rfl : out.set p free = o := by simpa using h
    rw [List.length_set]
theorem freePages_length {free : Bool} {s : Nat} : ∀ {k : Nat} {out o : List Bool}, freePages free s k out = some o → o.length = out.length
  | 0, out, o, h => by
    obtain rfl : out = o := by simpa [freePages] using h
    rfl
  | k + 1, out, o, h => by
    unfold freePages at h
    cases e : freePages free s k out with
    | none => rw [e] at h; cases h
    | some o1 =>
      rw [e] at h
      rw [freePage_length h]; exact freePages_length e
theorem freeRuns_length (free : Bool) : ∀ (rs : List (Int × Int)) (f o : List Bool), freeRuns free f rs = some o → o.length = f.length
  | [], f, o, h => by
    obtain rfl : f = o := by simpa [freeRuns] using h
    rfl
  | r :: rs, f, o, h => by
    have e : freeRuns free f (r :: rs) = rs.foldl (fun o r => o.bind (freePages free r.1.toNat r.2.toNat)) (freePages free r.1.toNat r.2.toNat f) := rfl
    rw [e] at h
    cases e2 : freePages free r.1.toNat r.2.toNat f with
    | none => rw [e2, freeFold_none] at h; cases h
    | some o1 =>
      rw [e2] at h
      rw [freeRuns_length free rs o1 o h, freePages_length e2]
theorem fPut_length (f : List Bool) (rs : List (Int × Int)) (free : Bool) : (fPut f rs free).1.length = f.length := by
  unfold fPut
  split
  · cases e : freeRuns free f rs with
    | none => rfl
    | some o => exact freeRuns_length free rs f o e
  · rfl

end Go.Proofs.Ytbihliaeidpfaaa
