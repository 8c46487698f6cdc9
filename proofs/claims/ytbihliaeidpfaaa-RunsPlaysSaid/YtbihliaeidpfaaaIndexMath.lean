/- Plain facts on rows of pages that have numbers, and on runs of pages. No program is named here. -/
import Derived.Below
namespace Go.Proofs.Ytbihliaeidpfaaa

/-- No number anywhere. -/
def xNew (pages : Int) : List Int := List.replicate (max 0 (min pages 1024)).toNat 0
/-- Are all pages of a run there? -/
def xThere (len : Nat) (r : Int × Int) : Bool := decide (1 ≤ r.2 ∧ 0 ≤ r.1 ∧ r.1 < len ∧ r.2 ≤ len ∧ r.1 + r.2 ≤ len)
/-- A page's number. -/
def xOf (x : List Int) (page : Int) : Int := if 0 ≤ page ∧ page < x.length then x.getD page.toNat 0 else 0
/-- How many pages from p on have the number. -/
def runLen (x : List Int) (id : Int) (p : Nat) : Nat := ((x.drop p).takeWhile (· == id)).length
/-- The pages that have a number, from the page p on. -/
def runsAt (x : List Int) (id : Int) : Nat → Nat → List (Int × Int)
  | 0, _ => []
  | f + 1, p => if p < x.length then (if 0 < runLen x id p then ((p : Int), (runLen x id p : Int)) :: runsAt x id f (p + runLen x id p + 1) else runsAt x id f (p + 1)) else []
def xRuns (x : List Int) (id : Int) : List (Int × Int) := runsAt x id (x.length + 1) 0
/-- A page gets a number, or has none any more; none, where that may not be. -/
def putPage (x : List Int) (id : Int) (drop : Bool) (out : List Int) (p : Nat) : Option (List Int) :=
  if (drop && x.getD p 0 == 0) || (!drop && out.getD p 0 != 0) then none else some (out.set p (if drop then 0 else id))
def putPages (x : List Int) (id : Int) (drop : Bool) (s : Nat) : Nat → List Int → Option (List Int)
  | 0, out => some out
  | k + 1, out => (putPages x id drop s k out).bind fun o => putPage x id drop o (s + k)
def putRuns (x : List Int) (id : Int) (drop : Bool) (rs : List (Int × Int)) : Option (List Int) :=
  rs.foldl (fun o r => o.bind (putPages x id drop r.1.toNat r.2.toNat)) (some x)
/-- What is there behind it, and the error's number. -/
def putEnd (x : List Int) : Option (List Int) → List Int × Int
  | some o => (o, 0)
  | none => (x, 9)
/-- What Put answers. -/
def xPut (x : List Int) (id : Int) (rs : List (Int × Int)) (drop : Bool) : List Int × Int :=
  if !drop && decide (id < 1) then (x, 1) else if rs.all (xThere x.length) then putEnd x (putRuns x id drop rs) else (x, 2)

theorem runLen_le (x : List Int) (id : Int) (p : Nat) : runLen x id p ≤ x.length - p := by
  unfold runLen
  refine Nat.le_trans (List.takeWhile_sublist _).length_le ?_
  rw [List.length_drop]; omega
theorem takeWhile_at {α : Type} (q : α → Bool) : ∀ (l : List α) (n : Nat), n < (l.takeWhile q).length → ∃ y, l[n]? = some y ∧ q y = true
  | [], n, h => by simp at h
  | y :: l, n, h => by
    rw [List.takeWhile_cons] at h
    by_cases c : q y = true
    · rw [if_pos c] at h
      cases n with
      | zero => exact ⟨y, rfl, c⟩
      | succ n => exact takeWhile_at q l n (by simpa using h)
    · rw [if_neg c] at h; simp at h
theorem takeWhile_end {α : Type} (q : α → Bool) : ∀ (l : List α) (y : α), l[(l.takeWhile q).length]? = some y → q y = false
  | [], y, h => by simp at h
  | x :: l, y, h => by
    rw [List.takeWhile_cons] at h
    by_cases c : q x = true
    · rw [if_pos c] at h
      exact takeWhile_end q l y (by simpa using h)
    · rw [if_neg c] at h
      obtain rfl : x = y := by simpa using h
      simpa using c
/-- As long as the number stands there the run goes on. -/
theorem runLen_more (x : List Int) (id : Int) (p n : Nat) (y : Int) (hn : n ≤ runLen x id p) (hy : x[p + n]? = some y) : n < runLen x id p ↔ y = id := by
  constructor
  · intro h
    obtain ⟨z, hz, hq⟩ := takeWhile_at (· == id) (x.drop p) n h
    rw [List.getElem?_drop, hy] at hz
    obtain rfl : y = z := by simpa using hz
    simpa using hq
  · intro e
    refine Nat.lt_of_le_of_ne hn fun e2 => ?_
    have := takeWhile_end (· == id) (x.drop p) y (by rw [show ((x.drop p).takeWhile (· == id)).length = n from e2.symm, List.getElem?_drop]; exact hy)
    simp [e] at this
theorem runLen_end (x : List Int) (id : Int) (p n : Nat) (hn : n ≤ runLen x id p) (h : x.length ≤ p + n) : n = runLen x id p := by
  have := runLen_le x id p; omega
theorem runsAt_more (x : List Int) (id : Int) : ∀ f g p, x.length < f + p → x.length < g + p → runsAt x id f p = runsAt x id g p
  | 0, g, p, h1, h2 => by
    cases g with
    | zero => rfl
    | succ g => show [] = runsAt x id (g + 1) p; unfold runsAt; rw [if_neg (by omega)]
  | f + 1, 0, p, h1, h2 => by show runsAt x id (f + 1) p = []; unfold runsAt; rw [if_neg (by omega)]
  | f + 1, g + 1, p, h1, h2 => by
    unfold runsAt
    split
    · split
      · rw [runsAt_more x id f g _ (by omega) (by omega)]
      · rw [runsAt_more x id f g _ (by omega) (by omega)]
    · rfl
/-- The runs from a page on. -/
def runsFrom (x : List Int) (id : Int) (p : Nat) : List (Int × Int) := runsAt x id (x.length + 1) p
theorem runsFrom_end (x : List Int) (id : Int) (p : Nat) (h : x.length ≤ p) : runsFrom x id p = [] := by
  unfold runsFrom runsAt; rw [if_neg (by omega)]
theorem runsFrom_some (x : List Int) (id : Int) (p : Nat) (h : p < x.length) (h0 : 0 < runLen x id p) : runsFrom x id p = ((p : Int), (runLen x id p : Int)) :: runsFrom x id (p + runLen x id p + 1) := by
  unfold runsFrom
  rw [runsAt, if_pos h, if_pos h0, runsAt_more x id x.length (x.length + 1) _ (by omega) (by omega)]
theorem runsFrom_none (x : List Int) (id : Int) (p : Nat) (h : p < x.length) (h0 : runLen x id p = 0) : runsFrom x id p = runsFrom x id (p + 1) := by
  unfold runsFrom
  rw [runsAt, if_pos h, if_neg (by omega), runsAt_more x id x.length (x.length + 1) _ (by omega) (by omega)]
theorem runsAt_length (x : List Int) (id : Int) : ∀ f p, (runsAt x id f p).length ≤ x.length - p
  | 0, _ => by simp [runsAt]
  | f + 1, p => by
    unfold runsAt
    split
    · next h =>
      split
      · next h0 =>
        have := runsAt_length x id f (p + runLen x id p + 1)
        rw [List.length_cons]; omega
      · have := runsAt_length x id f (p + 1); omega
    · simp

theorem putPage_length {x : List Int} {id : Int} {drop : Bool} {out o : List Int} {p : Nat} (h : putPage x id drop out p = some o) : o.length = out.length := by
  unfold putPage at h
  split at h
  · cases h
  · obtain rfl : out.set p (if drop then 0 else id) = o := by simpa using h
    rw [List.length_set]
theorem putPages_length {x : List Int} {id : Int} {drop : Bool} {s : Nat} : ∀ {k : Nat} {out o : List Int}, putPages x id drop s k out = some o → o.length = out.length
  | 0, out, o, h => by
    obtain rfl : out = o := by simpa [putPages] using h
    rfl
  | k + 1, out, o, h => by
    unfold putPages at h
    cases e : putPages x id drop s k out with
    | none => rw [e] at h; cases h
    | some o1 =>
      rw [e] at h
      rw [putPage_length h]; exact putPages_length e
theorem putPages_none {x : List Int} {id : Int} {drop : Bool} {s : Nat} {out : List Int} : ∀ {k : Nat} (m : Nat), k ≤ m → putPages x id drop s k out = none → putPages x id drop s m out = none
  | k, 0, h, e => by
    obtain rfl : k = 0 := by omega
    exact e
  | k, m + 1, h, e => by
    by_cases c : k = m + 1
    · rw [← c]; exact e
    · unfold putPages
      rw [putPages_none (k := k) m (by omega) e]; rfl
theorem putRuns_snoc (x : List Int) (id : Int) (drop : Bool) (rs : List (Int × Int)) (r : Int × Int) : putRuns x id drop (rs ++ [r]) = (putRuns x id drop rs).bind (putPages x id drop r.1.toNat r.2.toNat) := by
  unfold putRuns; rw [List.foldl_append]; rfl
theorem foldl_none (x : List Int) (id : Int) (drop : Bool) : ∀ rs : List (Int × Int), rs.foldl (fun o r => o.bind (putPages x id drop r.1.toNat r.2.toNat)) none = none
  | [] => rfl
  | _ :: rs => foldl_none x id drop rs
theorem putRuns_none (x : List Int) (id : Int) (drop : Bool) (rs : List (Int × Int)) (k : Nat) (h : putRuns x id drop (rs.take k) = none) : putRuns x id drop rs = none := by
  have e : rs = rs.take k ++ rs.drop k := (List.take_append_drop k rs).symm
  unfold putRuns at h ⊢
  rw [e, List.foldl_append, h, foldl_none]

end Go.Proofs.Ytbihliaeidpfaaa
