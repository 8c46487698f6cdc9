/- Plain facts on pages that get numbers one by one, and on runs that grow page by page. No program is named here. -/
import Derived.Test.YtbihliaeidpfaaaIndexMath
namespace Go.Proofs.Ytbihliaeidpfaaa

/-- The pages of runs, one behind the other. -/
def pgs (rs : List (Int × Int)) : List Nat := rs.flatMap fun r => (List.range r.2.toNat).map (r.1.toNat + ·)
/-- May this page be written, behind those of d? -/
def okOne (x : List Int) (drop : Bool) (d : List Nat) (p : Nat) : Bool := if drop then x.getD p 0 != 0 else x.getD p 0 == 0 && !d.contains p
def okAll (x : List Int) (drop : Bool) : List Nat → List Nat → Bool
  | _, [] => true
  | d, p :: ps => okOne x drop d p && okAll x drop (d ++ [p]) ps
def writeAll (x : List Int) (v : Int) (ps : List Nat) : List Int := ps.foldl (fun o p => o.set p v) x

theorem writeAll_snoc (x : List Int) (v : Int) (ps : List Nat) (p : Nat) : writeAll x v (ps ++ [p]) = (writeAll x v ps).set p v := by
  unfold writeAll; rw [List.foldl_append]; rfl
theorem writeAll_append (x : List Int) (v : Int) (ps qs : List Nat) : writeAll x v (ps ++ qs) = writeAll (writeAll x v ps) v qs := by
  unfold writeAll; rw [List.foldl_append]
theorem writeAll_length (v : Int) : ∀ (ps : List Nat) (x : List Int), (writeAll x v ps).length = x.length
  | [], _ => rfl
  | p :: ps, x => by
    show (writeAll (x.set p v) v ps).length = _
    rw [writeAll_length v ps, List.length_set]
theorem getD_set (x : List Int) (p q : Nat) (v : Int) (hp : p < x.length) : (x.set p v).getD q 0 = if p = q then v else x.getD q 0 := by
  rw [List.getD_eq_getElem?_getD, List.getElem?_set, List.getD_eq_getElem?_getD]
  split
  · next h => subst h; rfl
  · rfl
/-- A page that was written has the number, another one what it had. -/
theorem writeAll_at (x : List Int) (v : Int) (q : Nat) (d : List Nat) (hd : ∀ p ∈ d, p < x.length) : (writeAll x v d).getD q 0 = if d.contains q then v else x.getD q 0 := by
  suffices h : ∀ n (d : List Nat), d.length = n → (∀ p ∈ d, p < x.length) → (writeAll x v d).getD q 0 = if d.contains q then v else x.getD q 0 from h _ d rfl hd
  intro n
  induction n with
  | zero => intro d hn _; rw [List.eq_nil_of_length_eq_zero hn]; rfl
  | succ n ih =>
    intro d hn hd
    obtain ⟨e, p, rfl⟩ : ∃ e p, d = e ++ [p] := by
      refine ⟨d.dropLast, d.getLast (fun h => by rw [h] at hn; cases hn), (List.dropLast_concat_getLast _).symm⟩
    rw [writeAll_snoc, getD_set _ _ _ _ (by rw [writeAll_length]; exact hd p (by simp)), ih e (by simpa using hn) (fun y hy => hd y (by simp [hy]))]
    by_cases h : p = q
    · subst h; simp
    · rw [if_neg h]
      have : (e ++ [p]).contains q = e.contains q := by
        simp [Ne.symm h]
      rw [this]

theorem okAll_snoc (x : List Int) (drop : Bool) (p : Nat) : ∀ (ps d : List Nat), okAll x drop d (ps ++ [p]) = (okAll x drop d ps && okOne x drop (d ++ ps) p)
  | [], d => by simp [okAll]
  | q :: ps, d => by
    show (okOne x drop d q && okAll x drop (d ++ [q]) (ps ++ [p])) = (okOne x drop d q && okAll x drop (d ++ [q]) ps && _)
    rw [okAll_snoc x drop p ps (d ++ [q]), Bool.and_assoc, List.append_assoc]; rfl
theorem okAll_prefix (x : List Int) (drop : Bool) (b : List Nat) : ∀ (a d : List Nat), okAll x drop d a = false → okAll x drop d (a ++ b) = false
  | [], d, h => by cases h
  | p :: a, d, h => by
    show (okOne x drop d p && okAll x drop (d ++ [p]) (a ++ b)) = false
    rw [Bool.and_eq_false_iff]
    rcases Bool.and_eq_false_iff.1 (show (okOne x drop d p && okAll x drop (d ++ [p]) a) = false from h) with h1 | h1
    · exact Or.inl h1
    · exact Or.inr (okAll_prefix x drop b a _ h1)

/-- Is each page right, of those ahead of it? -/
def askAll (ok : List Nat → Nat → Bool) : List Nat → List Nat → Bool
  | _, [] => true
  | d, p :: ps => ok d p && askAll ok (d ++ [p]) ps
theorem askAll_snoc (ok : List Nat → Nat → Bool) (p : Nat) : ∀ (ps d : List Nat), askAll ok d (ps ++ [p]) = (askAll ok d ps && ok (d ++ ps) p)
  | [], d => by simp [askAll]
  | q :: ps, d => by
    show (ok d q && askAll ok (d ++ [q]) (ps ++ [p])) = (ok d q && askAll ok (d ++ [q]) ps && _)
    rw [askAll_snoc ok p ps (d ++ [q]), Bool.and_assoc, List.append_assoc]; rfl
theorem askAll_prefix (ok : List Nat → Nat → Bool) (b : List Nat) : ∀ (a d : List Nat), askAll ok d a = false → askAll ok d (a ++ b) = false
  | [], d, h => by cases h
  | p :: a, d, h => by
    show (ok d p && askAll ok (d ++ [p]) (a ++ b)) = false
    rw [Bool.and_eq_false_iff]
    rcases Bool.and_eq_false_iff.1 (show (ok d p && askAll ok (d ++ [p]) a) = false from h) with h1 | h1
    · exact Or.inl h1
    · exact Or.inr (askAll_prefix ok b a _ h1)
theorem okAll_ask (x : List Int) (drop : Bool) : ∀ (ps d : List Nat), okAll x drop d ps = askAll (okOne x drop) d ps
  | [], d => rfl
  | p :: ps, d => by
    show (okOne x drop d p && okAll x drop (d ++ [p]) ps) = (okOne x drop d p && askAll (okOne x drop) (d ++ [p]) ps)
    rw [okAll_ask x drop ps]

/-- One page behind the other gets its number. -/
def putAll (x : List Int) (id : Int) (drop : Bool) (ps : List Nat) (o : Option (List Int)) : Option (List Int) := ps.foldl (fun o p => o.bind fun y => putPage x id drop y p) o
theorem putAll_none (x : List Int) (id : Int) (drop : Bool) : ∀ ps, putAll x id drop ps none = none
  | [] => rfl
  | _ :: ps => putAll_none x id drop ps
theorem putAll_append (x : List Int) (id : Int) (drop : Bool) (a b : List Nat) (o : Option (List Int)) : putAll x id drop (a ++ b) o = putAll x id drop b (putAll x id drop a o) := by
  unfold putAll; rw [List.foldl_append]
theorem putPages_all (x : List Int) (id : Int) (drop : Bool) (s : Nat) (out : List Int) : ∀ k, putPages x id drop s k out = putAll x id drop ((List.range k).map (s + ·)) (some out)
  | 0 => rfl
  | k + 1 => by
    rw [List.range_succ, List.map_append, putAll_append, ← putPages_all x id drop s out k]; rfl
theorem putRuns_all (x : List Int) (id : Int) (drop : Bool) (rs : List (Int × Int)) : putRuns x id drop rs = putAll x id drop (pgs rs) (some x) := by
  unfold putRuns
  suffices h : ∀ (rs : List (Int × Int)) (o : Option (List Int)), rs.foldl (fun o r => o.bind (putPages x id drop r.1.toNat r.2.toNat)) o = putAll x id drop (pgs rs) o from h rs _
  intro rs
  induction rs with
  | nil => intro o; rfl
  | cons r rs ih =>
    intro o
    rw [List.foldl_cons, ih]
    show _ = putAll x id drop ((List.range r.2.toNat).map (r.1.toNat + ·) ++ pgs rs) o
    rw [putAll_append]
    congr 1
    cases o with
    | none => rw [putAll_none]; rfl
    | some y => exact putPages_all x id drop r.1.toNat y r.2.toNat
theorem putPage_ok (x : List Int) (id : Int) (drop : Bool) (hid : drop = false → 1 ≤ id) (d : List Nat) (p : Nat) (hd : ∀ q ∈ d, q < x.length) (v : Int) (hv : v = if drop then 0 else id) :
    putPage x id drop (writeAll x v d) p = if okOne x drop d p then some (writeAll x v (d ++ [p])) else none := by
  unfold putPage okOne
  rw [writeAll_snoc, writeAll_at x v p d hd, hv]
  cases drop with
  | true => simp
  | false =>
    have := hid rfl
    simp
    by_cases hc : p ∈ d
    · simp [hc]; omega
    · by_cases h : x.getD p 0 = 0 <;> simp_all
theorem putAll_ok (x : List Int) (id : Int) (drop : Bool) (hid : drop = false → 1 ≤ id) (v : Int) (hv : v = if drop then 0 else id) : ∀ (ps d : List Nat), (∀ q ∈ d, q < x.length) → (∀ q ∈ ps, q < x.length) →
    putAll x id drop ps (some (writeAll x v d)) = if okAll x drop d ps then some (writeAll x v (d ++ ps)) else none
  | [], d, _, _ => by simp [okAll, putAll]
  | p :: ps, d, h1, h2 => by
    show putAll x id drop ps ((some (writeAll x v d)).bind fun y => putPage x id drop y p) = _
    show putAll x id drop ps (putPage x id drop (writeAll x v d) p) = if (okOne x drop d p && okAll x drop (d ++ [p]) ps) = true then _ else none
    rw [putPage_ok x id drop hid d p h1 v hv]
    by_cases c : okOne x drop d p = true
    · rw [if_pos c, putAll_ok x id drop hid v hv ps (d ++ [p]) (fun q hq => by rcases List.mem_append.1 hq with h | h; exact h1 q h; exact h2 q (by rw [List.mem_singleton.1 h]; simp)) (fun q hq => h2 q (by simp [hq])), c, Bool.true_and, List.append_assoc]; rfl
    · rw [if_neg c, putAll_none]
      rw [show okOne x drop d p = false by simpa using c]; rfl

theorem pgs_snoc (rs : List (Int × Int)) (r : Int × Int) : pgs (rs ++ [r]) = pgs rs ++ (List.range r.2.toNat).map (r.1.toNat + ·) := by
  unfold pgs; rw [List.flatMap_append]; simp
theorem pgs_append (a b : List (Int × Int)) : pgs (a ++ b) = pgs a ++ pgs b := by unfold pgs; rw [List.flatMap_append]
theorem pgs_lt (n : Nat) (rs : List (Int × Int)) (h : rs.all (xThere n) = true) : ∀ p ∈ pgs rs, p < n := by
  intro p hp
  obtain ⟨r, hr, hq⟩ := List.mem_flatMap.1 hp
  obtain ⟨k, hk, rfl⟩ := List.mem_map.1 hq
  have := of_decide_eq_true (List.all_eq_true.1 h r hr)
  have := List.mem_range.1 hk
  omega
/-- What Put answers where all pages are there. -/
theorem xPut_there (x : List Int) (id : Int) (rs : List (Int × Int)) (drop : Bool) (hid : drop = false → 1 ≤ id) (h : rs.all (xThere x.length) = true) :
    xPut x id rs drop = if okAll x drop [] (pgs rs) then (writeAll x (if drop then 0 else id) (pgs rs), 0) else (x, 9) := by
  unfold xPut
  rw [if_neg (by cases drop with
    | true => simp
    | false => have := hid rfl; simp; omega), if_pos h, putRuns_all]
  have := putAll_ok x id drop hid _ rfl (pgs rs) [] (fun q hq => by cases hq) (pgs_lt _ rs h)
  rw [List.nil_append] at this
  rw [show (some x : Option (List Int)) = some (writeAll x (if drop then 0 else id) []) from rfl, this]
  split <;> rfl
theorem xPut_gone (x : List Int) (id : Int) (rs : List (Int × Int)) (drop : Bool) (hid : drop = false → 1 ≤ id) (h : rs.all (xThere x.length) = false) : xPut x id rs drop = (x, 2) := by
  unfold xPut
  rw [if_neg (by cases drop with
    | true => simp
    | false => have := hid rfl; simp; omega), h]; rfl
theorem xPut_less (x : List Int) (id : Int) (rs : List (Int × Int)) (h : id < 1) : xPut x id rs false = (x, 1) := by
  unfold xPut; rw [if_pos (by simpa using h)]
theorem xPut_length (x : List Int) (id : Int) (rs : List (Int × Int)) (drop : Bool) : (xPut x id rs drop).1.length = x.length := by
  by_cases hid : drop = false → 1 ≤ id
  · cases h : rs.all (xThere x.length) with
    | true => rw [xPut_there x id rs drop hid h]; split; exact writeAll_length _ _ _; rfl
    | false => rw [xPut_gone x id rs drop hid h]
  · obtain ⟨rfl, h⟩ : drop = false ∧ ¬ 1 ≤ id := by cases drop with
      | true => exact absurd (fun h => by cases h) hid
      | false => exact ⟨rfl, fun h => hid fun _ => h⟩
    rw [xPut_less x id rs (by omega)]

/-- Runs that grow page by page: those of the pages below p; the last one may still grow. -/
def RunsUp (x : List Int) (id : Int) (l : List (Int × Int)) (p : Nat) : Prop :=
  (l ++ runsFrom x id p = xRuns x id ∧ ∀ r ∈ l, 0 ≤ r.1 ∧ 0 ≤ r.2 ∧ r.1 + r.2 < p) ∨
  ∃ (d : List (Int × Int)) (s m : Nat), 0 < m ∧ m ≤ runLen x id s ∧ s + m = p ∧ l = d ++ [((s : Int), (m : Int))] ∧ d ++ ((s : Int), (runLen x id s : Int)) :: runsFrom x id (s + runLen x id s + 1) = xRuns x id ∧ ∀ r ∈ d, 0 ≤ r.1 ∧ 0 ≤ r.2 ∧ r.1 + r.2 < s
theorem runsUp_zero (x : List Int) (id : Int) : RunsUp x id [] 0 := Or.inl ⟨rfl, fun r hr => by cases hr⟩
theorem runLen_zero (x : List Int) (id : Int) (p : Nat) (y : Int) (hy : x[p]? = some y) : 0 < runLen x id p ↔ y = id := runLen_more x id p 0 y (Nat.zero_le _) hy
/-- A page with another number. -/
theorem runsUp_other {x : List Int} {id : Int} {l : List (Int × Int)} {p : Nat} {y : Int} (h : RunsUp x id l p) (hy : x[p]? = some y) (hne : y ≠ id) : RunsUp x id l (p + 1) := by
  have hp : p < x.length := (List.getElem?_eq_some_iff.1 hy).1
  left
  rcases h with ⟨h1, h2⟩ | ⟨d, s, m, h1, h2, h3, rfl, h5, h6⟩
  · have h0 : runLen x id p = 0 := by
      refine Nat.eq_zero_of_not_pos fun c => hne ((runLen_zero x id p y hy).1 c)
    rw [runsFrom_none x id p hp h0] at h1
    exact ⟨h1, fun r hr => by have := h2 r hr; omega⟩
  · have hm : m = runLen x id s := by
      refine Nat.le_antisymm h2 (Nat.not_lt.1 fun c => hne ?_)
      exact (runLen_more x id s m y h2 (by rw [h3]; exact hy)).1 c
    refine ⟨?_, ?_⟩
    · rw [← h5, ← hm, List.append_assoc, h3]; rfl
    · intro r hr
      rcases List.mem_append.1 hr with hr | hr
      · have := h6 r hr; omega
      · rw [List.mem_singleton.1 hr]; show 0 ≤ (s : Int) ∧ 0 ≤ (m : Int) ∧ (s : Int) + (m : Int) < _; omega
/-- A page with the number: the last run grows, or a new one begins. -/
theorem runsUp_same {x : List Int} {id : Int} {l : List (Int × Int)} {p : Nat} (h : RunsUp x id l p) (hy : x[p]? = some id) :
    (∃ (d : List (Int × Int)) (s m : Nat), l = d ++ [((s : Int), (m : Int))] ∧ s + m = p ∧ RunsUp x id (d ++ [((s : Int), ((m + 1 : Nat) : Int))]) (p + 1)) ∨
    ((l = [] ∨ ∃ (d : List (Int × Int)) (r : Int × Int), l = d ++ [r] ∧ 0 ≤ r.1 ∧ 0 ≤ r.2 ∧ r.1 + r.2 < p) ∧ RunsUp x id (l ++ [((p : Int), 1)]) (p + 1)) := by
  have hp : p < x.length := (List.getElem?_eq_some_iff.1 hy).1
  rcases h with ⟨h1, h2⟩ | ⟨d, s, m, h1, h2, h3, rfl, h5, h6⟩
  · right
    have h0 := (runLen_zero x id p id hy).2 rfl
    refine ⟨?_, Or.inr ⟨l, p, 1, by omega, h0, rfl, rfl, ?_, h2⟩⟩
    · rcases List.eq_nil_or_concat l with rfl | ⟨d, r, rfl⟩
      · exact Or.inl rfl
      · exact Or.inr ⟨d, r, by simp, h2 r (by simp)⟩
    · rw [← h1, runsFrom_some x id p hp h0]
  · left
    exact ⟨d, s, m, rfl, h3, Or.inr ⟨d, s, m + 1, by omega, (runLen_more x id s m id h2 (by rw [h3]; exact hy)).2 rfl, by omega, rfl, h5, h6⟩⟩
theorem runsUp_end {x : List Int} {id : Int} {l : List (Int × Int)} {p : Nat} (h : RunsUp x id l p) (hp : x.length ≤ p) : l = xRuns x id := by
  rcases h with ⟨h1, h2⟩ | ⟨d, s, m, h1, h2, h3, rfl, h5, h6⟩
  · rw [runsFrom_end x id p hp, List.append_nil] at h1; exact h1
  · have hm := runLen_end x id s m h2 (by omega)
    rw [← hm, runsFrom_end x id _ (by omega)] at h5
    exact h5

end Go.Proofs.Ytbihliaeidpfaaa
