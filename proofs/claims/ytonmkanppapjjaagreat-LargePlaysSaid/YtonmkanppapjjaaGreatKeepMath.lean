/- Plain facts: the steps of the document's own keeper come to what the keeper's plain functions say. No program is named here. -/
import Derived.Test.YtonmkanppapjjaaGreatLargeMath
namespace Go.Proofs.YtonmkanppapjjaaGreat
set_option linter.unusedVariables false

theorem lOf_none {l : List Spn} {n : Int} (h : ∀ (j : Nat) (y : Spn), l[j]? = some y → (y.2.2.1 == n) = false) : lOf l n = [] := by
  unfold lOf
  refine List.filter_eq_nil_iff.2 fun y hy => ?_
  obtain ⟨j, hj⟩ := List.getElem?_of_mem hy
  rw [h j y hj]
  decide
theorem lOf_last {l : List Spn} {n : Int} {i : Nat} {s : Spn} (hi : l[i]? = some s) (hs : (s.2.2.1 == n) = true) (ha : ∀ (j : Nat), i < j → ∀ y : Spn, l[j]? = some y → (y.2.2.1 == n) = false) : (lOf l n).getLast? = some s := by
  have hlt := (List.getElem?_eq_some_iff.1 hi).1
  have e : l = l.take i ++ s :: l.drop (i + 1) := by
    have h1 : l[i] = s := (List.getElem?_eq_some_iff.1 hi).2
    rw [← h1, List.getElem_cons_drop, List.take_append_drop]
  have h2 : lOf (l.drop (i + 1)) n = [] := lOf_none fun j y hj => ha (i + 1 + j) (by omega) y (by rw [List.getElem?_drop] at hj; exact hj)
  rw [e]
  unfold lOf at h2 ⊢
  rw [List.filter_append, List.filter_cons, if_pos hs, h2]
  simp
theorem erase_is {l : List Spn} : ∀ {i : Nat} {s : Spn}, l.Nodup → l[i]? = some s → l.eraseIdx i = l.filter fun x => !decide (x = s) := by
  induction l with
  | nil => intro i s _ h; simp at h
  | cons x l ih =>
    intro i s hd hi
    have hd2 := List.nodup_cons.1 hd
    match i, hi with
    | 0, hi =>
      obtain rfl : x = s := by simpa using hi
      rw [List.eraseIdx_cons_zero, List.filter_cons, if_neg (by simp)]
      refine (List.filter_eq_self.2 fun y hy => ?_).symm
      have : ¬ y = x := fun e => hd2.1 (e ▸ hy)
      simp [this]
    | i + 1, hi =>
      have hi2 : l[i]? = some s := by simpa using hi
      have hm := List.mem_of_getElem? hi2
      have hne : ¬ x = s := fun e => hd2.1 (e ▸ hm)
      rw [List.eraseIdx_cons_succ, List.filter_cons, if_pos (by simp [hne]), ih hd2.2 hi2]
theorem lTake_no {v : LargeV} {n : Int} (h : lFits n = false) : lTake v n = (v, spanNone, 1) := by unfold lTake; rw [if_pos h]
theorem lTake_new {v : LargeV} {n : Int} (h : lFits n = true) (hl : lOf v.kept n = []) : lTake v n = ({ v with h := (hMake v.h n (-1)).1 }, (hMake v.h n (-1)).2.1, (hMake v.h n (-1)).2.2) := by
  unfold lTake; rw [if_neg (by rw [h]; decide), hl]; rfl
theorem lTake_at {v : LargeV} (o : LOk v) {n : Int} {i : Nat} {s : Spn} (h : lFits n = true) (hi : v.kept[i]? = some s) (hs : (s.2.2.1 == n) = true) (ha : ∀ (j : Nat), i < j → ∀ y : Spn, v.kept[j]? = some y → (y.2.2.1 == n) = false) :
    lTake v n = ({ v with kept := v.kept.eraseIdx i }, s, 0) := by
  unfold lTake
  rw [if_neg (by rw [h]; decide), lOf_last hi hs ha, erase_is o.ndk hi]
/-- Behind j numbers: their spans. -/
structure AskedK (h : HeapV) (ids : List Int) (j : Nat) (d : List Spn) : Prop where
  ask : lAsk h ids [] = lAsk h (ids.drop j) d
  num : d.map (·.1) = ids.take j
  mem : ∀ s ∈ d, s ∈ h.l ∧ lBig s = true
theorem AskedK.zero (h : HeapV) (ids : List Int) : AskedK h ids 0 [] := ⟨rfl, rfl, fun s hs => by cases hs⟩
section
variable {h : HeapV} {ids : List Int} {j : Nat} {d : List Spn} {i : Int}
theorem drop_cons_at (hi : ids[j]? = some i) : ids.drop j = i :: ids.drop (j + 1) := by
  have hlt := (List.getElem?_eq_some_iff.1 hi).1
  have h1 : ids[j] = i := (List.getElem?_eq_some_iff.1 hi).2
  rw [← h1, List.getElem_cons_drop]
theorem AskedK.none_ (a : AskedK h ids j d) (hi : ids[j]? = some i) (hs : lStack h i = none) : lAsk h ids [] = none := by
  rw [a.ask, drop_cons_at hi]
  unfold lAsk
  rw [hs]
theorem AskedK.twice (a : AskedK h ids j d) (k : HOk h) (hi : ids[j]? = some i) {s : Spn} (hs : lStack h i = some s) (hm : i ∈ ids.take j) : lAsk h ids [] = none := by
  obtain ⟨s1, s2, s3⟩ := lStack_some k hs
  rw [← a.num] at hm
  obtain ⟨t, ht, e⟩ := List.mem_map.1 hm
  have : s ∈ d := by rw [k.inj s1 (a.mem t ht).1 (s2.trans e.symm)]; exact ht
  rw [a.ask, drop_cons_at hi]
  unfold lAsk
  rw [hs]
  simp only
  rw [if_pos this]
theorem AskedK.next (a : AskedK h ids j d) (k : HOk h) (hi : ids[j]? = some i) {s : Spn} (hs : lStack h i = some s) (hm : ¬ i ∈ ids.take j) : AskedK h ids (j + 1) (d ++ [s]) := by
  obtain ⟨s1, s2, s3⟩ := lStack_some k hs
  have hn : ¬ s ∈ d := fun c => hm (by rw [← a.num]; exact List.mem_map.2 ⟨s, c, s2⟩)
  refine ⟨?_, ?_, fun t ht => ?_⟩
  · rw [a.ask, drop_cons_at hi]
    show (match lStack h i with
      | none => none
      | some s => if s ∈ d then none else lAsk h (ids.drop (j + 1)) (d ++ [s])) = _
    rw [hs]
    simp only
    rw [if_neg hn]
  · rw [List.map_append, a.num, List.take_add_one, hi, ← s2]; rfl
  · rcases List.mem_append.1 ht with c | c
    · exact a.mem t c
    · obtain rfl := List.mem_singleton.1 c
      exact ⟨s1, s3⟩
theorem AskedK.done (a : AskedK h ids j d) (hj : ids.length ≤ j) : lAsk h ids [] = some d ∧ d.map (·.1) = ids := by
  refine ⟨?_, ?_⟩
  · rw [a.ask, List.drop_eq_nil_of_le hj]; rfl
  · rw [a.num, List.take_of_length_le hj]
end
theorem lGive_none {v : LargeV} {ids : List Int} (h : lAsk v.h ids [] = none) : lGive v ids = (v, 6) := by unfold lGive; rw [h]
/-- Of a span's place. -/
theorem find_span {h : HeapV} (k : HOk h) {s : Spn} (hs : s ∈ h.l) : ∃ i : Nat, hFind h.l s.1 = (i : Int) ∧ h.l[i]? = some s := by
  unfold hFind
  cases e : h.l.findIdx? (fun x => x.1 == s.1) with
  | none =>
    have := List.findIdx?_eq_none_iff.1 e s hs
    simp at this
  | some i =>
    obtain ⟨h1, h2, _⟩ := List.findIdx?_eq_some_iff_getElem.1 e
    refine ⟨i, rfl, ?_⟩
    rw [List.getElem?_eq_getElem h1, k.inj (List.getElem_mem h1) hs (by simpa using h2)]
theorem find_none {h : HeapV} {id : Int} (hn : ∀ s ∈ h.l, s.1 ≠ id) : hFind h.l id = -1 := by
  unfold hFind
  rw [List.findIdx?_eq_none_iff.2 fun s hs => by simpa using hn s hs]
  rfl
theorem stack_two {h : HeapV} (k : HOk h) (id : Int) : (hFind h.l id = -1 ∧ lStack h id = none) ∨ ∃ (i : Nat) (s : Spn), hFind h.l id = (i : Int) ∧ h.l[i]? = some s ∧ s.1 = id ∧ lStack h id = if lBig s then some s else none := by
  by_cases c : ∃ s ∈ h.l, s.1 = id
  · obtain ⟨s, hs, rfl⟩ := c
    obtain ⟨i, h1, h2⟩ := find_span k hs
    refine Or.inr ⟨i, s, h1, h2, rfl, ?_⟩
    by_cases hb : lBig s = true
    · rw [if_pos hb, lStack_of k hs hb]
    · rw [if_neg hb]
      cases e : lStack h s.1 with
      | none => rfl
      | some t =>
        obtain ⟨t1, t2, t3⟩ := lStack_some k e
        rw [k.inj t1 hs t2] at t3
        exact absurd t3 hb
  · have hn : ∀ s ∈ h.l, s.1 ≠ id := fun s hs e => c ⟨s, hs, e⟩
    refine Or.inl ⟨find_none hn, ?_⟩
    cases e : lStack h id with
    | none => rfl
    | some t =>
      obtain ⟨t1, t2, t3⟩ := lStack_some k e
      exact absurd t2 (hn t t1)
/-- By numbers: is a span in a row? -/
def hasId (l : List Spn) (id : Int) : Bool := l.any fun s => s.1 == id
theorem hasId_is {v : LargeV} (o : LOk v) {s : Spn} (hs : s ∈ v.h.l) {l : List Spn} (hl : ∀ t ∈ l, t ∈ v.h.l) : hasId l s.1 = decide (s ∈ l) := by
  unfold hasId
  by_cases c : s ∈ l
  · rw [decide_eq_true c, List.any_eq_true]
    exact ⟨s, c, by simp⟩
  · rw [decide_eq_false c, List.any_eq_false]
    intro t ht e
    have e2 : t.1 = s.1 := by simpa using e
    exact c (o.hok.inj (hl t ht) hs e2 ▸ ht)
theorem lGive_nine {v : LargeV} (o : LOk v) {ids : List Int} {d : List Spn} (ha : lAsk v.h ids [] = some d) (hd : d.map (·.1) = ids) (hm : ∀ s ∈ d, s ∈ v.h.l ∧ lBig s = true) {j : Nat} {i : Int} (hj : ids[j]? = some i) (h : hasId v.kept i = true ∨ hasId v.waits i = true) : lGive v ids = (v, 9) := by
  rw [← hd, List.getElem?_map] at hj
  obtain ⟨s, hs, rfl⟩ := Option.map_eq_some_iff.1 hj
  have hsm := List.mem_of_getElem? hs
  rw [hasId_is o (hm s hsm).1 fun t ht => (o.keptm t ht).1, hasId_is o (hm s hsm).1 fun t ht => (o.waitsm t ht).1] at h
  have : s ∈ v.kept ++ v.waits := by
    rcases h with h | h
    · exact List.mem_append_left _ (of_decide_eq_true h)
    · exact List.mem_append_right _ (of_decide_eq_true h)
  unfold lGive
  rw [ha]
  simp only
  rw [if_pos (List.any_eq_true.2 ⟨s, hsm, decide_eq_true this⟩)]
theorem lGive_all {v : LargeV} (o : LOk v) {ids : List Int} {d : List Spn} (ha : lAsk v.h ids [] = some d) (hd : d.map (·.1) = ids) (hm : ∀ s ∈ d, s ∈ v.h.l ∧ lBig s = true) (h : ∀ i ∈ ids, hasId v.kept i = false ∧ hasId v.waits i = false) : lGive v ids = (d.foldl lPut v, 0) ∧ d.Nodup ∧ ∀ s ∈ d, Out v s := by
  have hn : ∀ s ∈ d, s ∉ v.kept ++ v.waits := fun s hs c => by
    have h1 := h s.1 (by rw [← hd]; exact List.mem_map.2 ⟨s, hs, rfl⟩)
    rw [hasId_is o (hm s hs).1 fun t ht => (o.keptm t ht).1, hasId_is o (hm s hs).1 fun t ht => (o.waitsm t ht).1] at h1
    rcases List.mem_append.1 c with c | c
    · exact of_decide_eq_false h1.1 c
    · exact of_decide_eq_false h1.2 c
  refine ⟨?_, (lAsk_some o.hok ha List.nodup_nil (fun s hs => by cases hs)).1, fun s hs => ⟨(hm s hs).1, (hm s hs).2, hn s hs⟩⟩
  unfold lGive
  rw [ha]
  simp only
  rw [if_neg]
  intro c
  obtain ⟨s, hs, e⟩ := List.any_eq_true.1 c
  exact hn s hs (of_decide_eq_true e)

end Go.Proofs.YtonmkanppapjjaaGreat
