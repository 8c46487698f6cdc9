/- Plain facts on layer 8 (chain): chains that stand in words. No program is named here. -/
namespace Go.Proofs.Ytcngcibiibchiaa

/-- The rest of a chain's addresses, from h on, behind those in out; none: it isn't right. -/
def cGo (w : List Nat) (len : Int) : Nat → Int → List Int → Option (List Int)
  | 0, _, _ => none
  | k + 1, h, out =>
    if h = 0 then (if (out.length : Int) = len then some out else none)
    else if h < 0 ∨ (w.length : Int) < h ∨ (h - 1) ∈ out ∨ len ≤ (out.length : Int) then none
    else if w.length < w.getD (h - 1).toNat 0 then none
    else cGo w len k (w.getD (h - 1).toNat 0 : Nat) (out ++ [h - 1])
/-- A chain's addresses (its Head, its Len). -/
def cList (w : List Nat) (c : Int × Int) : Option (List Int) := cGo w c.2 (c.2.toNat + 1) c.1 []
/-- One block more, in front. -/
def cStep (s : List Nat × (Int × Int)) (a : Int) : List Nat × (Int × Int) := (s.1.set a.toNat s.2.1.toNat, (a + 1, s.2.2 + 1))
def cAll (s : List Nat × (Int × Int)) (at' : List Int) : List Nat × (Int × Int) := at'.foldl cStep s
def cIn (n : Nat) (at' : List Int) : Bool := at'.all fun a => decide (0 ≤ a ∧ a < (n : Int))
def cClash (l at' : List Int) : Bool := (List.range at'.length).any fun i => decide (at'.getD i 0 ∈ l ∨ at'.getD i 0 ∈ at'.take i)
def cPush (w : List Nat) (c : Int × Int) (at' : List Int) : List Nat × (Int × Int) × Int :=
  match cList w c with
  | none => (w, c, 9)
  | some l => if cIn w.length at' then (if cClash l at' then (w, c, 1) else ((cAll (w, c) at').1, (cAll (w, c) at').2, 0)) else (w, c, 2)
/-- The chain l, without a. -/
def cWithout (w : List Nat) (l : List Int) (a : Int) : List Nat × (Int × Int) := cAll (w.set a.toNat 0, (0, 0)) (l.reverse.filter (fun x => x != a))
def cRemove (w : List Nat) (c : Int × Int) (a : Int) : List Nat × (Int × Int) × Int :=
  match cList w c with
  | none => (w, c, 9)
  | some l => if a ∈ l then ((cWithout w l a).1, (cWithout w l a).2, 0) else (w, c, 6)
def cPop (w : List Nat) (c : Int × Int) : List Nat × (Int × Int) × Int × Int :=
  match cList w c with
  | none => (w, c, 0, 9)
  | some [] => (w, c, 0, 6)
  | some (a :: l) => ((cWithout w (a :: l) a).1, (cWithout w (a :: l) a).2, a, 0)

theorem cGo_zero (w : List Nat) (len : Int) (k : Nat) (out : List Int) : cGo w len (k + 1) 0 out = if (out.length : Int) = len then some out else none := by simp [cGo]
theorem cGo_bad (w : List Nat) (len : Int) (k : Nat) (h : Int) (out : List Int) (h0 : h ≠ 0) (h1 : h < 0 ∨ (w.length : Int) < h ∨ (h - 1) ∈ out ∨ len ≤ (out.length : Int)) : cGo w len (k + 1) h out = none := by
  unfold cGo; rw [if_neg h0, if_pos h1]
theorem cGo_far (w : List Nat) (len : Int) (k : Nat) (h : Int) (out : List Int) (x : Nat) (h0 : h ≠ 0) (hx : w[(h - 1).toNat]? = some x) (h2 : w.length < x) : cGo w len (k + 1) h out = none := by
  have e : w.getD (h - 1).toNat 0 = x := by rw [List.getD_eq_getElem?_getD, hx]; rfl
  unfold cGo
  rw [if_neg h0]
  split
  · rfl
  · rw [e, if_pos h2]
theorem cGo_next (w : List Nat) (len : Int) (k : Nat) (h : Int) (out : List Int) (x : Nat) (h0 : h ≠ 0) (h1 : ¬ (h < 0 ∨ (w.length : Int) < h ∨ (h - 1) ∈ out ∨ len ≤ (out.length : Int))) (hx : w[(h - 1).toNat]? = some x) (h2 : ¬ w.length < x) : cGo w len (k + 1) h out = cGo w len k (x : Int) (out ++ [h - 1]) := by
  have e : w.getD (h - 1).toNat 0 = x := by rw [List.getD_eq_getElem?_getD, hx]; rfl
  conv => lhs; unfold cGo
  rw [if_neg h0, if_neg h1, e, if_neg h2]

/-- Different numbers below n are at most n. -/
theorem nodup_le : ∀ (n : Nat) (l : List Int), l.Nodup → (∀ x ∈ l, 0 ≤ x ∧ x < (n : Int)) → l.length ≤ n
  | 0, l, _, h => by
    cases l with
    | nil => exact Nat.le_refl _
    | cons a l => have := h a (List.mem_cons_self ..); omega
  | n + 1, l, hd, h => by
    have h1 := nodup_le n (l.erase (n : Int)) (hd.erase _) (fun x hx => by
      have h2 := h x (List.mem_of_mem_erase hx)
      have h3 : x ≠ (n : Int) := fun e => by subst e; exact absurd hx (by rw [hd.mem_erase_iff]; simp)
      omega)
    rw [List.length_erase] at h1
    split at h1 <;> omega
/-- What a chain's addresses are: different ones, in so many words. -/
theorem cGo_some {w : List Nat} {len : Int} : ∀ {k : Nat} {h : Int} {out l : List Int}, out.Nodup → (∀ x ∈ out, 0 ≤ x ∧ x < (w.length : Int)) → cGo w len k h out = some l → l.Nodup ∧ (∀ x ∈ l, 0 ≤ x ∧ x < (w.length : Int)) ∧ (l.length : Int) = len
  | 0, h, out, l, _, _, e => by cases e
  | k + 1, h, out, l, hd, hb, e => by
    unfold cGo at e
    split at e
    · split at e
      · rename_i h1
        obtain rfl := Option.some.inj e
        exact ⟨hd, hb, h1⟩
      · cases e
    · split at e
      · cases e
      · split at e
        · cases e
        · rename_i h0 h1 _
          simp only [not_or] at h1
          refine cGo_some (List.nodup_append.2 ⟨hd, by simp, fun a ha b hb' => ?_⟩) (fun x hx => ?_) e
          · obtain rfl := List.mem_singleton.1 hb'
            exact fun e => h1.2.2.1 (e ▸ ha)
          · rcases List.mem_append.1 hx with hx | hx
            · exact hb x hx
            · obtain rfl := List.mem_singleton.1 hx
              omega
theorem cList_some {w : List Nat} {c : Int × Int} {l : List Int} (h : cList w c = some l) : l.Nodup ∧ (∀ x ∈ l, 0 ≤ x ∧ x < (w.length : Int)) ∧ (l.length : Int) = c.2 := cGo_some List.nodup_nil (fun x hx => by cases hx) h

theorem cStep_length (s : List Nat × (Int × Int)) (a : Int) : (cStep s a).1.length = s.1.length := List.length_set ..
theorem cAll_snoc (s : List Nat × (Int × Int)) (l : List Int) (a : Int) : cAll s (l ++ [a]) = cStep (cAll s l) a := by unfold cAll; rw [List.foldl_append]; rfl
theorem cAll_length : ∀ (l : List Int) (s : List Nat × (Int × Int)), (cAll s l).1.length = s.1.length
  | [], _ => rfl
  | a :: l, s => (cAll_length l (cStep s a)).trans (cStep_length s a)
theorem cAll_count : ∀ (l : List Int) (s : List Nat × (Int × Int)), (cAll s l).2.2 = s.2.2 + l.length
  | [], s => by simp [cAll]
  | a :: l, s => by
    have := cAll_count l (cStep s a)
    show (cAll (cStep s a) l).2.2 = _
    rw [this]; simp only [cStep, List.length_cons]; omega
theorem cAll_head (l : List Int) (s : List Nat × (Int × Int)) (n : Nat) (hs : 0 ≤ s.2.1 ∧ s.2.1 ≤ (n : Int)) (h : ∀ x ∈ l, 0 ≤ x ∧ x < (n : Int)) : 0 ≤ (cAll s l).2.1 ∧ (cAll s l).2.1 ≤ (n : Int) := by
  induction l generalizing s with
  | nil => exact hs
  | cons a l ih =>
    have ha := h a (List.mem_cons_self ..)
    exact ih (cStep s a) (by show 0 ≤ a + 1 ∧ a + 1 ≤ (n : Int); omega) (fun x hx => h x (List.mem_cons_of_mem _ hx))
theorem cList_head {w : List Nat} {c : Int × Int} {l : List Int} (h : cList w c = some l) : 0 ≤ c.1 ∧ c.1 ≤ (w.length : Int) := by
  unfold cList cGo at h
  split at h
  · omega
  · split at h
    · cases h
    · rename_i h1
      simp only [not_or] at h1
      omega

end Go.Proofs.Ytcngcibiibchiaa
