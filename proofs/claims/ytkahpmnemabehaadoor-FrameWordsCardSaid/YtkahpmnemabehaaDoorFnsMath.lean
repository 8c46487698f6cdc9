/- Plain facts on functions' frames (layer 13). No program is named here. -/
import Derived.Test.YtkahpmnemabehaaDoorBitSpecD
namespace Go.Proofs.YtkahpmnemabehaaDoor

theorem bBits_mem (ws : List Nat) (k : Nat) (i : Int) : i ∈ bBits ws k ↔ ∃ j : Nat, j < k ∧ i = (j : Int) ∧ bHas ws i = true := by
  unfold bBits
  constructor
  · intro h
    obtain ⟨j, hj, rfl⟩ := List.mem_map.1 h
    have := List.mem_filter.1 hj
    exact ⟨j, List.mem_range.1 this.1, rfl, this.2⟩
  · rintro ⟨j, hj, rfl, hh⟩
    exact List.mem_map.2 ⟨j, List.mem_filter.2 ⟨List.mem_range.2 hj, hh⟩, rfl⟩
theorem bBits_len_le (ws : List Nat) (k d : Nat) : (bBits ws k).length ≤ (bBits ws (k + d)).length := by
  induction d with
  | zero => exact Nat.le_refl _
  | succ d ih => rw [show k + (d + 1) = (k + d) + 1 by omega, bBits_succ, List.length_append]; omega
/-- As many bits are 1 of the first k as of k + d, if none of the others is. -/
theorem bBits_len_eq (ws : List Nat) (k d : Nat) : (bBits ws k).length = (bBits ws (k + d)).length ↔ ∀ i : Nat, k ≤ i → i < k + d → bHas ws (i : Int) = false := by
  induction d with
  | zero => exact ⟨fun _ i h1 h2 => by omega, fun _ => rfl⟩
  | succ d ih =>
    rw [show k + (d + 1) = (k + d) + 1 by omega, bBits_succ, List.length_append]
    have hle := bBits_len_le ws k d
    constructor
    · intro h i h1 h2
      cases hb : bHas ws ((k + d : Nat) : Int) with
      | true => rw [hb] at h; simp at h; omega
      | false =>
        rw [hb] at h
        by_cases e : i = k + d
        · subst e; exact hb
        · exact ih.1 (by simpa using h) i h1 (by omega)
    · intro h
      have hb := h (k + d) (by omega) (by omega)
      rw [hb, ih.2 (fun i h1 h2 => h i h1 (by omega))]
      simp

/-- Is no bit from s on 1? -/
def bIn (ws : List Nat) (s : Int) : Bool := (List.range (64 * ws.length)).all fun (i : Nat) => decide ((i : Int) < s) || !bHas ws (i : Int)
theorem bIn_true (ws : List Nat) (s : Int) (h : ∀ i : Nat, i < 64 * ws.length → s ≤ (i : Int) → bHas ws (i : Int) = false) : bIn ws s = true := by
  unfold bIn; rw [List.all_eq_true]
  intro i hi
  have hi := List.mem_range.1 hi
  by_cases hs : (i : Int) < s
  · rw [decide_eq_true hs]; rfl
  · rw [h i hi (by omega)]; simp
theorem bIn_of (ws : List Nat) (s : Int) (h : bIn ws s = true) (i : Nat) (hb : bHas ws (i : Int) = true) : (i : Int) < s := by
  unfold bIn at h; rw [List.all_eq_true] at h
  have hl := (bHas_lt _ _ hb).2
  have := h i (List.mem_range.2 (by omega))
  rw [hb] at this
  simpa using this
theorem bIn_false (ws : List Nat) (s : Int) (i : Nat) (hb : bHas ws (i : Int) = true) (hs : s ≤ (i : Int)) : bIn ws s = false := by
  cases h : bIn ws s with
  | false => rfl
  | true => have := bIn_of ws s h i hb; omega
theorem bIn_count (ws : List Nat) (s : Int) (h0 : 0 ≤ s) : (((bBits ws (64 * ws.length)).length : Int) == ((bBits ws (min s.toNat (64 * ws.length))).length : Int)) = bIn ws s := by
  have key := bBits_len_eq ws (min s.toNat (64 * ws.length)) (64 * ws.length - min s.toNat (64 * ws.length))
  rw [show min s.toNat (64 * ws.length) + (64 * ws.length - min s.toNat (64 * ws.length)) = 64 * ws.length by omega] at key
  rw [Bool.eq_iff_iff, beq_iff_eq]
  constructor
  · intro h
    refine bIn_true ws s fun i h1 h2 => key.1 (by omega) i (by omega) h1
  · intro h
    have := key.2 fun i h1 h2 => by
      cases hb : bHas ws (i : Int) with
      | false => rfl
      | true => have := bIn_of ws s h i hb; omega
    omega

/-- May a function be? -/
def fMay (s : Int) (ws : List Nat) : Bool := decide (0 ≤ s ∧ s ≤ 1000) && bIn ws s
theorem fMay_no (s : Int) (ws : List Nat) (h : ¬ (0 ≤ s ∧ s ≤ 1000)) : fMay s ws = false := by unfold fMay; rw [decide_eq_false h]; rfl
theorem fMay_in (s : Int) (ws : List Nat) (h : 0 ≤ s ∧ s ≤ 1000) : fMay s ws = bIn ws s := by unfold fMay; rw [decide_eq_true h]; rfl
theorem fMay_size {s : Int} {ws : List Nat} (h : fMay s ws = true) : 0 ≤ s ∧ s ≤ 1000 := by
  refine Decidable.byContradiction fun c => ?_
  rw [fMay_no s ws c] at h; cases h
theorem fMay_bits {s : Int} {ws : List Nat} (h : fMay s ws = true) : bIn ws s = true := by rw [← fMay_in s ws (fMay_size h)]; exact h
/-- A function's bitmap, as a table keeps it. -/
def fOwn (s : Int) (ws : List Nat) : List Nat := cOf (bBits ws (min s.toNat (64 * ws.length)))
theorem fOwn_wd (s : Int) (ws : List Nat) : Wd (fOwn s ws) := cOf_wd _
theorem fOwn_length (s : Int) (ws : List Nat) : (fOwn s ws).length ≤ 64 := cOf_length _
theorem fOwn_has {s : Int} {ws : List Nat} (h : fMay s ws = true) (i : Int) : bHas (fOwn s ws) i = bHas ws i := by
  unfold fOwn
  rw [cOf_has, Bool.eq_iff_iff, decide_eq_true_iff]
  have hs := fMay_size h
  constructor
  · rintro ⟨_, _, h3⟩
    obtain ⟨_, _, _, h4⟩ := (bBits_mem _ _ _).1 h3
    exact h4
  · intro hb
    obtain ⟨h0, h1⟩ := bHas_lt _ _ hb
    have hb' : bHas ws ((i.toNat : Nat) : Int) = true := by rw [Int.toNat_of_nonneg h0]; exact hb
    have h2 := bIn_of ws s (fMay_bits h) i.toNat hb'
    exact ⟨h0, by omega, (bBits_mem _ _ _).2 ⟨i.toNat, by omega, by omega, hb⟩⟩
theorem fOwn_same {s : Int} {ws : List Nat} (h : fMay s ws = true) (hw : Wd ws) : bSame (fOwn s ws) ws = true := bSame_ext _ _ (fOwn_wd s ws) hw fun i => fOwn_has h i
theorem fOwn_bits {s : Int} {ws : List Nat} (h : fMay s ws = true) (m : Nat) : bBits (fOwn s ws) (min m (64 * (fOwn s ws).length)) = bBits ws (min m (64 * ws.length)) :=
  bBits_ext _ _ _ _ fun i => by
    rw [fOwn_has h]
    constructor
    · rintro ⟨h1, h2⟩
      have := (bHas_lt _ _ h2).2
      exact ⟨by omega, h2⟩
    · rintro ⟨h1, h2⟩
      have h3 : bHas (fOwn s ws) (i : Int) = true := by rw [fOwn_has h]; exact h2
      have := (bHas_lt _ _ h3).2
      exact ⟨by omega, h2⟩
theorem fMay_own {s : Int} {ws : List Nat} (h : fMay s ws = true) : fMay s (fOwn s ws) = true := by
  rw [fMay_in _ _ (fMay_size h)]
  refine bIn_true _ _ fun i _ hs => ?_
  rw [fOwn_has h]
  cases hb : bHas ws (i : Int) with
  | false => rfl
  | true => have := bIn_of ws s (fMay_bits h) i hb; omega
theorem fOwn_twice {s : Int} {ws : List Nat} (h : fMay s ws = true) : fOwn s (fOwn s ws) = fOwn s ws := by
  show cOf (bBits (fOwn s ws) (min s.toNat (64 * (fOwn s ws).length))) = cOf (bBits ws (min s.toNat (64 * ws.length)))
  rw [fOwn_bits h]

/-- Functions: of how many slots, and their bitmaps. -/
abbrev Fns := List (Int × List Nat)
def fAll (l : Fns) : Bool := l.all fun f => fMay f.1 f.2
def fTab (l : Fns) : Bool := fAll l && decide (1 ≤ l.length ∧ l.length ≤ 100)
def fOwns (l : Fns) : Fns := l.map fun f => (f.1, fOwn f.1 f.2)
def fLeast (l : Fns) : Int := l.foldl (fun m f => if fMay f.1 f.2 then max m (f.1 + 2) else m) 0
def fGreat (l : Fns) : Bool := decide (120 < l.length) || l.any fun f => decide (40 < f.2.length)
def fSame (a b : Fns) : Bool := decide (a.length = b.length) && (List.range a.length).all fun i => decide ((a.getD i (0, [])).1 = (b.getD i (0, [])).1) && bSame (a.getD i (0, [])).2 (b.getD i (0, [])).2
def fSize (l : Fns) (f : Int) : Int := if f < 0 ∨ (l.length : Int) ≤ f then -1 else (l.getD f.toNat (0, [])).1
def fPtr (l : Fns) (f slot : Int) : Bool := if f < 0 ∨ (l.length : Int) ≤ f then false else bHas (l.getD f.toNat (0, [])).2 slot
def fPtrs (l : Fns) (f : Int) : List Int := if f < 0 ∨ (l.length : Int) ≤ f then [] else bBits (l.getD f.toNat (0, [])).2 (min (l.getD f.toNat (0, [])).1.toNat (64 * (l.getD f.toNat (0, [])).2.length))
theorem fOwns_length (l : Fns) : (fOwns l).length = l.length := by unfold fOwns; simp
theorem fOwns_at (l : Fns) (i : Nat) (f : Int × List Nat) (h : l[i]? = some f) : (fOwns l)[i]? = some (f.1, fOwn f.1 f.2) := by unfold fOwns; rw [List.getElem?_map, h]; rfl
theorem fAll_at {l : Fns} (h : fAll l = true) (i : Nat) (f : Int × List Nat) (hf : l[i]? = some f) : fMay f.1 f.2 = true := by
  unfold fAll at h; rw [List.all_eq_true] at h; exact h f (List.mem_of_getElem? hf)
theorem fAll_snoc (l : Fns) (f : Int × List Nat) : fAll (l ++ [f]) = (fAll l && fMay f.1 f.2) := by unfold fAll; simp
theorem fAll_bad {l : Fns} {i : Nat} {f : Int × List Nat} (hf : l[i]? = some f) (h : fMay f.1 f.2 = false) : fAll l = false := by
  unfold fAll; rw [List.all_eq_false]; exact ⟨f, List.mem_of_getElem? hf, by rw [h]; simp⟩
theorem fLeast_snoc (l : Fns) (f : Int × List Nat) : fLeast (l ++ [f]) = if fMay f.1 f.2 then max (fLeast l) (f.1 + 2) else fLeast l := by unfold fLeast; rw [List.foldl_append]; rfl
theorem fLeast_range (l : Fns) : 0 ≤ fLeast l ∧ fLeast l ≤ 1002 := by
  have : ∀ (l : Fns) (m : Int), 0 ≤ m ∧ m ≤ 1002 → 0 ≤ l.foldl (fun m f => if fMay f.1 f.2 then max m (f.1 + 2) else m) m ∧ l.foldl (fun m f => if fMay f.1 f.2 then max m (f.1 + 2) else m) m ≤ 1002 := by
    intro l
    induction l with
    | nil => intro m h; exact h
    | cons x l ih =>
      intro m h
      rw [List.foldl_cons]
      apply ih
      cases hx : fMay x.1 x.2 with
      | false => simpa using h
      | true =>
        have := fMay_size hx
        simp only [if_true]
        omega
  exact this l 0 (by omega)
theorem fSame_owns {l : Fns} (h : fAll l = true) (hw : ∀ f ∈ l, Wd f.2) : fSame (fOwns l) l = true := by
  unfold fSame
  rw [fOwns_length, decide_eq_true rfl, Bool.true_and, List.all_eq_true]
  intro i hi
  have hi := List.mem_range.1 hi
  obtain ⟨f, hf⟩ : ∃ f, l[i]? = some f := ⟨_, List.getElem?_eq_getElem hi⟩
  rw [getD_at _ _ _ _ hf, getD_at _ _ _ _ (fOwns_at l i f hf)]
  rw [decide_eq_true rfl, Bool.true_and]
  exact fOwn_same (fAll_at h i f hf) (hw f (List.mem_of_getElem? hf))
theorem fOwns_at' (l : Fns) (f : Int) (h : ¬ (f < 0 ∨ (l.length : Int) ≤ f)) : ∃ x, l[f.toNat]? = some x ∧ l.getD f.toNat (0, []) = x ∧ (fOwns l).getD f.toNat (0, []) = (x.1, fOwn x.1 x.2) := by
  obtain ⟨x, hx⟩ : ∃ x, l[f.toNat]? = some x := ⟨_, List.getElem?_eq_getElem (by omega)⟩
  exact ⟨x, hx, getD_at _ _ _ _ hx, getD_at _ _ _ _ (fOwns_at l _ x hx)⟩
theorem fSize_owns (l : Fns) (f : Int) : fSize (fOwns l) f = fSize l f := by
  unfold fSize
  rw [fOwns_length]
  split
  · rfl
  · next h => obtain ⟨x, _, h1, h2⟩ := fOwns_at' l f h; rw [h1, h2]
theorem fPtr_owns {l : Fns} (ha : fAll l = true) (f s : Int) : fPtr (fOwns l) f s = fPtr l f s := by
  unfold fPtr
  rw [fOwns_length]
  split
  · rfl
  · next h => obtain ⟨x, h0, h1, h2⟩ := fOwns_at' l f h; rw [h1, h2]; exact fOwn_has (fAll_at ha _ _ h0) s
theorem fPtrs_owns {l : Fns} (ha : fAll l = true) (f : Int) : fPtrs (fOwns l) f = fPtrs l f := by
  unfold fPtrs
  rw [fOwns_length]
  split
  · rfl
  · next h => obtain ⟨x, h0, h1, h2⟩ := fOwns_at' l f h; rw [h1, h2]; exact fOwn_bits (fAll_at ha _ _ h0) _

end Go.Proofs.YtkahpmnemabehaaDoor
