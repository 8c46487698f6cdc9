/- Several texts in one: FnsMath, FnsRows, FnsCode, FnsCode2, FnsNew, FnsTab, FnsFns, FnsRef, FnsLaws, FnsIs, FnsTells. -/
import Derived.Test.YtdcnpaodcjfdbaaGreatDoorBitSpecD
import Derived.Test.YtdcnpaodcjfdbaaGreatDoorRowWords
import Derived.Test.YtdcnpaodcjfdbaaGreatDoorBitCodeD
import Derived.Test.YtdcnpaodcjfdbaaGreatDoorTabDB
import Derived.Test.YtdcnpaodcjfdbaaGreatDoorAppendAt
import Derived.Test.YtdcnpaodcjfdbaaGreatDoorBitRefD
import Derived.Lib.MinMax
import Derived.Deep.RegionHeld3
import Derived.Deep.RegionLaw
import Derived.Deep.Cut
import Derived.Deep.CutRange
/- Plain facts on functions' frames (layer 13). No program is named here. -/
namespace Go.Proofs.YtdcnpaodcjfdbaaGreatDoor

theorem bBits_mem (ws : List Nat) (k : Nat) (i : Int) : i ∈ bBits ws k ↔ ∃ j : Nat, j < k ∧ i = (j : Int) ∧ bHas ws i = true := by
  unfold bBits
  constructor
  · intro h
    obtain ⟨j, hj, rfl⟩ := List.mem_map.1 h
    have := List.mem_filter.1 hj
    exact ⟨j, List.mem_range.1 this.1, rfl, this.2⟩
  · rintro ⟨j, hj, rfl, hh⟩
    exact List.mem_map.2 ⟨j, List.mem_filter.2 ⟨List.mem_range.2 hj, hh⟩, rfl⟩
theorem bBits_len_le (ws : List Nat) (k d : Nat) : (bBits ws k).length ≤ (bBits ws (k + d)).length := by
  induction d with
  | zero => exact Nat.le_refl _
  | succ d ih => rw [show k + (d + 1) = (k + d) + 1 by omega, bBits_succ, List.length_append]; omega
/-- As many bits are 1 of the first k as of k + d, if none of the others is. -/
theorem bBits_len_eq (ws : List Nat) (k d : Nat) : (bBits ws k).length = (bBits ws (k + d)).length ↔ ∀ i : Nat, k ≤ i → i < k + d → bHas ws (i : Int) = false := by
  induction d with
  | zero => exact ⟨fun _ i h1 h2 => by omega, fun _ => rfl⟩
  | succ d ih =>
    rw [show k + (d + 1) = (k + d) + 1 by omega, bBits_succ, List.length_append]
    have hle := bBits_len_le ws k d
    constructor
    · intro h i h1 h2
      cases hb : bHas ws ((k + d : Nat) : Int) with
      | true => rw [hb] at h; simp at h; omega
      | false =>
        rw [hb] at h
        by_cases e : i = k + d
        · subst e; exact hb
        · exact ih.1 (by simpa using h) i h1 (by omega)
    · intro h
      have hb := h (k + d) (by omega) (by omega)
      rw [hb, ih.2 (fun i h1 h2 => h i h1 (by omega))]
      simp

/-- Is no bit from s on 1? -/
def bIn (ws : List Nat) (s : Int) : Bool := (List.range (64 * ws.length)).all fun (i : Nat) => decide ((i : Int) < s) || !bHas ws (i : Int)
theorem bIn_true (ws : List Nat) (s : Int) (h : ∀ i : Nat, i < 64 * ws.length → s ≤ (i : Int) → bHas ws (i : Int) = false) : bIn ws s = true := by
  unfold bIn; rw [List.all_eq_true]
  intro i hi
  have hi := List.mem_range.1 hi
  by_cases hs : (i : Int) < s
  · rw [decide_eq_true hs]; rfl
  · rw [h i hi (by omega)]; simp
theorem bIn_of (ws : List Nat) (s : Int) (h : bIn ws s = true) (i : Nat) (hb : bHas ws (i : Int) = true) : (i : Int) < s := by
  unfold bIn at h; rw [List.all_eq_true] at h
  have hl := (bHas_lt _ _ hb).2
  have := h i (List.mem_range.2 (by omega))
  rw [hb] at this
  simpa using this
theorem bIn_false (ws : List Nat) (s : Int) (i : Nat) (hb : bHas ws (i : Int) = true) (hs : s ≤ (i : Int)) : bIn ws s = false := by
  cases h : bIn ws s with
  | false => rfl
  | true => have := bIn_of ws s h i hb; omega
theorem bIn_count (ws : List Nat) (s : Int) (h0 : 0 ≤ s) : (((bBits ws (64 * ws.length)).length : Int) == ((bBits ws (min s.toNat (64 * ws.length))).length : Int)) = bIn ws s := by
  have key := bBits_len_eq ws (min s.toNat (64 * ws.length)) (64 * ws.length - min s.toNat (64 * ws.length))
  rw [show min s.toNat (64 * ws.length) + (64 * ws.length - min s.toNat (64 * ws.length)) = 64 * ws.length by omega] at key
  rw [Bool.eq_iff_iff, beq_iff_eq]
  constructor
  · intro h
    refine bIn_true ws s fun i h1 h2 => key.1 (by omega) i (by omega) h1
  · intro h
    have := key.2 fun i h1 h2 => by
      cases hb : bHas ws (i : Int) with
      | false => rfl
      | true => have := bIn_of ws s h i hb; omega
    omega

/-- May a function be? -/
def fMay (s : Int) (ws : List Nat) : Bool := decide (0 ≤ s ∧ s ≤ 1000) && bIn ws s
theorem fMay_no (s : Int) (ws : List Nat) (h : ¬ (0 ≤ s ∧ s ≤ 1000)) : fMay s ws = false := by unfold fMay; rw [decide_eq_false h]; rfl
theorem fMay_in (s : Int) (ws : List Nat) (h : 0 ≤ s ∧ s ≤ 1000) : fMay s ws = bIn ws s := by unfold fMay; rw [decide_eq_true h]; rfl
theorem fMay_size {s : Int} {ws : List Nat} (h : fMay s ws = true) : 0 ≤ s ∧ s ≤ 1000 := by
  refine Decidable.byContradiction fun c => ?_
  rw [fMay_no s ws c] at h; cases h
theorem fMay_bits {s : Int} {ws : List Nat} (h : fMay s ws = true) : bIn ws s = true := by rw [← fMay_in s ws (fMay_size h)]; exact h
/-- A function's bitmap, as a table keeps it. -/
def fOwn (s : Int) (ws : List Nat) : List Nat := cOf (bBits ws (min s.toNat (64 * ws.length)))
theorem fOwn_wd (s : Int) (ws : List Nat) : Wd (fOwn s ws) := cOf_wd _
theorem fOwn_length (s : Int) (ws : List Nat) : (fOwn s ws).length ≤ 64 := cOf_length _
theorem fOwn_has {s : Int} {ws : List Nat} (h : fMay s ws = true) (i : Int) : bHas (fOwn s ws) i = bHas ws i := by
  unfold fOwn
  rw [cOf_has, Bool.eq_iff_iff, decide_eq_true_iff]
  have hs := fMay_size h
  constructor
  · rintro ⟨_, _, h3⟩
    obtain ⟨_, _, _, h4⟩ := (bBits_mem _ _ _).1 h3
    exact h4
  · intro hb
    obtain ⟨h0, h1⟩ := bHas_lt _ _ hb
    have hb' : bHas ws ((i.toNat : Nat) : Int) = true := by rw [Int.toNat_of_nonneg h0]; exact hb
    have h2 := bIn_of ws s (fMay_bits h) i.toNat hb'
    exact ⟨h0, by omega, (bBits_mem _ _ _).2 ⟨i.toNat, by omega, by omega, hb⟩⟩
theorem fOwn_same {s : Int} {ws : List Nat} (h : fMay s ws = true) (hw : Wd ws) : bSame (fOwn s ws) ws = true := bSame_ext _ _ (fOwn_wd s ws) hw fun i => fOwn_has h i
theorem fOwn_bits {s : Int} {ws : List Nat} (h : fMay s ws = true) (m : Nat) : bBits (fOwn s ws) (min m (64 * (fOwn s ws).length)) = bBits ws (min m (64 * ws.length)) :=
  bBits_ext _ _ _ _ fun i => by
    rw [fOwn_has h]
    constructor
    · rintro ⟨h1, h2⟩
      have := (bHas_lt _ _ h2).2
      exact ⟨by omega, h2⟩
    · rintro ⟨h1, h2⟩
      have h3 : bHas (fOwn s ws) (i : Int) = true := by rw [fOwn_has h]; exact h2
      have := (bHas_lt _ _ h3).2
      exact ⟨by omega, h2⟩
theorem fMay_own {s : Int} {ws : List Nat} (h : fMay s ws = true) : fMay s (fOwn s ws) = true := by
  rw [fMay_in _ _ (fMay_size h)]
  refine bIn_true _ _ fun i _ hs => ?_
  rw [fOwn_has h]
  cases hb : bHas ws (i : Int) with
  | false => rfl
  | true => have := bIn_of ws s (fMay_bits h) i hb; omega
theorem fOwn_twice {s : Int} {ws : List Nat} (h : fMay s ws = true) : fOwn s (fOwn s ws) = fOwn s ws := by
  show cOf (bBits (fOwn s ws) (min s.toNat (64 * (fOwn s ws).length))) = cOf (bBits ws (min s.toNat (64 * ws.length)))
  rw [fOwn_bits h]

/-- Functions: of how many slots, and their bitmaps. -/
abbrev Fns := List (Int × List Nat)
def fAll (l : Fns) : Bool := l.all fun f => fMay f.1 f.2
def fTab (l : Fns) : Bool := fAll l && decide (1 ≤ l.length ∧ l.length ≤ 100)
def fOwns (l : Fns) : Fns := l.map fun f => (f.1, fOwn f.1 f.2)
def fLeast (l : Fns) : Int := l.foldl (fun m f => if fMay f.1 f.2 then max m (f.1 + 2) else m) 0
def fGreat (l : Fns) : Bool := decide (120 < l.length) || l.any fun f => decide (40 < f.2.length)
def fSame (a b : Fns) : Bool := decide (a.length = b.length) && (List.range a.length).all fun i => decide ((a.getD i (0, [])).1 = (b.getD i (0, [])).1) && bSame (a.getD i (0, [])).2 (b.getD i (0, [])).2
def fSize (l : Fns) (f : Int) : Int := if f < 0 ∨ (l.length : Int) ≤ f then -1 else (l.getD f.toNat (0, [])).1
def fPtr (l : Fns) (f slot : Int) : Bool := if f < 0 ∨ (l.length : Int) ≤ f then false else bHas (l.getD f.toNat (0, [])).2 slot
def fPtrs (l : Fns) (f : Int) : List Int := if f < 0 ∨ (l.length : Int) ≤ f then [] else bBits (l.getD f.toNat (0, [])).2 (min (l.getD f.toNat (0, [])).1.toNat (64 * (l.getD f.toNat (0, [])).2.length))
theorem fOwns_length (l : Fns) : (fOwns l).length = l.length := by unfold fOwns; simp
theorem fOwns_at (l : Fns) (i : Nat) (f : Int × List Nat) (h : l[i]? = some f) : (fOwns l)[i]? = some (f.1, fOwn f.1 f.2) := by unfold fOwns; rw [List.getElem?_map, h]; rfl
theorem fAll_at {l : Fns} (h : fAll l = true) (i : Nat) (f : Int × List Nat) (hf : l[i]? = some f) : fMay f.1 f.2 = true := by
  unfold fAll at h; rw [List.all_eq_true] at h; exact h f (List.mem_of_getElem? hf)
theorem fAll_snoc (l : Fns) (f : Int × List Nat) : fAll (l ++ [f]) = (fAll l && fMay f.1 f.2) := by unfold fAll; simp
theorem fAll_bad {l : Fns} {i : Nat} {f : Int × List Nat} (hf : l[i]? = some f) (h : fMay f.1 f.2 = false) : fAll l = false := by
  unfold fAll; rw [List.all_eq_false]; exact ⟨f, List.mem_of_getElem? hf, by rw [h]; simp⟩
theorem fLeast_snoc (l : Fns) (f : Int × List Nat) : fLeast (l ++ [f]) = if fMay f.1 f.2 then max (fLeast l) (f.1 + 2) else fLeast l := by unfold fLeast; rw [List.foldl_append]; rfl
theorem fLeast_range (l : Fns) : 0 ≤ fLeast l ∧ fLeast l ≤ 1002 := by
  have : ∀ (l : Fns) (m : Int), 0 ≤ m ∧ m ≤ 1002 → 0 ≤ l.foldl (fun m f => if fMay f.1 f.2 then max m (f.1 + 2) else m) m ∧ l.foldl (fun m f => if fMay f.1 f.2 then max m (f.1 + 2) else m) m ≤ 1002 := by
    intro l
    induction l with
    | nil => intro m h; exact h
    | cons x l ih =>
      intro m h
      rw [List.foldl_cons]
      apply ih
      cases hx : fMay x.1 x.2 with
      | false => simpa using h
      | true =>
        have := fMay_size hx
        simp only [if_true]
        omega
  exact this l 0 (by omega)
theorem fSame_owns {l : Fns} (h : fAll l = true) (hw : ∀ f ∈ l, Wd f.2) : fSame (fOwns l) l = true := by
  unfold fSame
  rw [fOwns_length, decide_eq_true rfl, Bool.true_and, List.all_eq_true]
  intro i hi
  have hi := List.mem_range.1 hi
  obtain ⟨f, hf⟩ : ∃ f, l[i]? = some f := ⟨_, List.getElem?_eq_getElem hi⟩
  rw [getD_at _ _ _ _ hf, getD_at _ _ _ _ (fOwns_at l i f hf)]
  rw [decide_eq_true rfl, Bool.true_and]
  exact fOwn_same (fAll_at h i f hf) (hw f (List.mem_of_getElem? hf))
theorem fOwns_at' (l : Fns) (f : Int) (h : ¬ (f < 0 ∨ (l.length : Int) ≤ f)) : ∃ x, l[f.toNat]? = some x ∧ l.getD f.toNat (0, []) = x ∧ (fOwns l).getD f.toNat (0, []) = (x.1, fOwn x.1 x.2) := by
  obtain ⟨x, hx⟩ : ∃ x, l[f.toNat]? = some x := ⟨_, List.getElem?_eq_getElem (by omega)⟩
  exact ⟨x, hx, getD_at _ _ _ _ hx, getD_at _ _ _ _ (fOwns_at l _ x hx)⟩
theorem fSize_owns (l : Fns) (f : Int) : fSize (fOwns l) f = fSize l f := by
  unfold fSize
  rw [fOwns_length]
  split
  · rfl
  · next h => obtain ⟨x, _, h1, h2⟩ := fOwns_at' l f h; rw [h1, h2]
theorem fPtr_owns {l : Fns} (ha : fAll l = true) (f s : Int) : fPtr (fOwns l) f s = fPtr l f s := by
  unfold fPtr
  rw [fOwns_length]
  split
  · rfl
  · next h => obtain ⟨x, h0, h1, h2⟩ := fOwns_at' l f h; rw [h1, h2]; exact fOwn_has (fAll_at ha _ _ h0) s
theorem fPtrs_owns {l : Fns} (ha : fAll l = true) (f : Int) : fPtrs (fOwns l) f = fPtrs l f := by
  unfold fPtrs
  rw [fOwns_length]
  split
  · rfl
  · next h => obtain ⟨x, h0, h1, h2⟩ := fOwns_at' l f h; rw [h1, h2]; exact fOwn_bits (fAll_at ha _ _ h0) _

end Go.Proofs.YtdcnpaodcjfdbaaGreatDoor

/- Rows of functions (a size and a bitmap each), as they came in, and as a call makes them. -/
namespace Go.Proofs.YtdcnpaodcjfdbaaGreatDoor
open Go.RowKit Go.ChangeShapes Go.WideShapes
set_option linter.unusedVariables false

/-- A function, and where its bitmap lies. -/
structure FnV where
  sz : Int
  A : Option Addr
  n : Nat
  c : Nat
  ws : List Nat
def FnV.v (y : FnV) : Int × List Nat := (y.sz, y.ws)
def fcells (y : FnV) : List Value := [.int .i64 y.sz, .slice y.A y.n y.c]
theorem fcells_len (y : FnV) : (fcells y).length = 2 := rfl
theorem fcells_one (ys : List FnV) : ∀ u ∈ cellsAll fcells ys, u.oneCell' = true := fun u hu => by
  obtain ⟨y, _, h⟩ := List.mem_flatMap.1 hu
  unfold fcells at h
  rcases List.mem_cons.1 h with rfl | h
  · rfl
  · obtain rfl := List.mem_singleton.1 h; rfl
/-- Its bitmap lies in a block from lo on, below hi. -/
structure FvOk (w : World) (lo hi : Nat) (y : FnV) : Prop where
  sl : Sl w hi y.A y.n (y.ws.map wv)
  low : 0 < y.n → ∀ a, y.A = some a → lo ≤ a.block
  nc : y.n ≤ y.c
  cm : y.c ≤ 9223372036854775807
  na : y.A = none → y.c = 0
  wd : Wd y.ws
  inn : in64 y.sz
section
variable {w w' : World} {lo hi lo' hi' : Nat} {y : FnV}
theorem FvOk.len (h : FvOk w lo hi y) : y.ws.length = y.n := by have := h.sl.1; simpa using this
theorem FvOk.keep (h : FvOk w lo hi y) (hk : ∀ b, lo ≤ b → b < hi → w'.heap[b]? = w.heap[b]?) : FvOk w' lo hi y :=
  ⟨⟨h.sl.1, fun hn => by
    obtain ⟨b, off, e, hb, hc⟩ := h.sl.2 hn
    refine ⟨b, off, e, hb, fun j hj => ?_⟩
    rw [← hc j hj]
    exact World.cell?_of_block (hk b (h.low hn _ e) hb)⟩, h.low, h.nc, h.cm, h.na, h.wd, h.inn⟩
theorem FvOk.below (h : FvOk w lo hi y) (hb : Below hi w w') : FvOk w' lo hi y := h.keep fun b _ hl => hb.block b hl
theorem FvOk.more (h : FvOk w lo hi y) (hl : lo' ≤ lo) (hh : hi ≤ hi') : FvOk w lo' hi' y := ⟨h.sl.more hh, fun hn a e => Nat.le_trans hl (h.low hn a e), h.nc, h.cm, h.na, h.wd, h.inn⟩
theorem FvOk.drewN (h : FvOk w lo hi y) (q : Nat) : FvOk (w.drewN q) lo hi y := h.keep fun _ _ _ => rfl
theorem FvOk.small (h : FvOk w lo hi y) : y.n ≤ 9223372036854775807 := Nat.le_trans h.nc h.cm
end
/-- The slice value '.slice A n c' has these functions. -/
structure FnRow (w : World) (lo hi : Nat) (A : Option Addr) (n : Nat) (ys : List FnV) : Prop where
  row : RowOf (fun cs y => cs = fcells y) 2 w hi A n ys
  low : 0 < n → ∀ a, A = some a → lo ≤ a.block
  fns : ∀ y ∈ ys, FvOk w lo hi y
def vals (ys : List FnV) : Fns := ys.map FnV.v
theorem vals_length (ys : List FnV) : (vals ys).length = ys.length := by unfold vals; simp
theorem vals_at {ys : List FnV} {j : Nat} {y : FnV} (h : ys[j]? = some y) : (vals ys)[j]? = some (y.sz, y.ws) := by unfold vals; rw [List.getElem?_map, h]; rfl
section
variable {w w' : World} {lo hi lo' hi' n : Nat} {A : Option Addr} {ys : List FnV}
theorem FnRow.len (h : FnRow w lo hi A n ys) : ys.length = n := h.row.1
theorem FnRow.at_ (h : FnRow w lo hi A n ys) {j : Nat} (hj : j < n) : ∃ b off y, A = some ⟨b, off, none⟩ ∧ b < hi ∧ ys[j]? = some y ∧ w.cell? ⟨b, off + j * 2, none⟩ = some (.int .i64 y.sz) ∧ w.cell? ⟨b, off + j * 2 + 1, none⟩ = some (.slice y.A y.n y.c) ∧ FvOk w lo hi y := by
  obtain ⟨b, off, y, cs, e, hb, hy, _, hc, rfl⟩ := RowOf.at_ h.row hj
  exact ⟨b, off, y, e, hb, hy, hc 0 (by omega), hc 1 (by omega), h.fns y (List.mem_of_getElem? hy)⟩
theorem FnRow.keep (h : FnRow w lo hi A n ys) (hk : ∀ b, lo ≤ b → b < hi → w'.heap[b]? = w.heap[b]?) : FnRow w' lo hi A n ys :=
  ⟨⟨h.row.1, fun hn => by
    obtain ⟨b, off, e, hb, hc⟩ := h.row.2 hn
    refine ⟨b, off, e, hb, fun j y hj => ?_⟩
    obtain ⟨cs, c1, c2, c3⟩ := hc j y hj
    exact ⟨cs, c1, fun k hk2 => (World.cell?_of_block (hk b (h.low hn _ e) hb)).trans (c2 k hk2), c3⟩⟩, h.low, fun y hy => (h.fns y hy).keep hk⟩
theorem FnRow.below (h : FnRow w lo hi A n ys) (hb : Below hi w w') : FnRow w' lo hi A n ys := h.keep fun b _ hl => hb.block b hl
theorem FnRow.more (h : FnRow w lo hi A n ys) (hl : lo' ≤ lo) (hh : hi ≤ hi') : FnRow w lo' hi' A n ys := ⟨RowOf.more h.row hh, fun hn a e => Nat.le_trans hl (h.low hn a e), fun y hy => (h.fns y hy).more hl hh⟩
theorem FnRow.drewN (h : FnRow w lo hi A n ys) (q : Nat) : FnRow (w.drewN q) lo hi A n ys := h.keep fun _ _ _ => rfl
theorem FnRow.wds (h : FnRow w lo hi A n ys) : ∀ f ∈ vals ys, Wd f.2 := fun f hf => by
  obtain ⟨y, hy, rfl⟩ := List.mem_map.1 hf
  exact (h.fns y hy).wd
theorem FnRow.nil_ : FnRow w lo hi A 0 [] := ⟨RowOf.nil_, fun h => absurd h (by omega), fun y hy => by cases hy⟩
end

/-- Read out of what came in. -/
theorem fr_cells : Tryz.prog.cellsOf 53 = 2 := by kernel_rfl
theorem fr_int : Tryz.prog.cellsOf 3 = 1 := by kernel_rfl
theorem fr_words : Tryz.prog.cellsOf 51 = 1 := by kernel_rfl
theorem fr_u64 : Tryz.prog.cellsOf 32 = 1 := by kernel_rfl
section
variable {H : Type} {enc : TypeId × Value → H} {P : Program} {W : World} {sp : Nat → Bool} {hd : Bool}
theorem read_intsC {t e : TypeId} {k : IntKind} {fuel : Nat} {cs : List Value} {x : DataW H × List MemPlace} (ht : P.underlying t = some (.slice e)) (he : P.underlying e = some (.int k)) (hc : P.cellsOf e = 1)
    (h : DataW.trod enc P W 0 sp hd fuel t cs = some x) :
    ∃ (A : Option Addr) (len cap : Nat) (zs : List Int), cs = [.slice A len cap] ∧ len ≤ cap ∧ cap ≤ maxLen ∧ (A = none → cap = 0) ∧ Sl W W.heap.size A len (zs.map (Value.int k)) ∧ ∀ z ∈ zs, (Lit.int k z).wf = true := by
  rcases open_ints ht he hc h with ⟨rfl, _⟩ | ⟨a, len, cap, zs, rfl, _, hl, hm, hz, _, hcell, hwf⟩
  · exact ⟨none, 0, 0, [], rfl, Nat.le_refl _, Nat.zero_le _, fun _ => rfl, Sl.nil_, fun z hz => by cases hz⟩
  · have hln : len ≤ zs.length := by rw [hz]; split <;> omega
    refine ⟨some a, len, cap, zs.take len, rfl, hl, hm, fun e => (by cases e), ?_, fun z hz' => hwf z (List.mem_of_mem_take hz')⟩
    refine ⟨by rw [List.length_map, List.length_take]; omega, fun hn => ?_⟩
    obtain ⟨b, off, spot⟩ := a
    have h0 := hcell 0 (by omega)
    have hspot : spot = none := by simpa [Addr.add] using World.cell?_spot h0
    subst hspot
    refine ⟨b, off, rfl, World.block_lt_of_cell? _ _ h0, fun j hj => ?_⟩
    rw [← Go.WideShapes.add_plain, hcell j (by omega)]
    rw [List.getElem?_map, List.getElem?_take_of_lt hj, List.getElem?_eq_getElem (by omega), List.getD_eq_getElem?_getD, List.getElem?_eq_getElem (by omega)]
    rfl
def FnIs (W : World) (cs : List Value) (y : FnV) : Prop := cs = fcells y ∧ FvOk W 0 W.heap.size y
theorem read_fn (fuel : Nat) (cs : List Value) (x : DataW H × List MemPlace) (h : DataW.trod enc Tryz.prog W 0 sp hd fuel 53 cs = some x) : ∃ y, FnIs W cs y := by
  obtain ⟨hl, hf⟩ := read_field Tryz.underlying53 h
  rw [fr_cells] at hl
  obtain ⟨c0, n0, y0, g0, t0⟩ := hf 0 _ rfl fr_int (by rw [hl]; decide)
  obtain ⟨c1, n1, y1, g1, t1⟩ := hf 1 _ rfl fr_words (by rw [hl]; decide)
  obtain ⟨z0, e0, _, w0⟩ := DataW.trod_int Tryz.underlying3 t0
  obtain ⟨A, len, cap, zs, e1, hlc, hcm, hna, hsl, hwf⟩ := read_intsC Tryz.underlying51 Tryz.underlying32 fr_u64 t1
  simp only [List.cons.injEq, and_true] at e0 e1
  subst e0 e1
  obtain ⟨hwn, hw64⟩ := words_nat zs hwf
  unfold maxLen at hcm
  refine ⟨⟨z0, A, len, cap, zs.map Int.toNat⟩, ?_, ⟨by show Sl W _ A len ((zs.map Int.toNat).map wv); rw [hwn]; exact hsl, fun _ _ _ => Nat.zero_le _, hlc, by show cap ≤ _; omega, hna, hw64, wf_in64 w0⟩⟩
  unfold fcells
  match cs, hl with
  | [a0, a1], _ => simp_all
theorem read_fns {v : Value} {d : DataW H} {ps : List MemPlace} (h : DataW.Trod enc Tryz.prog W 0 sp hd 22 v d ps) :
    ∃ (A : Option Addr) (len cap : Nat) (ys : List FnV), v.cells.toList = [.slice A len cap] ∧ len ≤ maxLen ∧ FnRow W 0 W.heap.size A len ys := by
  obtain ⟨fuel, hf⟩ := h
  obtain ⟨A, len, cap, l, e, hm, hr⟩ := read_row (FnIs W) 2 Tryz.underlying22 fr_cells (by decide) (fun fuel cs x h => read_fn fuel cs x h) hf
  refine ⟨A, len, cap, l, e, hm, ⟨hr.1, fun hn => ?_⟩, fun _ _ _ => Nat.zero_le _, fun y hy => ?_⟩
  · obtain ⟨b, off, e, hb, hc⟩ := hr.2 hn
    refine ⟨b, off, e, hb, fun j y hj => ?_⟩
    obtain ⟨cs, c1, c2, c3⟩ := hc j y hj
    exact ⟨cs, c1, c2, c3.1⟩
  · obtain ⟨j, hj, rfl⟩ := List.getElem_of_mem hy
    obtain ⟨b, off, y, cs, _, _, h1, _, _, hR⟩ := hr.at_ (j := j) (by have := hr.1; omega)
    rw [List.getElem?_eq_getElem hj] at h1
    injection h1 with h1
    rw [h1]; exact hR.2
end

end Go.Proofs.YtdcnpaodcjfdbaaGreatDoor

/- What each function of layer 13 (fns) returns: one function, and a row of them. -/
namespace Go.Proofs.YtdcnpaodcjfdbaaGreatDoor
open Go.RowKit
set_option linter.unusedVariables false

theorem belF_al {W X : World} (h : Below W.heap.size W X) (o : Obj) : Below W.heap.size W (X.alloc o) := h.alloc h.size o
theorem belF_dr {W X : World} (h : Below W.heap.size W X) : Below W.heap.size W X.drew := h.drew
theorem belF_tr {W X Y : World} (h : Below W.heap.size W X) (k : Below X.heap.size X Y) : Below W.heap.size W Y := h.trans (k.mono h.size)
theorem new2 (w : World) (a b : Value) (t : TypeId) : (w.alloc (.cells #[a, b] t)).cell? ⟨w.heap.size, 0, none⟩ = some a ∧ (w.alloc (.cells #[a, b] t)).cell? ⟨w.heap.size, 1, none⟩ = some b := by
  constructor <;> simp [go_sem]
/-- A block of two cells. -/
def C2 (W : World) (b : Nat) (x y : Value) : Prop := W.cell? ⟨b, 0, none⟩ = some x ∧ W.cell? ⟨b, 1, none⟩ = some y
theorem C2.lt {W : World} {b : Nat} {x y : Value} (h : C2 W b x y) : b < W.heap.size := lt_of_cell h.1
theorem C2.below {W W' : World} {b : Nat} {x y : Value} (h : C2 W b x y) (hb : Below W.heap.size W W') : C2 W' b x y :=
  ⟨(hb.cell (p := ⟨b, 0, none⟩) h.lt).trans h.1, (hb.cell (p := ⟨b, 1, none⟩) h.lt).trans h.2⟩

set_option maxHeartbeats 1000000 in
theorem code_fmay (y : FnV) (lo : Nat) (w : World) (hy : FvOk w lo w.heap.size y) (hn : y.n ≤ 17592186044416) :
    Calls Tryz.prog 42 #[.agg #[.int .i64 y.sz, .slice y.A y.n y.c]] w fun e w' => e = .returned (.bool (fMay y.sz y.ws)) ∧ Below w.heap.size w w' := by
  obtain ⟨s, A, n, c, ws⟩ := y
  have hin : in64 s := hy.inn
  unfold in64 at hin
  simp only at hn
  obtain ⟨W0, hW0⟩ : ∃ W0, W0 = w.alloc (.cells #[.int .i64 s, .slice A n c] 56) := ⟨_, rfl⟩
  have HB0 : Hid (Below w.heap.size w W0) := hidb (by rw [hW0]; exact (Below.refl _ _).alloc (Nat.le_refl _) _)
  have hzz : W0.heap.size = w.heap.size + 1 := by rw [hW0]; simp
  have hC0 : C2 W0 w.heap.size (.int .i64 s) (.slice A n c) := by rw [hW0]; exact new2 _ _ _ _
  have HX : Hid (∀ W, Below W0.heap.size W0 W → W.cell? ⟨w.heap.size, 0, none⟩ = some (.int .i64 s) ∧ W.cell? ⟨w.heap.size, 1, none⟩ = some (.slice A n c)) := hidb (fun W hb => hC0.below hb)
  have hok0 := hy.below HB0.out
  have HW0 := hidb hW0
  have HZZ := hidb hzz
  clear hW0 hC0 hy hzz
  show Calls _ _ #[.agg #[.int .i64 s, .slice A n c]] w _
  by_cases h0 : 0 ≤ s
  · by_cases h1 : s ≤ 1000
    · have hl : ws.length = n := hok0.len
      have E : Hid ((((bBits ws (64 * n)).length : Int) == ((bBits ws (min s.toNat (64 * n))).length : Int)) = fMay s ws) := hidb (by
        rw [fMay_in s ws ⟨h0, h1⟩, ← bIn_count ws s h0, hl])
      have CT : ∀ m : Int, in64 m → ∀ W, Below W0.heap.size W0 W → Calls Tryz.prog 71 #[.slice A n c, .int .i64 m] W fun e w' => e = .returned (.int .i64 ((bBits ws (min m.toNat (64 * n))).length : Nat)) ∧ Below W0.heap.size W0 w' := fun m hm W hb => by
        have hz := HZZ.out
        have hbz := hb.size
        refine (code_bcount A n c ws m W ((hok0.sl.more (by omega)).below hb |>.more (by omega)) (by omega) hok0.nc hok0.cm hok0.na hok0.wd hm.1 hm.2).mono ?_
        rintro e w' ⟨rfl, h⟩
        exact ⟨rfl, belF_tr hb h⟩
      have C1 := CT 9223372036854775807 ⟨by omega, by omega⟩
      rw [show min (9223372036854775807 : Int).toNat (64 * n) = 64 * n by rw [show (9223372036854775807 : Int).toNat = 9223372036854775807 from rfl]; omega] at C1
      have HC1 := hidb C1
      have HC2 := hidb (CT s hin)
      have d0 : decide (0 ≤ s) = true := decide_eq_true h0
      have d1 : decide (s ≤ 1000) = true := decide_eq_true h1
      clear C1 CT hok0 hl
      generalize (bBits ws (64 * n)).length = a1 at *
      generalize (bBits ws (min s.toNat (64 * n))).length = a2 at *
      go_enter Tryz.func42, Tryz.ntmps42
      go_wp2
      rw [← HW0.out]
      obtain ⟨c0, c1⟩ := HX.out W0 (Below.refl _ _)
      go_region_held3 (fun W => W.cell? ⟨w.heap.size, 0, none⟩ = some (.int .i64 s) ∧ W.cell? ⟨w.heap.size, 1, none⟩ = some (.slice A n c))
        (with_reducible exact HX.out _ (by repeat (first | with_reducible exact Below.refl _ _ | with_reducible exact Hid.out (by assumption) | with_reducible apply belF_al | with_reducible apply belF_dr)))
        (first
          | (go_at_call 71; ((with_reducible refine (HC1.out _ (by repeat (first | with_reducible exact Below.refl _ _ | with_reducible exact Hid.out (by assumption) | with_reducible apply belF_al | with_reducible apply belF_dr))).mono ?_); rintro e w1 ⟨rfl, hb1⟩; have HB1 := hidb hb1; clear hb1))
          | (go_at_call 71; ((with_reducible refine (HC2.out _ (by repeat (first | with_reducible exact Below.refl _ _ | with_reducible exact Hid.out (by assumption) | with_reducible apply belF_al | with_reducible apply belF_dr))).mono ?_); rintro e w2 ⟨rfl, hb2⟩; have HB2 := hidb hb2; clear hb2)))
      all_goals go_wp2
      all_goals go_ret
      all_goals first
        | exact ⟨congrArg (fun b => Ending.returned (.bool b)) E.out, HB0.out.trans (HB2.out.mono HB0.out.size)⟩
        | exact ⟨congrArg (fun b => Ending.returned (.bool b)) E.out, HB0.out.trans (HB1.out.mono HB0.out.size)⟩
    · have HE := hidb (fMay_no s ws (by omega))
      have d0 : decide (0 ≤ s) = true := decide_eq_true h0
      have d1 : decide (s ≤ 1000) = false := decide_eq_false h1
      obtain ⟨c0, c1⟩ := HX.out W0 (Below.refl _ _)
      clear hok0
      go_enter Tryz.func42, Tryz.ntmps42
      go_wp2
      rw [← HW0.out]
      go_quiet (fail)
      go_wp2
      go_ret
      exact ⟨by rw [HE.out]; rfl, belowN HB0.out _⟩
  · have HE := hidb (fMay_no s ws (by omega))
    have d0 : decide (0 ≤ s) = false := decide_eq_false h0
    obtain ⟨c0, c1⟩ := HX.out W0 (Below.refl _ _)
    clear hok0
    go_enter Tryz.func42, Tryz.ntmps42
    go_wp2
    rw [← HW0.out]
    go_quiet (fail)
    go_wp2
    go_ret
    exact ⟨by rw [HE.out]; rfl, belowN HB0.out _⟩

theorem code_fwords (y : FnV) (w : World) (h0 : 0 ≤ y.sz) (h1 : y.sz ≤ 1000) :
    Calls Tryz.prog 55 #[.agg #[.int .i64 y.sz, .slice y.A y.n y.c]] w fun e w' => e = .returned (.int .i64 (y.sz + 2)) ∧ Below w.heap.size w w' := by
  obtain ⟨s, A, n, c, ws⟩ := y
  simp only at h0 h1
  show Calls _ _ #[.agg #[.int .i64 s, .slice A n c]] w _
  go_enter Tryz.func55, Tryz.ntmps55
  go_wp2
  go_ret
  exact ⟨congrArg (fun z => Ending.returned (.int .i64 z)) (by omega), (Below.refl _ _).alloc (Nat.le_refl _) _⟩

/-- What the closure that May hands on answers. -/
theorem code_fmayfn (y : FnV) (lo : Nat) (w : World) (hy : FvOk w lo w.heap.size y) (hn : y.n ≤ 17592186044416) :
    Calls Tryz.prog 41 #[.agg #[.int .i64 y.sz, .slice y.A y.n y.c]] w fun e w' => e = .returned (.bool (!fMay y.sz y.ws)) ∧ Below w.heap.size w w' := by
  obtain ⟨W0, hW0⟩ : ∃ W0, W0 = w.alloc (.cells #[.int .i64 y.sz, .slice y.A y.n y.c] 53) := ⟨_, rfl⟩
  have HB0 : Hid (Below w.heap.size w W0) := hidb (by rw [hW0]; exact (Below.refl _ _).alloc (Nat.le_refl _) _)
  have cm := code_fmay y lo W0 ((hy.below HB0.out).more (Nat.le_refl _) HB0.out.size) hn
  rw [hW0] at cm
  obtain ⟨s, A, n, c, ws⟩ := y
  have HZ := hidb HB0.out.size
  rw [hW0] at HB0 HZ
  clear hW0 hy
  simp only at cm HB0 HZ ⊢
  generalize fMay s ws = b at *
  go_enter Tryz.func41, Tryz.ntmps41
  go_wp2_with (go_at_call 42; (with_reducible refine cm.mono ?_); rintro e w1 ⟨rfl, hb1⟩)
  go_ret
  exact ⟨by first | rfl | simp, HB0.out.trans (hb1.mono HZ.out)⟩

theorem code_findex (A : Option Addr) (n c : Nat) (ys : List FnV) (lo : Nat) (w : World) (hs : FnRow w lo w.heap.size A n ys) (hn : n ≤ 1000) (hw : ∀ y ∈ ys, y.n ≤ 17592186044416) :
    Calls Tryz.prog 70 #[.slice A n c, .func (.func 41) #[] #[]] w fun e w' => (∃ r : Int, e = .returned (.int .i64 r) ∧ -1 ≤ r ∧ r ≤ 9223372036854775807 ∧ decide (0 ≤ r) = !fAll (vals ys)) ∧ Below w.heap.size w w' := by
  have HL := hidb hs.len
  have HW := hidb hw
  have HS := hidb hs
  clear hs hw
  go_enter Tryz.func70, Tryz.ntmps70
  go_wp2
  go_loopw [8] (fun k wr => ∃ j : Nat, j ≤ n ∧ Hid (∀ i y, i < j → ys[i]? = some y → fMay y.sz y.ws = true) ∧ Below w.heap.size w wr ∧ k = .int .i64 j) (fun k _ => (n - intOf k).toNat)
  case atStart => exact ⟨0, by omega, hidb (fun i y h => absurd h (Nat.not_lt_zero _)), Below.refl _ _, rfl⟩
  case round =>
    obtain ⟨j, hj, HA, hbel, rfl⟩ := hrel
    by_cases hlt : j < n
    · obtain ⟨b, off, y, rfl, _, hy, hc0, hc1, hok⟩ := (HS.out.below hbel).at_ hlt
      have HY := hidb hy
      have cm := code_fmayfn y lo wr (hok.more (Nat.le_refl _) hbel.size) (HW.out y (List.mem_of_getElem? hy))
      have hsz := hbel.size
      have HB := hidb hbel
      clear hy hok hbel
      cases hM : fMay y.sz y.ws with
      | true =>
        rw [hM] at cm
        have HM := hidb hM
        clear hM
        go_wp2_with (go_at_call 41; (with_reducible refine cm.mono ?_); rintro e w' ⟨rfl, hb1⟩)
        have HB1 := hidb (HB.out.trans (hb1.mono hsz))
        clear hb1
        go_roundw
        case rel =>
          refine ⟨j + 1, by omega, hidb (fun i z hi hz => ?_), HB1.out, by go_num⟩
          by_cases e : i = j
          · subst e
            rw [HY.out] at hz
            obtain rfl := Option.some.inj hz
            exact HM.out
          · exact HA.out i z (by omega) hz
        case measure => simp [intOf]; omega
      | false =>
        rw [hM] at cm
        have HF : Hid (fAll (vals ys) = false) := hidb (fAll_bad (vals_at HY.out) hM)
        clear hM
        go_wp2_with (go_at_call 41; (with_reducible refine cm.mono ?_); rintro e w' ⟨rfl, hb1⟩)
        go_ret
        exact ⟨⟨(j : Int), rfl, by omega, by omega, by rw [HF.out]; exact decide_eq_true (by omega)⟩, HB.out.trans (hb1.mono hsz)⟩
    · have HB := hidb hbel
      have HF : Hid (fAll (vals ys) = true) := hidb (by
        unfold fAll; rw [List.all_eq_true]
        intro f hf
        obtain ⟨y, hy, rfl⟩ := List.mem_map.1 hf
        obtain ⟨i, hi, rfl⟩ := List.getElem_of_mem hy
        exact HA.out i _ (by have := HL.out; omega) (List.getElem?_eq_getElem hi))
      clear hbel
      go_wp2
      go_ret
      exact ⟨⟨-1, rfl, by omega, by omega, by rw [HF.out]; exact decide_eq_false (by omega)⟩, HB.out⟩
theorem code_fcontains (A : Option Addr) (n c : Nat) (ys : List FnV) (lo : Nat) (w : World) (hs : FnRow w lo w.heap.size A n ys) (hn : n ≤ 1000) (hw : ∀ y ∈ ys, y.n ≤ 17592186044416) :
    Calls Tryz.prog 40 #[.slice A n c, .func (.func 41) #[] #[]] w fun e w' => e = .returned (.bool (!fAll (vals ys))) ∧ Below w.heap.size w w' := by
  have hcon := code_findex A n c ys lo w hs hn hw
  clear hs hw
  generalize (!fAll (vals ys)) = r at hcon ⊢
  go_enter Tryz.func40, Tryz.ntmps40
  go_wp2_with (go_at_call 70; (with_reducible refine hcon.mono ?_); rintro e w' ⟨⟨k, rfl, hk0, hk1, hk2⟩, hb⟩)
  go_ret
  exact ⟨congrArg Ending.returned (congrArg Value.bool (by first | rfl | assumption)), hb⟩
theorem code_fMay (A : Option Addr) (n c : Nat) (ys : List FnV) (lo : Nat) (w : World) (hs : FnRow w lo w.heap.size A n ys) (hn : n ≤ 1000) (hw : ∀ y ∈ ys, y.n ≤ 17592186044416) :
    Calls Tryz.prog 16 #[.slice A n c] w fun e w' => e = .returned (.bool (fAll (vals ys))) ∧ Below w.heap.size w w' := by
  have hcon := code_fcontains A n c ys lo w hs hn hw
  clear hs hw
  generalize fAll (vals ys) = r at hcon ⊢
  go_enter Tryz.func16, Tryz.ntmps16
  go_wp2_with (go_at_call 40; (with_reducible refine hcon.mono ?_); rintro e w' ⟨rfl, hb⟩)
  go_ret
  exact ⟨by first | rfl | simp, hb⟩

end Go.Proofs.YtdcnpaodcjfdbaaGreatDoor

/- What each function of layer 13 (fns) returns: a table's own functions, and New. -/
namespace Go.Proofs.YtdcnpaodcjfdbaaGreatDoor
open Go.RowKit
set_option linter.unusedVariables false

/-- A row of the call's own is so as long as its block is. -/
theorem own_same {w w' : World} {base n s : Nat} {e : TypeId} {v : Value} {xs : List Value} (h : w.ownsRow base e s v n xs) (hk : ∀ k, v.ownBlock = some k → w'.heap[k]? = w.heap[k]?) : w'.ownsRow base e s v n xs := by
  refine ⟨h.1, ?_⟩
  rcases h.2 with h0 | ⟨g, cap, cur, e1, e2, e3, e4⟩
  · exact Or.inl h0
  · refine Or.inr ⟨g, cap, cur, e1, e2, ?_, e4⟩
    rw [hk g (by rw [e1]; rfl)]; exact e3
/-- A function that own answers, and where its bitmap lies. -/
def OwnFn (w : World) (s : Int) (ws : List Nat) (e : Ending) (w' : World) : Prop := ∃ A c, e = .returned (.agg #[.int .i64 s, .slice A ws.length c]) ∧ w'.ownsRow w.heap.size 32 1 (.slice A ws.length c) ws.length (ws.map wv) ∧ Below w.heap.size w w'
theorem own_set2 {w : World} {base n s b : Nat} {e : TypeId} {v u0 u1 : Value} {xs : List Value} (h : w.ownsRow base e s v n xs) (hb : b < base) : ((w.setCell ⟨b, 0, none⟩ u0).setCell ⟨b, 1, none⟩ u1).ownsRow base e s v n xs :=
  own_same h fun k hk => by
    have := (h.lt k hk).1
    rw [Below.heap_setCell _ _ _ _ (by show k ≠ b; omega), Below.heap_setCell _ _ _ _ (by show k ≠ b; omega)]

set_option maxHeartbeats 1000000 in
theorem code_fown (y : FnV) (lo : Nat) (w : World) (hy : FvOk w lo w.heap.size y) (hn : y.n ≤ 17592186044416) (hk : y.n ≤ 1000 ∨ y.sz ≤ 1000) (ht : TabDB w) :
    Calls Tryz.prog 17 #[.agg #[.int .i64 y.sz, .slice y.A y.n y.c]] w (OwnFn w y.sz (fOwn y.sz y.ws)) := by
  obtain ⟨s, A, n, c, ws⟩ := y
  have hin : in64 s := hy.inn
  unfold in64 at hin
  simp only at hn hk
  obtain ⟨W0, hW0⟩ : ∃ W0, W0 = (w.alloc (.cells #[.int .i64 s, .slice A n c] 53)).alloc (.cells #[.int .i64 0, .slice none 0 0] 53) := ⟨_, rfl⟩
  have HB0 : Hid (Below w.heap.size w W0) := hidb (by rw [hW0]; exact belF_al (belF_al (Below.refl _ _) _) _)
  have hzz : W0.heap.size = w.heap.size + 2 := by rw [hW0]; simp
  have hC0 : C2 W0 w.heap.size (.int .i64 s) (.slice A n c) := by rw [hW0]; simp [C2]
  have HX : Hid (∀ W, Below W0.heap.size W0 W → W.cell? ⟨w.heap.size, 0, none⟩ = some (.int .i64 s) ∧ W.cell? ⟨w.heap.size, 1, none⟩ = some (.slice A n c)) := hidb (fun W hb => hC0.below hb)
  have HR : Hid (∀ W, Below W0.heap.size W0 W → W.cell? ⟨w.heap.size + 1, 0, none⟩ = some (.int .i64 0) ∧ W.cell? ⟨w.heap.size + 1, 1, none⟩ = some (.slice none 0 0) ∧ W.frozen? ⟨w.heap.size + 1, 0, none⟩ = false ∧ W.frozen? ⟨w.heap.size + 1, 1, none⟩ = false) := hidb (fun W hb => by
    have h2 : C2 W0 (w.heap.size + 1) (.int .i64 0) (.slice none 0 0) := by rw [hW0]; simp [C2]
    have q : ∀ j, W.frozen? ⟨w.heap.size + 1, j, none⟩ = W0.frozen? ⟨w.heap.size + 1, j, none⟩ := fun j => hb.frozen (p := ⟨w.heap.size + 1, j, none⟩) (by show w.heap.size + 1 < _; omega)
    refine ⟨(h2.below hb).1, (h2.below hb).2, ?_, ?_⟩
    · rw [q, hW0]; simp [go_sem]
    · rw [q, hW0]; simp [go_sem])
  have hok0 := hy.below HB0.out
  have hl : ws.length = n := hok0.len
  have htd := TabDB.below ht HB0.out
  have hbl : (bBits ws (min s.toNat (64 * n))).length ≤ 64000 := Nat.le_trans (bBits_length _ _) (by omega)
  have HC1 : Hid (∀ W, Below W0.heap.size W0 W → Calls Tryz.prog 44 #[.slice A n c, .int .i64 s] W fun e w' => ∃ A1 c1, e = .returned (.slice A1 (bBits ws (min s.toNat (64 * n))).length c1) ∧ Sl w' w'.heap.size A1 (bBits ws (min s.toNat (64 * n))).length ((bBits ws (min s.toNat (64 * n))).map iv) ∧ Below W0.heap.size W0 w') := hidb (fun W hb => by
    have hbz := hb.size
    refine (code_bbits A n c ws s W ((hok0.sl.more (by omega)).below hb |>.more (by omega)) (by omega) hk hok0.nc hok0.cm hok0.na hok0.wd hin.1 hin.2 (TabDB.below htd hb)).mono ?_
    rintro e w' ⟨A1, c1, rfl, ho, h⟩
    exact ⟨A1, c1, rfl, Sl.of_own ho, belF_tr hb h⟩)
  have HC2 : Hid (∀ W A1 c1, Below W0.heap.size W0 W → Sl W W.heap.size A1 (bBits ws (min s.toNat (64 * n))).length ((bBits ws (min s.toNat (64 * n))).map iv) → Calls Tryz.prog 43 #[.slice A1 (bBits ws (min s.toNat (64 * n))).length c1] W fun e w' => ∃ A2 c2, e = .returned (.slice A2 (fOwn s ws).length c2) ∧ w'.ownsRow W0.heap.size 32 1 (.slice A2 (fOwn s ws).length c2) (fOwn s ws).length ((fOwn s ws).map wv) ∧ Below W0.heap.size W0 w') := hidb (fun W A1 c1 hb hsl => by
    refine (code_bof A1 _ c1 (bBits ws (min s.toNat (64 * n))) W hsl (by omega)).mono ?_
    have e : cOf (bBits ws (min s.toNat (64 * n))) = fOwn s ws := by unfold fOwn; rw [hl]
    rw [e]
    rintro e w' ⟨A2, c2, rfl, ho, h⟩
    exact ⟨A2, c2, rfl, ho.mono hb.size, belF_tr hb h⟩)
  have HW0 := hidb hW0
  have HZZ := hidb hzz
  clear hW0 hC0 hy hzz hok0 htd hl hn hk
  show Calls _ _ #[.agg #[.int .i64 s, .slice A n c]] w (OwnFn w s (fOwn s ws))
  generalize (bBits ws (min s.toNat (64 * n))).length = bl at *
  generalize (bBits ws (min s.toNat (64 * n))).map iv = bs at *
  generalize fOwn s ws = L at *
  go_enter Tryz.func17, Tryz.ntmps17
  go_wp2
  rw [← HW0.out]
  obtain ⟨c0, c1⟩ := HX.out W0 (Below.refl _ _)
  go_region_held3 (fun W => W.cell? ⟨w.heap.size, 0, none⟩ = some (.int .i64 s) ∧ W.cell? ⟨w.heap.size, 1, none⟩ = some (.slice A n c))
    (first | ((with_reducible refine HX.out _ ?_); (repeat (first | with_reducible exact Below.refl _ _ | with_reducible exact Hid.out (by assumption) | with_reducible apply belF_al | with_reducible apply belF_dr)); done) | (go_keep; done))
    (first
      | (go_at_call 44; ((with_reducible refine (HC1.out _ (by repeat (first | with_reducible exact Below.refl _ _ | with_reducible exact Hid.out (by assumption) | with_reducible apply belF_al | with_reducible apply belF_dr))).mono ?_); rintro e w1 ⟨A1, c1, rfl, hs1, hb1⟩; have HB1 := hidb hb1; have HS1 := hidb hs1; clear hb1 hs1))
      | (go_at_call 43; ((with_reducible refine (HC2.out _ _ _ HB1.out HS1.out).mono ?_); rintro e w2 ⟨A2, c2, rfl, ho2, hb2⟩; obtain ⟨r0, r1, rf0, rf1⟩ := HR.out _ hb2; have HB2 := hidb hb2; have HO2 := hidb ho2; clear hb2 ho2)))
  have P : Hid (OwnFn w s L (.returned (.agg #[.int .i64 s, .slice A2 L.length c2])) ((w2.setCell ⟨w.heap.size + 1, 0, none⟩ (.int .i64 s)).setCell ⟨w.heap.size + 1, 1, none⟩ (.slice A2 L.length c2))) := hidb (by
    have hz := HZZ.out
    exact ⟨A2, c2, rfl, (own_set2 HO2.out (by omega)).mono (by omega), ((HB0.out.trans (HB2.out.mono (by omega))).setCell (p := ⟨w.heap.size + 1, 0, none⟩) (by show w.heap.size ≤ w.heap.size + 1; omega) _).setCell (p := ⟨w.heap.size + 1, 1, none⟩) (by show w.heap.size ≤ w.heap.size + 1; omega) _⟩)
  have s0 : ((w2.setCell ⟨w.heap.size + 1, 0, none⟩ (.int .i64 s)).setCell ⟨w.heap.size + 1, 1, none⟩ (.slice A2 L.length c2)).cell? ⟨w.heap.size + 1, 0, none⟩ = some (.int .i64 s) := by
    rw [World.cell?_setCell_other _ _ _ _ (by simp), World.cell?_setCell_same _ _ _ (by rw [r0])]
  have s1 : ((w2.setCell ⟨w.heap.size + 1, 0, none⟩ (.int .i64 s)).setCell ⟨w.heap.size + 1, 1, none⟩ (.slice A2 L.length c2)).cell? ⟨w.heap.size + 1, 1, none⟩ = some (.slice A2 L.length c2) := by
    exact World.cell?_setCell_same _ _ _ (by rw [World.cell?_setCell_other _ _ _ _ (by simp), r1])
  clear r0 r1 rf0 rf1
  go_wp2
  refine bodyPost_ret (v := .agg #[.int .i64 s, .slice A2 L.length c2]) (by simp [results, Tryz.results17, go_sem, s0, s1]) rfl ?_
  exact P.out
end Go.Proofs.YtdcnpaodcjfdbaaGreatDoor

/- What New of layer 13 (fns) returns: a table, in blocks of its own. -/
namespace Go.Proofs.YtdcnpaodcjfdbaaGreatDoor
open Go.RowKit
set_option linter.unusedVariables false

theorem info_entry : (Tryz.prog.info? 56).map (fun i => (i.zero, i.size, i.bytes)) = some (some (.agg #[.int .i64 0, .slice none 0 0]), 2, 32) := by kernel_rfl
/-- A row's block, and of which type it is. -/
theorem own_type {w : World} {base n s : Nat} {e : TypeId} {v : Value} {xs : List Value} (h : w.ownsRow base e s v n xs) : ∀ k, v.ownBlock = some k → ∃ cur, w.heap[k]? = some (.cells cur e (0, 0)) := fun k hk => by
  rcases h.2 with ⟨h0, _⟩ | ⟨g, cap, cur, e1, e2, e3, e4⟩
  · rw [h0] at hk; cases hk
  · rw [e1] at hk
    injection hk with hk
    subst hk
    exact ⟨cur, e3⟩
theorem own_grown {w w' : World} {base n s : Nat} {e : TypeId} {v : Value} {xs : List Value} {r : Option Nat} (h : w.ownsRow base e s v n xs) (hg : w.grownBy w' r) (hr : ∀ k, r = some k → v.ownBlock ≠ some k) : w'.ownsRow base e s v n xs :=
  own_same h fun k hk => hg.block k (h.lt k hk).2 (fun c => hr k c.symm hk)
/-- A table that is made: its block, its row, its functions' bitmaps. -/
structure NewF (w wr : World) (p : Nat) (v : Value) (ys : List FnV) : Prop where
  bel : Below w.heap.size w wr
  tab : wr.heap[p]? = some (.cells #[v] 50 (0, 0))
  low : w.heap.size ≤ p
  own : wr.ownsRow w.heap.size 56 2 v ys.length (cellsAll fcells ys)
  fns : ∀ y ∈ ys, wr.ownsRow w.heap.size 32 1 (.slice y.A y.n y.c) y.n (y.ws.map wv) ∧ Wd y.ws ∧ in64 y.sz
section
variable {w wr X w6 : World} {p : Nat} {v : Value} {ys : List FnV} {y : FnV}
theorem NewF.below (h : NewF w wr p v ys) (hb : Below wr.heap.size wr X) : NewF w X p v ys :=
  ⟨h.bel.trans (hb.mono h.bel.size), (hb.block p (Array.getElem?_eq_some_iff.1 h.tab).1).trans h.tab, h.low, own_same h.own fun k hk => hb.block k (h.own.lt k hk).2, fun y hy => ⟨own_same (h.fns y hy).1 fun k hk => hb.block k ((h.fns y hy).1.lt k hk).2, (h.fns y hy).2⟩⟩
theorem NewF.cell (h : NewF w wr p v ys) : wr.cell? ⟨p, 0, none⟩ = some v := by
  have := h.tab
  simp [World.cell?, this]
theorem NewF.free (h : NewF w wr p v ys) : wr.frozen? ⟨p, 0, none⟩ = false := by
  have := h.tab
  simp [World.frozen?, this]
theorem NewF.apart (h : NewF w X p v ys) : some p ≠ v.ownBlock := fun e => by
  obtain ⟨cur, hc⟩ := own_type h.own p e.symm
  rw [h.tab] at hc
  injection hc with hc
  injection hc with _ hc _
  revert hc; decide
theorem NewF.aside (h : NewF w X p v ys) {base n s : Nat} {u : Value} {xs : List Value} (hu : X.ownsRow base 32 s u n xs) : ∀ k, v.ownBlock = some k → u.ownBlock ≠ some k := fun k hk e => by
  obtain ⟨c1, h1⟩ := own_type h.own k hk
  obtain ⟨c2, h2⟩ := own_type hu k e
  rw [h1] at h2
  injection h2 with h2
  injection h2 with _ h2 _
  revert h2; decide
theorem NewF.asideP (h : NewF w X p v ys) {base n s : Nat} {u : Value} {xs : List Value} (hu : X.ownsRow base 32 s u n xs) : u.ownBlock ≠ some p := fun e => by
  obtain ⟨c2, h2⟩ := own_type hu p e
  rw [h.tab] at h2
  injection h2 with h2
  injection h2 with _ h2 _
  revert h2; decide
theorem NewF.push (h : NewF w X p v ys) {A6 : Option Addr} {c6 : Nat} (hy : X.ownsRow w.heap.size 32 1 (.slice y.A y.n y.c) y.n (y.ws.map wv) ∧ Wd y.ws ∧ in64 y.sz)
    (ho : w6.ownsRow w.heap.size 56 2 (.slice A6 (ys.length + 1) c6) (ys.length + 1) (cellsAll fcells ys ++ fcells y)) (hg : X.grownBy w6 v.ownBlock) :
    (w6.cell? ⟨p, 0, none⟩ = some v ∧ w6.frozen? ⟨p, 0, none⟩ = false) ∧ NewF w (w6.setCell ⟨p, 0, none⟩ (.slice A6 (ys.length + 1) c6)) p (.slice A6 (ys.length + 1) c6) (ys ++ [y]) := by
  have hp : p < X.heap.size := (Array.getElem?_eq_some_iff.1 h.tab).1
  have t6 : w6.heap[p]? = some (.cells #[v] 50 (0, 0)) := (hg.block p hp h.apart).trans h.tab
  refine ⟨⟨by simp [World.cell?, t6], by simp [World.frozen?, t6]⟩, ?_, one_setCell t6, h.low, ?_, ?_⟩
  · refine Below.setCell ?_ h.low _
    exact h.bel.grown hg h.bel.size (fun k hk => (h.own.lt k hk).1)
  · have ho' : w6.ownsRow w.heap.size 56 2 (.slice A6 (ys.length + 1) c6) (ys ++ [y]).length (cellsAll fcells (ys ++ [y])) := by
      rw [List.length_append, cellsAll_append, cellsAll_one]; exact ho
    refine own_same ho' fun k hk => Below.heap_setCell _ _ _ _ ?_
    intro e
    obtain ⟨cur, hc⟩ := own_type ho k hk
    have e : k = p := e
    subst e
    rw [t6] at hc
    injection hc with hc
    injection hc with _ hc _
    revert hc; decide
  · intro z hz
    have hz' : X.ownsRow w.heap.size 32 1 (.slice z.A z.n z.c) z.n (z.ws.map wv) ∧ Wd z.ws ∧ in64 z.sz := by
      rcases List.mem_append.1 hz with hz | hz
      · exact h.fns z hz
      · rw [List.mem_singleton.1 hz]; exact hy
    refine ⟨own_same (own_grown hz'.1 hg (h.aside hz'.1)) fun k hk => Below.heap_setCell _ _ _ _ (fun e => ?_), hz'.2⟩
    have e : k = p := e
    subst e
    exact h.asideP hz'.1 hk
theorem NewF.row {A : Option Addr} {n c : Nat} (h : NewF w wr p (.slice A n c) ys) (hn : ys.length = n) : FnRow wr w.heap.size wr.heap.size A n ys := by
  have ho := h.own
  rw [hn] at ho
  refine ⟨RowOf.of_own fcells_len ho hn, fun h0 a e => ?_, fun y hy => ?_⟩
  · subst e
    rcases ho.2 with ⟨_, h1⟩ | ⟨g, cap, cur, e1, e2, _⟩
    · omega
    · injection e1 with e1
      injection e1 with e1
      subst e1; exact e2
  · obtain ⟨h1, h2, h3⟩ := h.fns y hy
    obtain ⟨q1, q2, q3⟩ := own_caps h1
    refine ⟨Sl.of_own h1, fun h0 a e => ?_, q1, q2, q3, h2, h3⟩
    rw [e] at h1
    rcases h1.2 with ⟨_, h1⟩ | ⟨g, cap, cur, e1, e2, _⟩
    · omega
    · injection e1 with e1
      injection e1 with e1
      subst e1; exact e2
end

set_option maxRecDepth 100000 in
set_option maxHeartbeats 2000000 in
theorem code_fNew_loop (A : Option Addr) (n c : Nat) (ys : List FnV) (lo : Nat) (w : World) (hs : FnRow w lo w.heap.size A n ys) (h1 : 1 ≤ n) (hn : n ≤ 100) (hw : ∀ y ∈ ys, y.n ≤ 17592186044416) (ht : TabDB w) (hm : fAll (vals ys) = true) :
    Calls Tryz.prog 4 #[.slice A n c] w fun e w' => ∃ p v zs, e = .returned (.tuple #[.pointer (some ⟨p, 0, none⟩), .int .i64 0]) ∧ NewF w w' p v zs ∧ vals zs = fOwns (vals ys) := by
  obtain ⟨i0, hi, hz0, hz1, hz2⟩ := info_parts info_entry
  have cm := code_fMay A n c ys lo w hs (by omega) hw
  rw [hm] at cm
  have HM := hidb hm
  have HL := hidb hs.len
  have HW := hidb hw
  have HS := hidb hs
  have HT := hidb ht
  have g1 : (1 : Int) ≤ (n : Int) := by omega
  have g2 : (n : Int) ≤ 100 := by omega
  clear hs hw ht hm
  go_enter Tryz.func4, Tryz.ntmps4
  go_wp2_with (go_at_call 16; (with_reducible refine cm.mono ?_); rintro e w1 ⟨rfl, hb1⟩)
  have HB1 := hidb hb1
  have hz1s := hb1.size
  clear hb1 cm
  go_loopw [24] (fun k wr => ∃ (j : Nat) (v : Value) (zs : List FnV), j ≤ n ∧ k = .int .i64 j ∧ NewF w wr w1.heap.size v zs ∧ Hid (vals zs = (fOwns (vals ys)).take j)) (fun k _ => (n - intOf k).toNat)
  case atStart =>
    refine ⟨0, .slice none 0 0, [], by omega, rfl, ⟨HB1.out.alloc hz1s _, ?_, hz1s, World.ownsRow_nil _ _ _ _, fun y hy => by cases hy⟩, hidb rfl⟩
    show (w1.heap.push _)[w1.heap.size]? = _
    simp
  case round =>
    obtain ⟨j, v, zs, hj, rfl, hN, HV⟩ := hrel
    by_cases hlt : j < n
    · obtain ⟨b, off, y, rfl, _, hy, hc0, hc1, hok⟩ := (HS.out.below (hN.bel)).at_ hlt
      have hyn := HW.out y (List.mem_of_getElem? hy)
      have hmy := fAll_at HM.out j _ (vals_at hy)
      have hin := hok.inn
      have HVN : Hid (vals (zs ++ [⟨y.sz, none, 0, 0, fOwn y.sz y.ws⟩]) = (fOwns (vals ys)).take (j + 1)) := hidb (by
        rw [List.take_add_one, ← HV.out, fOwns_at _ _ _ (vals_at hy)]
        unfold vals; rw [List.map_append]; rfl)
      have hzl : zs.length = j := by
        have := congrArg List.length HV.out
        rw [vals_length, List.length_take, fOwns_length, vals_length, HL.out] at this; omega
      obtain ⟨W0, hW0⟩ : ∃ W0, W0 = wr.alloc (.cells #[.int .i64 y.sz, .slice y.A y.n y.c] 53) := ⟨_, rfl⟩
      have hB0 : Below wr.heap.size wr W0 := by rw [hW0]; exact belF_al (Below.refl _ _) _
      obtain ⟨x0, x1⟩ : C2 W0 wr.heap.size (.int .i64 y.sz) (.slice y.A y.n y.c) := by rw [hW0]; exact new2 _ _ _ _
      have hN0 := hN.below hB0
      have HP0 : Hid (w.heap.size ≤ W0.heap.size) := hidb hN0.bel.size
      have hcp := hN0.cell
      have CO : Hid (∀ W, Below W0.heap.size W0 W → Calls Tryz.prog 17 #[.agg #[.int .i64 y.sz, .slice y.A y.n y.c]] W fun e w5 => ∃ A2 c2, e = .returned (.agg #[.int .i64 y.sz, .slice A2 (fOwn y.sz y.ws).length c2]) ∧ w5.cell? ⟨w1.heap.size, 0, none⟩ = some v ∧ (w5.alloc (.cells #[.int .i64 y.sz, .slice A2 (fOwn y.sz y.ws).length c2] 56)).cell? ⟨w1.heap.size, 0, none⟩ = some v ∧ Hid (NewF w (w5.alloc (.cells #[.int .i64 y.sz, .slice A2 (fOwn y.sz y.ws).length c2] 56)) w1.heap.size v zs ∧ (w5.alloc (.cells #[.int .i64 y.sz, .slice A2 (fOwn y.sz y.ws).length c2] 56)).ownsRow w.heap.size 32 1 (.slice A2 (fOwn y.sz y.ws).length c2) (fOwn y.sz y.ws).length ((fOwn y.sz y.ws).map wv))) := hidb (fun W hb => by
        have hN1 := hN0.below hb
        refine (code_fown y lo W ((hok.below (hB0.trans (hb.mono hB0.size) |>.mono hN.bel.size)).more (Nat.le_refl _) hN1.bel.size) (by omega) (Or.inr (fMay_size hmy).2) (TabDB.below HT.out hN1.bel)).mono ?_
        rintro e w5 ⟨A2, c2, rfl, ho, hb5⟩
        have hN5 := hN1.below hb5
        have hN6 := hN5.below (belF_al (Below.refl _ _) (.cells #[.int .i64 y.sz, .slice A2 (fOwn y.sz y.ws).length c2] 56))
        exact ⟨A2, c2, rfl, hN5.cell, hN6.cell, hidb ⟨hN6, (ho.mono hN1.bel.size).alloc _⟩⟩)
      have HPUSH : Hid (∀ (A2 : Option Addr) (c2 : Nat) (X w6 : World) (A6 : Option Addr) (c6 : Nat), NewF w X w1.heap.size v zs → X.ownsRow w.heap.size 32 1 (.slice A2 (fOwn y.sz y.ws).length c2) (fOwn y.sz y.ws).length ((fOwn y.sz y.ws).map wv) → w6.ownsRow w.heap.size 56 2 (.slice A6 (j + 1) c6) (j + 1) (cellsAll fcells zs ++ [.int .i64 y.sz, .slice A2 (fOwn y.sz y.ws).length c2]) → X.grownBy w6 v.ownBlock → (w6.cell? ⟨w1.heap.size, 0, none⟩ = some v ∧ w6.frozen? ⟨w1.heap.size, 0, none⟩ = false) ∧ Hid (∃ us, NewF w (w6.setCell ⟨w1.heap.size, 0, none⟩ (.slice A6 (j + 1) c6)) w1.heap.size (.slice A6 (j + 1) c6) us ∧ vals us = (fOwns (vals ys)).take (j + 1))) := hidb (fun A2 c2 X w6 A6 c6 k1 k2 k3 k4 => by
        rw [← hzl] at k3 ⊢
        obtain ⟨q1, q2⟩ := k1.push (y := ⟨y.sz, A2, _, c2, fOwn y.sz y.ws⟩) ⟨k2, fOwn_wd _ _, hin⟩ k3 k4
        refine ⟨q1, hidb ⟨_, q2, ?_⟩⟩
        rw [hzl, ← HVN.out]
        unfold vals; simp [FnV.v])
      have HON : Hid (∀ (A2 : Option Addr) (c2 : Nat), ∀ u ∈ [Value.int .i64 y.sz, Value.slice A2 (fOwn y.sz y.ws).length c2], u.oneCell' = true) := hidb (fun A2 c2 u hu => by
        rcases List.mem_cons.1 hu with rfl | hu
        · rfl
        · obtain rfl := List.mem_singleton.1 hu; rfl)
      have HZL := hidb hzl
      have HW0 := hidb hW0
      have hpl : w1.heap.size < W0.heap.size := (Array.getElem?_eq_some_iff.1 hN0.tab).1
      clear hy hok hB0 hN0 hW0 hzl hN hyn hmy hin
      generalize hL : fOwn y.sz y.ws = L at *
      clear hL
      go_wp2
      rw [← HW0.out]
      go_region_law (first
        | (go_simp; go_at_call 17; (with_reducible refine (CO.out _ (by first | exact Below.refl _ _ | exact (Below.refl _ _).drew)).mono ?_); rintro e w5 ⟨A2, c2, rfl, hp5, hp6, HN5⟩)
        | (refine step_append_row rfl (.tmp 32) (.tmp 36) 48 rfl w.heap.size 56 i0 (.agg #[.int .i64 0, .slice none 0 0]) 2 32 Tryz.underlying48 hi hz0 hz1 hz2 rfl (by decide) _ j (cellsAll fcells zs) rfl (by have := HN5.out.1.own; rw [HZL.out] at this; exact this) HN5.out.1.bel.size (some ⟨w5.heap.size, 0, none⟩) 1 1 [.int .i64 y.sz, .slice A2 L.length c2] rfl rfl (fun h => by cases h) (cells_new w5 [.int .i64 y.sz, .slice A2 L.length c2] _) (HON.out A2 c2) (by unfold maxLen; omega) (by omega) ?_; intro A6 c6 w6 ho6 hg6; obtain ⟨⟨hp7, hf7⟩, HN6⟩ := HPUSH.out A2 c2 _ w6 A6 c6 HN5.out.1 HN5.out.2 ho6 hg6; clear ho6 hg6))
      all_goals clear hp5 hp6 hp7 hf7 x0 x1 hcp hc0 hc1
      all_goals go_wp2
      all_goals go_roundw
      all_goals first
        | (obtain ⟨us, hu1, hu2⟩ := HN6.out; exact ⟨j + 1, _, us, by omega, by go_num, hu1, hidb hu2⟩)
        | (simp [intOf]; omega)
    · have hje : j = n := by omega
      have P : Hid (NewF w wr w1.heap.size v zs ∧ vals zs = fOwns (vals ys)) := hidb ⟨hN, by rw [HV.out, List.take_of_length_le (by rw [fOwns_length, vals_length, HL.out]; omega)]⟩
      clear hN hje
      go_wp2
      go_ret2
      exact ⟨_, _, _, rfl, P.out.1, P.out.2⟩

/-- A table in memory: its functions lie in blocks from lo on, below hi. -/
def TbIs (w : World) (lo hi p : Nat) (l : Fns) : Prop := lo ≤ p ∧ p < hi ∧ ∃ A n c ys, w.cell? ⟨p, 0, none⟩ = some (.slice A n c) ∧ FnRow w lo hi A n ys ∧ vals ys = l ∧ n ≤ 100 ∧ ∀ y ∈ ys, y.n ≤ 64
theorem TbIs.keep {w w' : World} {lo hi p : Nat} {l : Fns} (h : TbIs w lo hi p l) (hk : ∀ b, lo ≤ b → b < hi → w'.heap[b]? = w.heap[b]?) : TbIs w' lo hi p l := by
  obtain ⟨h1, h2, A, n, c, ys, h3, h4, h5⟩ := h
  exact ⟨h1, h2, A, n, c, ys, (World.cell?_of_block (hk p h1 h2)).trans h3, h4.keep hk, h5⟩
theorem TbIs.below {w w' : World} {lo hi p : Nat} {l : Fns} (h : TbIs w lo hi p l) (hb : Below hi w w') : TbIs w' lo hi p l := h.keep fun b _ hl => hb.block b hl
theorem TbIs.drewN {w : World} {lo hi p : Nat} {l : Fns} (h : TbIs w lo hi p l) (q : Nat) : TbIs (w.drewN q) lo hi p l := h.keep fun _ _ _ => rfl

theorem code_fNew (A : Option Addr) (n c : Nat) (ys : List FnV) (lo : Nat) (w : World) (hs : FnRow w lo w.heap.size A n ys) (hn : n ≤ 1000) (hw : ∀ y ∈ ys, y.n ≤ 17592186044416) (ht : TabDB w) (hm : fTab (vals ys) = true) :
    Calls Tryz.prog 4 #[.slice A n c] w fun e w' => ∃ p, e = .returned (.tuple #[.pointer (some ⟨p, 0, none⟩), .int .i64 0]) ∧ TbIs w' w.heap.size w'.heap.size p (fOwns (vals ys)) ∧ Below w.heap.size w w' := by
  have hl := hs.len
  unfold fTab at hm
  rw [Bool.and_eq_true, decide_eq_true_iff, vals_length, hl] at hm
  refine (code_fNew_loop A n c ys lo w hs hm.2.1 hm.2.2 hw ht hm.1).mono ?_
  rintro e w' ⟨p, v, zs, rfl, hN, hv⟩
  have hzl : zs.length = n := by
    have := congrArg List.length hv
    rw [vals_length, fOwns_length, vals_length, hl] at this; exact this
  obtain ⟨A', c', rfl⟩ : ∃ A' c', v = .slice A' n c' := by
    obtain ⟨A', c', e⟩ : ∃ A' c', v = .slice A' zs.length c' := by
      rcases hN.own.2 with ⟨rfl, h0⟩ | ⟨g, cap, cur, rfl, _⟩
      · exact ⟨none, 0, by rw [h0]⟩
      · exact ⟨_, _, rfl⟩
    rw [hzl] at e; exact ⟨A', c', e⟩
  refine ⟨p, rfl, ⟨hN.low, (Array.getElem?_eq_some_iff.1 hN.tab).1, A', n, c', zs, hN.cell, hN.row hzl, hv, hm.2.2, fun y hy => ?_⟩, hN.bel⟩
  have hwd := (hN.fns y hy).1.1
  have hlen : y.ws.length = y.n := by simpa using hwd
  rw [← hlen]
  have hm2 : (y.sz, y.ws) ∈ vals zs := List.mem_map.2 ⟨y, hy, rfl⟩
  rw [hv] at hm2
  obtain ⟨f, _, hf⟩ := List.mem_map.1 hm2
  injection hf with _ hf
  rw [← hf]; exact fOwn_length _ _
theorem code_fNew_no (A : Option Addr) (n c : Nat) (ys : List FnV) (lo : Nat) (w : World) (hs : FnRow w lo w.heap.size A n ys) (hn : n ≤ 1000) (hw : ∀ y ∈ ys, y.n ≤ 17592186044416) (hm : fTab (vals ys) = false) :
    Calls Tryz.prog 4 #[.slice A n c] w fun e w' => e = .returned (.tuple #[.pointer none, .int .i64 1]) ∧ Below w.heap.size w w' := by
  have hl := hs.len
  have cm := code_fMay A n c ys lo w hs hn hw
  unfold fTab at hm
  rw [vals_length, hl] at hm
  by_cases g1 : 1 ≤ n
  · have g1' : (1 : Int) ≤ (n : Int) := by omega
    by_cases g2 : n ≤ 100
    · have g2' : (n : Int) ≤ 100 := by omega
      rw [decide_eq_true ⟨g1, g2⟩, Bool.and_true] at hm
      rw [hm] at cm
      clear hs hw hm
      go_enter Tryz.func4, Tryz.ntmps4
      go_wp2_with (go_at_call 16; (with_reducible refine cm.mono ?_); rintro e w1 ⟨rfl, hb1⟩)
      go_ret2
      exact ⟨rfl, hb1⟩
    · have g2' : (100 : Int) < (n : Int) := by omega
      clear hs hw hm cm
      go_enter Tryz.func4, Tryz.ntmps4
      go_wp2
      go_ret2
      exact ⟨rfl, Below.refl _ _⟩
  · obtain rfl : n = 0 := by omega
    clear hs hw hm cm
    go_enter Tryz.func4, Tryz.ntmps4
    go_wp2
    go_ret2
    exact ⟨rfl, Below.refl _ _⟩
end Go.Proofs.YtdcnpaodcjfdbaaGreatDoor

/- What a table's methods of layer 13 (fns) return. -/
namespace Go.Proofs.YtdcnpaodcjfdbaaGreatDoor
open Go.RowKit
set_option linter.unusedVariables false

/-- A table, or none: a nil one has no functions. -/
def TbO (w : World) (lo hi : Nat) (p : Option Addr) (l : Fns) : Prop := (p = none ∧ l = []) ∨ ∃ b, p = some ⟨b, 0, none⟩ ∧ TbIs w lo hi b l
theorem TbO.nil_ (w : World) (lo hi : Nat) : TbO w lo hi none [] := Or.inl ⟨rfl, rfl⟩
theorem TbIs.o {w : World} {lo hi b : Nat} {l : Fns} (h : TbIs w lo hi b l) : TbO w lo hi (some ⟨b, 0, none⟩) l := Or.inr ⟨b, rfl, h⟩
theorem TbO.below {w w' : World} {lo hi : Nat} {p : Option Addr} {l : Fns} (h : TbO w lo hi p l) (hb : Below hi w w') : TbO w' lo hi p l := h.imp id fun ⟨b, e, h⟩ => ⟨b, e, h.below hb⟩
theorem TbO.drewN {w : World} {lo hi : Nat} {p : Option Addr} {l : Fns} (h : TbO w lo hi p l) (q : Nat) : TbO (w.drewN q) lo hi p l := h.imp id fun ⟨b, e, h⟩ => ⟨b, e, h.drewN q⟩

theorem code_flen {w : World} {lo hi : Nat} {p : Option Addr} {l : Fns} (h : TbO w lo hi p l) :
    Calls Tryz.prog 85 #[.pointer p] w fun e w' => e = .returned (.int .i64 (l.length : Nat)) ∧ w = w' := by
  rcases h with ⟨rfl, rfl⟩ | ⟨b, rfl, h1, h2, A, n, c, ys, h3, h4, rfl, h6, _⟩
  · go_enter Tryz.func85, Tryz.ntmps85
    go_wp2
    go_ret
    exact ⟨rfl, rfl⟩
  · have hl := h4.len
    rw [vals_length, hl]
    clear h4 hl
    go_enter Tryz.func85, Tryz.ntmps85
    go_wp2
    go_ret
    exact ⟨rfl, rfl⟩

theorem code_fat_no {w : World} {lo hi : Nat} {p : Option Addr} {l : Fns} (h : TbO w lo hi p l) (hhi : hi ≤ w.heap.size) (f : Int) (hf : f < 0 ∨ (l.length : Int) ≤ f) :
    Calls Tryz.prog 54 #[.pointer p, .int .i64 f] w fun e w' => e = .returned (.tuple #[.agg #[.int .i64 0, .slice none 0 0], .bool false]) ∧ Below w.heap.size w w' := by
  have cl := fun W (hb : Below w.heap.size w W) => code_flen (h.below (hb.mono hhi))
  have HC := hidb cl
  generalize l.length = k at *
  clear h cl
  by_cases h0 : f < 0
  · clear hf
    go_enter Tryz.func54, Tryz.ntmps54
    go_wp2
    exact bodyPost_ret (v := .tuple #[.agg #[.int .i64 0, .slice none 0 0], .bool false]) (by simp [results, Tryz.results54, go_sem]) rfl ⟨rfl, ((Below.refl _ _).alloc (Nat.le_refl _) _)⟩
  · have h1 : (k : Int) ≤ f := by omega
    have h2 : 0 ≤ f := by omega
    clear hf
    go_enter Tryz.func54, Tryz.ntmps54
    go_wp2_with (go_at_call 85; (with_reducible refine (HC.out _ ((Below.refl _ _).alloc (Nat.le_refl _) _)).mono ?_); rintro e w' ⟨rfl, rfl⟩)
    exact bodyPost_ret (v := .tuple #[.agg #[.int .i64 0, .slice none 0 0], .bool false]) (by simp [results, Tryz.results54, go_sem]) rfl ⟨rfl, ((Below.refl _ _).alloc (Nat.le_refl _) _)⟩
theorem code_fat_yes {w : World} {lo hi : Nat} {p : Option Addr} {l : Fns} (h : TbO w lo hi p l) (hhi : hi ≤ w.heap.size) (f : Int) (hf : ¬ (f < 0 ∨ (l.length : Int) ≤ f)) :
    Calls Tryz.prog 54 #[.pointer p, .int .i64 f] w fun e w' => ∃ y : FnV, e = .returned (.tuple #[.agg #[.int .i64 y.sz, .slice y.A y.n y.c], .bool true]) ∧ l.getD f.toNat (0, []) = (y.sz, y.ws) ∧ FvOk w lo hi y ∧ y.n ≤ 64 ∧ Below w.heap.size w w' := by
  have cl := fun W (hb : Below w.heap.size w W) => code_flen (h.below (hb.mono hhi))
  have HC := hidb cl
  have hlen : f.toNat < l.length := by omega
  rcases h with ⟨rfl, rfl⟩ | ⟨b, rfl, h1, h2, A, n, c, ys, h3, h4, rfl, h6, h7⟩
  · simp at hlen
  · rw [vals_length, h4.len] at hf hlen HC
    obtain ⟨b2, off, y, rfl, hb2, hy, hc0, hc1, hok⟩ := h4.at_ hlen
    have P : Hid (∀ w', Below w.heap.size w w' → ∃ z : FnV, Ending.returned (.tuple #[.agg #[.int .i64 y.sz, .slice y.A y.n y.c], .bool true]) = Ending.returned (.tuple #[.agg #[.int .i64 z.sz, .slice z.A z.n z.c], .bool true]) ∧ (vals ys).getD f.toNat (0, []) = (z.sz, z.ws) ∧ FvOk w lo hi z ∧ z.n ≤ 64 ∧ Below w.heap.size w w') :=
      hidb (fun w' hb => ⟨y, rfl, getD_at _ _ _ _ (vals_at hy), hok, h7 y (List.mem_of_getElem? hy), hb⟩)
    have f0 : ¬ f < 0 := by omega
    have f1 : f < (n : Int) := by omega
    have f2 : 0 ≤ f := by omega
    have hbl : b < w.heap.size := by omega
    have hb2l : b2 < w.heap.size := by omega
    clear cl hf h1 h2 h4 hy hok h7 hlen hb2
    go_enter Tryz.func54, Tryz.ntmps54
    go_wp2_with (go_at_call 85; (with_reducible refine (HC.out _ ((Below.refl _ _).alloc (Nat.le_refl _) _)).mono ?_); rintro e w' ⟨rfl, rfl⟩)
    exact bodyPost_ret (v := .tuple #[.agg #[.int .i64 y.sz, .slice y.A y.n y.c], .bool true]) (by simp [results, Tryz.results54, go_sem]) rfl (P.out _ ((Below.refl _ _).alloc (Nat.le_refl _) _))

theorem code_fsize {w : World} {lo hi : Nat} {p : Option Addr} {l : Fns} (h : TbO w lo hi p l) (hhi : hi ≤ w.heap.size) (f : Int) :
    Calls Tryz.prog 47 #[.pointer p, .int .i64 f] w fun e w' => e = .returned (.int .i64 (fSize l f)) ∧ Below w.heap.size w w' := by
  by_cases hf : f < 0 ∨ (l.length : Int) ≤ f
  · have ca := code_fat_no h hhi f hf
    have E : fSize l f = -1 := by unfold fSize; rw [if_pos hf]
    rw [E]
    clear h hf E
    go_enter Tryz.func47, Tryz.ntmps47
    go_wp2_with (go_at_call 54; (with_reducible refine ca.mono ?_); rintro e w1 ⟨rfl, hb1⟩)
    go_ret
    exact ⟨rfl, belF_al hb1 _⟩
  · have ca := code_fat_yes h hhi f hf
    have E : fSize l f = (l.getD f.toNat (0, [])).1 := by unfold fSize; rw [if_neg hf]
    rw [E]
    have HX : ∃ x, l.getD f.toNat (0, []) = x := ⟨_, rfl⟩
    obtain ⟨x, hx⟩ := HX
    rw [hx] at ca ⊢
    clear h hf E hx
    go_enter Tryz.func47, Tryz.ntmps47
    go_wp2_with (go_at_call 54; (with_reducible refine ca.mono ?_); rintro e w1 ⟨y, rfl, hy, hok, hyn, hb1⟩; have HY := hidb hy; clear hy)
    go_ret
    exact ⟨by rw [HY.out]; rfl, belF_al hb1 _⟩
def fWords (l : Fns) (f : Int) : Int := if fSize l f < 0 then -1 else fSize l f + 2
theorem code_fwordsT {w : World} {lo hi : Nat} {p : Option Addr} {l : Fns} (h : TbO w lo hi p l) (hhi : hi ≤ w.heap.size) (f : Int) (hl : ∀ x ∈ l, 0 ≤ x.1 ∧ x.1 ≤ 1000) :
    Calls Tryz.prog 24 #[.pointer p, .int .i64 f] w fun e w' => e = .returned (.int .i64 (fWords l f)) ∧ Below w.heap.size w w' := by
  by_cases hf : f < 0 ∨ (l.length : Int) ≤ f
  · have ca := code_fat_no h hhi f hf
    have E : fWords l f = -1 := by unfold fWords fSize; rw [if_pos hf, if_pos (by omega)]
    rw [E]
    clear h hf E hl
    go_enter Tryz.func24, Tryz.ntmps24
    go_wp2_with (go_at_call 54; (with_reducible refine ca.mono ?_); rintro e w1 ⟨rfl, hb1⟩)
    go_ret
    exact ⟨rfl, belF_al hb1 _⟩
  · have ca := code_fat_yes h hhi f hf
    obtain ⟨x, hx⟩ : ∃ x, l.getD f.toNat (0, []) = x := ⟨_, rfl⟩
    have hxr : 0 ≤ x.1 ∧ x.1 ≤ 1000 := by
      rw [← hx, List.getD_eq_getElem?_getD, List.getElem?_eq_getElem (by omega)]
      exact hl _ (List.getElem_mem _)
    have E : fWords l f = x.1 + 2 := by unfold fWords fSize; rw [if_neg hf, hx, if_neg (by omega)]
    rw [E]
    rw [hx] at ca
    have cw := fun (y : FnV) W (h0 : 0 ≤ y.sz) (h1 : y.sz ≤ 1000) => code_fwords y W h0 h1
    clear h hf E hx hl
    go_enter Tryz.func24, Tryz.ntmps24
    go_wp2_with (first
      | (go_at_call 54; (with_reducible refine ca.mono ?_); rintro e w1 ⟨y, rfl, hy, hok, hyn, hb1⟩; rw [hy] at hxr; have HY := hidb hy; clear hy)
      | (go_at_call 55; (with_reducible refine (cw y _ hxr.1 hxr.2).mono ?_); rintro e w2 ⟨rfl, hb2⟩))
    go_ret
    exact ⟨by rw [HY.out]; rfl, (belF_al hb1 _).trans (hb2.mono (by have := hb1.size; simp; omega))⟩

theorem code_fptr {w : World} {lo hi : Nat} {p : Option Addr} {l : Fns} (h : TbO w lo hi p l) (hhi : hi ≤ w.heap.size) (f slot : Int) (hs : in64 slot) :
    Calls Tryz.prog 81 #[.pointer p, .int .i64 f, .int .i64 slot] w fun e w' => e = .returned (.bool (fPtr l f slot)) ∧ Below w.heap.size w w' := by
  by_cases hf : f < 0 ∨ (l.length : Int) ≤ f
  · have ca := code_fat_no h hhi f hf
    have E : fPtr l f slot = false := by unfold fPtr; rw [if_pos hf]
    rw [E]
    clear h hf E
    go_enter Tryz.func81, Tryz.ntmps81
    go_wp2_with (go_at_call 54; (with_reducible refine ca.mono ?_); rintro e w1 ⟨rfl, hb1⟩)
    go_ret
    exact ⟨rfl, belF_al hb1 _⟩
  · have ca := code_fat_yes h hhi f hf
    have E : fPtr l f slot = bHas (l.getD f.toNat (0, [])).2 slot := by unfold fPtr; rw [if_neg hf]
    rw [E]
    obtain ⟨x, hx⟩ : ∃ x, l.getD f.toNat (0, []) = x := ⟨_, rfl⟩
    rw [hx] at ca ⊢
    have CB : Hid (∀ (y : FnV) w1, FvOk w lo hi y → Below w.heap.size w w1 → x = (y.sz, y.ws) → Calls Tryz.prog 96 #[.slice y.A y.n y.c, .slice (some ⟨w1.heap.size + 1, 0, none⟩) 1 1] ((w1.alloc (.cells #[.int .i64 y.sz, .slice y.A y.n y.c] 56)).alloc (.cells #[.int .i64 slot] 3)) fun e w' => e = .returned (.bool (bHas x.2 slot)) ∧ Below w.heap.size w w') := hidb (fun y w1 hok hb1 e => by
      subst e
      have hb := belF_al hb1 (.cells #[.int .i64 y.sz, .slice y.A y.n y.c] 56)
      have hWz : w1.heap.size + 1 = (w1.alloc (.cells #[.int .i64 y.sz, .slice y.A y.n y.c] 56)).heap.size := by simp
      rw [hWz]
      generalize w1.alloc (.cells #[.int .i64 y.sz, .slice y.A y.n y.c] 56) = W at hb hWz ⊢
      have hb2 := belF_al hb (.cells #[.int .i64 slot] 3)
      have hsl : Sl (W.alloc (.cells #[.int .i64 slot] 3)) (W.alloc (.cells #[.int .i64 slot] 3)).heap.size (some ⟨W.heap.size, 0, none⟩) 1 ([slot].map iv) :=
        Sl.of_own (World.ownsRow_lit (base := W.heap.size) (e := 3) (size := 1) W #[.int .i64 slot] 1 (Nat.le_refl _) (by unfold maxLen; omega) (by simp))
      refine (code_bHas y.A (some ⟨W.heap.size, 0, none⟩) y.n y.c 1 1 y.ws [slot] _ ((hok.sl.more hhi |>.below hb2).more hb2.size) hok.small hok.wd hsl (by omega) (fun z hz => by rw [List.mem_singleton.1 hz]; exact hs)).mono ?_
      rintro e w' ⟨rfl, rfl⟩
      exact ⟨by simp, belF_al hb2 _⟩)
    have HB0 := hidb hhi
    clear h hf E hx hhi
    go_enter Tryz.func81, Tryz.ntmps81
    go_wp2_with (first
      | (go_at_call 54; (with_reducible refine ca.mono ?_); rintro e w1 ⟨y, rfl, hy, hok, hyn, hb1⟩; have HY := hidb hy; have HB1 := hidb hb1; clear hy hb1)
      | (go_at_call 96; (with_reducible refine (CB.out y _ hok HB1.out HY.out).mono ?_); rintro e w2 ⟨rfl, hb2⟩))
    go_ret
    exact ⟨rfl, hb2⟩

end Go.Proofs.YtdcnpaodcjfdbaaGreatDoor

/- What Fns of layer 13 (fns) returns: the functions, in rows of their own. -/
namespace Go.Proofs.YtdcnpaodcjfdbaaGreatDoor
open Go.RowKit
set_option linter.unusedVariables false

theorem info_fn : (Tryz.prog.info? 53).map (fun i => (i.zero, i.size, i.bytes)) = some (some (.agg #[.int .i64 0, .slice none 0 0]), 2, 32) := by kernel_rfl
/-- A row of functions that a call makes. -/
structure RowF (w wr : World) (v : Value) (ys : List FnV) : Prop where
  bel : Below w.heap.size w wr
  own : wr.ownsRow w.heap.size 53 2 v ys.length (cellsAll fcells ys)
  fns : ∀ y ∈ ys, wr.ownsRow w.heap.size 32 1 (.slice y.A y.n y.c) y.n (y.ws.map wv) ∧ Wd y.ws ∧ in64 y.sz
section
variable {w wr X w6 : World} {v : Value} {ys : List FnV} {y : FnV}
theorem RowF.below (h : RowF w wr v ys) (hb : Below wr.heap.size wr X) : RowF w X v ys :=
  ⟨h.bel.trans (hb.mono h.bel.size), own_same h.own fun k hk => hb.block k (h.own.lt k hk).2, fun y hy => ⟨own_same (h.fns y hy).1 fun k hk => hb.block k ((h.fns y hy).1.lt k hk).2, (h.fns y hy).2⟩⟩
theorem RowF.aside (h : RowF w X v ys) {base n s : Nat} {u : Value} {xs : List Value} (hu : X.ownsRow base 32 s u n xs) : ∀ k, v.ownBlock = some k → u.ownBlock ≠ some k := fun k hk e => by
  obtain ⟨c1, h1⟩ := own_type h.own k hk
  obtain ⟨c2, h2⟩ := own_type hu k e
  rw [h1] at h2
  injection h2 with h2
  injection h2 with _ h2 _
  revert h2; decide
theorem RowF.push (h : RowF w X v ys) {A6 : Option Addr} {c6 : Nat} (hy : X.ownsRow w.heap.size 32 1 (.slice y.A y.n y.c) y.n (y.ws.map wv) ∧ Wd y.ws ∧ in64 y.sz)
    (ho : w6.ownsRow w.heap.size 53 2 (.slice A6 (ys.length + 1) c6) (ys.length + 1) (cellsAll fcells ys ++ fcells y)) (hg : X.grownBy w6 v.ownBlock) : RowF w w6 (.slice A6 (ys.length + 1) c6) (ys ++ [y]) := by
  refine ⟨h.bel.grown hg h.bel.size (fun k hk => (h.own.lt k hk).1), by rw [List.length_append, cellsAll_append, cellsAll_one]; exact ho, fun z hz => ?_⟩
  have hz' : X.ownsRow w.heap.size 32 1 (.slice z.A z.n z.c) z.n (z.ws.map wv) ∧ Wd z.ws ∧ in64 z.sz := by
    rcases List.mem_append.1 hz with hz | hz
    · exact h.fns z hz
    · rw [List.mem_singleton.1 hz]; exact hy
  exact ⟨own_grown hz'.1 hg (h.aside hz'.1), hz'.2⟩
theorem RowF.row {A : Option Addr} {n c : Nat} (h : RowF w wr (.slice A n c) ys) (hn : ys.length = n) : FnRow wr w.heap.size wr.heap.size A n ys := by
  have ho := h.own
  rw [hn] at ho
  refine ⟨RowOf.of_own fcells_len ho hn, fun h0 a e => ?_, fun y hy => ?_⟩
  · subst e
    rcases ho.2 with ⟨_, h1⟩ | ⟨g, cap, cur, e1, e2, _⟩
    · omega
    · injection e1 with e1
      injection e1 with e1
      subst e1; exact e2
  · obtain ⟨h1, h2, h3⟩ := h.fns y hy
    obtain ⟨q1, q2, q3⟩ := own_caps h1
    refine ⟨Sl.of_own h1, fun h0 a e => ?_, q1, q2, q3, h2, h3⟩
    rw [e] at h1
    rcases h1.2 with ⟨_, h1⟩ | ⟨g, cap, cur, e1, e2, _⟩
    · omega
    · injection e1 with e1
      injection e1 with e1
      subst e1; exact e2
end
/-- The functions, in rows of the call's own. -/
def FnsRet (w : World) (l : Fns) (e : Ending) (w' : World) : Prop := ∃ A c ys, e = .returned (.slice A l.length c) ∧ RowF w w' (.slice A l.length c) ys ∧ vals ys = l

end Go.Proofs.YtdcnpaodcjfdbaaGreatDoor

/- What the document's own answers to layer 13 (fns) return. -/
namespace Go.Proofs.YtdcnpaodcjfdbaaGreatDoor
open Go.RowKit
set_option linter.unusedVariables false

theorem ref_fgreat (A : Option Addr) (n c : Nat) (ys : List FnV) (lo hi : Nat) (w : World) (hs : FnRow w lo hi A n ys) (hn : n ≤ 9223372036854775807) :
    Calls Tryz.prog 5 #[.slice A n c] w fun e w' => e = .returned (.bool (fGreat (vals ys))) ∧ w = w' := by
  have hl := hs.len
  by_cases hbig : 120 < n
  · have E : fGreat (vals ys) = true := by unfold fGreat; rw [vals_length, hl, decide_eq_true hbig]; rfl
    rw [E]
    clear hs E hl
    go_enter Tryz.func5, Tryz.ntmps5
    go_wp2
    go_ret
    exact ⟨rfl, rfl⟩
  · have E0 : fGreat (vals ys) = (vals ys).any fun f => decide (40 < f.2.length) := by unfold fGreat; rw [vals_length, hl, decide_eq_false hbig]; rfl
    have HE := hidb E0
    have HS := hidb hs
    have HL := hidb hl
    clear hs E0 hl
    go_enter Tryz.func5, Tryz.ntmps5
    go_wp2
    go_loop [9] (fun k => ∃ j : Nat, j ≤ n ∧ Hid (∀ i y, i < j → ys[i]? = some y → ¬ 40 < y.ws.length) ∧ k = .int .i64 j) (fun k => (n - intOf k).toNat)
    case atStart => exact ⟨0, by omega, hidb (fun i y h => absurd h (Nat.not_lt_zero _)), rfl⟩
    case round =>
      obtain ⟨j, hj, HA, rfl⟩ := hrel
      by_cases hlt : j < n
      · obtain ⟨b, off, y, rfl, _, hy, hc0, hc1, hok⟩ := HS.out.at_ hlt
        have HY := hidb hy
        have hyl := hok.len
        have hsm := hok.small
        have HYL := hidb hyl
        clear hy hok hyl
        by_cases hb : 40 < y.n
        · have HF : Hid (fGreat (vals ys) = true) := hidb (by
            rw [HE.out, List.any_eq_true]
            exact ⟨_, List.mem_of_getElem? (vals_at HY.out), decide_eq_true (by show 40 < y.ws.length; rw [HYL.out]; exact hb)⟩)
          go_wp2
          go_ret
          exact ⟨by rw [HF.out]; rfl, rfl⟩
        · go_wp2
          go_round
          case rel =>
            refine ⟨j + 1, by omega, hidb (fun i z hi hz => ?_), by go_num⟩
            by_cases e : i = j
            · subst e
              rw [HY.out] at hz
              obtain rfl := Option.some.inj hz
              rw [HYL.out]; exact hb
            · exact HA.out i z (by omega) hz
          case measure => simp [intOf]; omega
      · have HF : Hid (fGreat (vals ys) = false) := hidb (by
          rw [HE.out, List.any_eq_false]
          intro f hf
          obtain ⟨y, hy, rfl⟩ := List.mem_map.1 hf
          obtain ⟨i, hi, rfl⟩ := List.getElem_of_mem hy
          have := HA.out i _ (by have := HL.out; omega) (List.getElem?_eq_getElem hi)
          exact fun c => this (of_decide_eq_true c))
        go_wp2
        go_ret
        exact ⟨by rw [HF.out]; rfl, rfl⟩

end Go.Proofs.YtdcnpaodcjfdbaaGreatDoor

/- The walks of layer 13's statements: what a law's state is, each call's contract, the document's example. -/
namespace Go.Proofs.YtdcnpaodcjfdbaaGreatDoor
open Go.RowKit
set_option linter.unusedVariables false

/-- A law's world: what was there is as it was; a table that the law has made. -/
def S13 (w W : World) (p : Option Addr) (l : Fns) : Prop := Below w.heap.size w W ∧ ∃ lo hi, TbO W lo hi p l ∧ hi ≤ W.heap.size ∧ w.heap.size ≤ lo
theorem S13.start (w : World) : S13 w w none [] := ⟨Below.refl _ _, _, _, TbO.nil_ w w.heap.size w.heap.size, Nat.le_refl _, Nat.le_refl _⟩
theorem S13.step {w W w' : World} {p : Option Addr} {l : Fns} (h : S13 w W p l) (hb : Below W.heap.size W w') : S13 w w' p l := by
  obtain ⟨h1, lo, hi, h2, h3, h4⟩ := h
  exact ⟨h1.trans (hb.mono h1.size), lo, hi, h2.below (hb.mono h3), Nat.le_trans h3 hb.size, h4⟩
theorem S13.drewN {w W : World} {p : Option Addr} {l : Fns} (h : S13 w W p l) (q : Nat) : S13 w (W.drewN q) p l := h.step (belowN (Below.refl _ _) q)
theorem S13.alloc {w W : World} {p : Option Addr} {l : Fns} (h : S13 w W p l) (o : Obj) : S13 w (W.alloc o) p l := h.step (belF_al (Below.refl _ _) o)
theorem S13.bel {w W : World} {p : Option Addr} {l : Fns} (h : S13 w W p l) : Below w.heap.size w W := h.1
/-- What a law's rows are: functions that came in, not too great. -/
structure In13 (w : World) (A : Option Addr) (n : Nat) (ys : List FnV) : Prop where
  row : FnRow w 0 w.heap.size A n ys
  few : n ≤ 120
  small : ∀ y ∈ ys, y.n ≤ 40
section
variable {w : World} {A : Option Addr} {n c : Nat} {ys : List FnV}
theorem In13.at_ (h : In13 w A n ys) {W : World} (hb : Below w.heap.size w W) : FnRow W 0 W.heap.size A n ys := (h.row.below hb).more (Nat.le_refl _) hb.size
theorem In13.s1 (h : In13 w A n ys) : ∀ y ∈ ys, y.n ≤ 17592186044416 := fun y hy => by have := h.small y hy; omega
theorem t_fMay (h : In13 w A n ys) (W : World) (p : Option Addr) (l : Fns) (s : Hid (S13 w W p l)) (r : Bool) (hr : fAll (vals ys) = r) :
    Calls Tryz.prog 16 #[.slice A n c] W fun e w' => e = .returned (.bool r) ∧ Hid (S13 w w' p l) := by
  rw [← hr]
  exact (code_fMay A n c ys 0 W (h.at_ s.out.bel) (by have := h.few; omega) h.s1).mono fun e w' ⟨h1, h2⟩ => ⟨h1, hidb (s.out.step h2)⟩
theorem t_fNew (h : In13 w A n ys) (ht : TabDB w) (W : World) (p : Option Addr) (l : Fns) (s : Hid (S13 w W p l)) (hr : fTab (vals ys) = true) :
    Calls Tryz.prog 4 #[.slice A n c] W fun e w' => ∃ b, e = .returned (.tuple #[.pointer (some ⟨b, 0, none⟩), .int .i64 0]) ∧ Hid (S13 w w' (some ⟨b, 0, none⟩) (fOwns (vals ys))) :=
  (code_fNew A n c ys 0 W (h.at_ s.out.bel) (by have := h.few; omega) h.s1 (TabDB.below ht s.out.bel) hr).mono fun e w' ⟨b, h1, h2, h3⟩ => ⟨b, h1, hidb ⟨s.out.bel.trans (h3.mono s.out.bel.size), _, _, h2.o, Nat.le_refl _, s.out.bel.size⟩⟩
theorem t_fNew_no (h : In13 w A n ys) (W : World) (p : Option Addr) (l : Fns) (s : Hid (S13 w W p l)) (hr : fTab (vals ys) = false) :
    Calls Tryz.prog 4 #[.slice A n c] W fun e w' => e = .returned (.tuple #[.pointer none, .int .i64 1]) ∧ Hid (S13 w w' none []) :=
  (code_fNew_no A n c ys 0 W (h.at_ s.out.bel) (by have := h.few; omega) h.s1 hr).mono fun e w' ⟨h1, h3⟩ => ⟨h1, hidb ⟨s.out.bel.trans (h3.mono s.out.bel.size), _, _, TbO.nil_ w' w.heap.size w.heap.size, Nat.le_trans s.out.bel.size h3.size, Nat.le_refl _⟩⟩
end
section
variable {w : World} {p : Option Addr} {l : Fns}
theorem t_flen (W : World) (s : Hid (S13 w W p l)) (k : Nat) (hk : l.length = k) : Calls Tryz.prog 85 #[.pointer p] W fun e w' => e = .returned (.int .i64 (k : Int)) ∧ Hid (S13 w w' p l) := by
  obtain ⟨_, lo, hi, h2, _⟩ := s.out
  rw [← hk]
  exact (code_flen h2).mono fun e w' ⟨h1, h3⟩ => ⟨h1, by rw [← h3]; exact s⟩
theorem t_fsize (W : World) (s : Hid (S13 w W p l)) (f r : Int) (hr : fSize l f = r) : Calls Tryz.prog 47 #[.pointer p, .int .i64 f] W fun e w' => e = .returned (.int .i64 r) ∧ Hid (S13 w w' p l) := by
  obtain ⟨_, lo, hi, h2, h3, _⟩ := s.out
  rw [← hr]
  exact (code_fsize h2 h3 f).mono fun e w' ⟨h1, h3⟩ => ⟨h1, hidb (s.out.step h3)⟩
theorem t_fwords (W : World) (s : Hid (S13 w W p l)) (f r : Int) (hl : ∀ x ∈ l, 0 ≤ x.1 ∧ x.1 ≤ 1000) (hr : fWords l f = r) : Calls Tryz.prog 24 #[.pointer p, .int .i64 f] W fun e w' => e = .returned (.int .i64 r) ∧ Hid (S13 w w' p l) := by
  obtain ⟨_, lo, hi, h2, h3, _⟩ := s.out
  rw [← hr]
  exact (code_fwordsT h2 h3 f hl).mono fun e w' ⟨h1, h3⟩ => ⟨h1, hidb (s.out.step h3)⟩
theorem t_fptr (W : World) (s : Hid (S13 w W p l)) (f i : Int) (hi : in64 i) (r : Bool) (hr : fPtr l f i = r) : Calls Tryz.prog 81 #[.pointer p, .int .i64 f, .int .i64 i] W fun e w' => e = .returned (.bool r) ∧ Hid (S13 w w' p l) := by
  obtain ⟨_, lo, hi, h2, h3, _⟩ := s.out
  rw [← hr]
  exact (code_fptr h2 h3 f i ‹in64 i›).mono fun e w' ⟨h1, h3⟩ => ⟨h1, hidb (s.out.step h3)⟩
end

theorem aw13_tab : fTab [((3 : Int), [2])] = true := by decide
theorem aw13_own : fOwns [((3 : Int), [2])] = [(3, [2])] := by decide
theorem aw13_1 : fPtr [((3 : Int), [2])] 0 1 = true := by decide
theorem aw13_0 : fPtr [((3 : Int), [2])] 0 0 = false := by decide
theorem aw13_w : fWords [((3 : Int), [2])] 0 = 5 := by decide
end Go.Proofs.YtdcnpaodcjfdbaaGreatDoor

/- Layer 13's statement FnsIs. -/
namespace Go.Proofs.YtdcnpaodcjfdbaaGreatDoor
open Go.RowKit
set_option linter.unusedVariables false

theorem great_in {w : World} {A : Option Addr} {n : Nat} {ys : List FnV} (hs : FnRow w 0 w.heap.size A n ys) (h : fGreat (vals ys) = false) : In13 w A n ys := by
  unfold fGreat at h
  rw [Bool.or_eq_false_iff, decide_eq_false_iff_not, vals_length, hs.len, List.any_eq_false] at h
  refine ⟨hs, by omega, fun y hy => ?_⟩
  have := h.2 _ (List.mem_map.2 ⟨y, hy, rfl⟩)
  have hl := (hs.fns y hy).len
  have h3 : ¬ 40 < y.ws.length := fun c => this (decide_eq_true c)
  omega
theorem In13.wds {w : World} {A : Option Addr} {n : Nat} {ys : List FnV} (h : In13 w A n ys) : ∀ f ∈ vals ys, Wd f.2 := h.row.wds
theorem In13.cells {w : World} {A : Option Addr} {n : Nat} {ys : List FnV} (h : In13 w A n ys) {j : Nat} (hj : j < n) : ∃ b off y, A = some ⟨b, off, none⟩ ∧ ys[j]? = some y ∧ in64 y.sz ∧ Hid (∀ W, Below w.heap.size w W → W.cell? ⟨b, off + j * 2, none⟩ = some (.int .i64 y.sz) ∧ W.cell? ⟨b, off + j * 2 + 1, none⟩ = some (.slice y.A y.n y.c)) := by
  obtain ⟨b, off, y, e, hb, hy, hc0, hc1, hok⟩ := h.row.at_ hj
  refine ⟨b, off, y, e, hy, hok.inn, hidb (fun W hW => ⟨?_, ?_⟩)⟩
  · rw [hW.cell (p := ⟨b, off + j * 2, none⟩) hb]; exact hc0
  · rw [hW.cell (p := ⟨b, off + j * 2 + 1, none⟩) hb]; exact hc1
theorem RowF.fit {w w' : World} {A : Option Addr} {n c : Nat} {zs : List FnV} {l : Fns} (h : RowF w w' (.slice A n c) zs) (hn : zs.length = n) (hl : ∀ f ∈ l, f.2.length ≤ 64) (e : vals zs = l) : FnRow w' w.heap.size w'.heap.size A n zs ∧ ∀ y ∈ zs, y.n ≤ 17592186044416 := by
  have hr := h.row hn
  refine ⟨hr, fun y hy => ?_⟩
  have := hl _ (by rw [← e]; exact List.mem_map.2 ⟨y, hy, rfl⟩)
  have hl := (hr.fns y hy).len
  simp only [FnV.v] at this
  omega
theorem fOwns_short (l : Fns) : ∀ f ∈ fOwns l, f.2.length ≤ 64 := fun f hf => by
  obtain ⟨x, _, rfl⟩ := List.mem_map.1 hf
  exact fOwn_length _ _
theorem fOwns_twice {l : Fns} (h : fAll l = true) : fOwns (fOwns l) = fOwns l := by
  unfold fOwns
  rw [List.map_map]
  refine List.map_congr_left fun f hf => ?_
  obtain ⟨i, hi, rfl⟩ := List.getElem_of_mem hf
  have := fAll_at h i _ (List.getElem?_eq_getElem hi)
  simp [fOwn_twice this]
end Go.Proofs.YtdcnpaodcjfdbaaGreatDoor

/- Layer 13's statement FnsTells. -/
namespace Go.Proofs.YtdcnpaodcjfdbaaGreatDoor
open Go.RowKit
set_option linter.unusedVariables false

theorem ref_fsize (A : Option Addr) (n c : Nat) (ys : List FnV) (lo hi : Nat) (w : World) (f : Int) (hs : FnRow w lo hi A n ys) (hn : n ≤ 1000) :
    Calls Tryz.prog 20 #[.slice A n c, .int .i64 f] w fun e w' => e = .returned (.int .i64 (fSize (vals ys) f)) ∧ w = w' := by
  have hl := hs.len
  by_cases hf : f < 0 ∨ (n : Int) ≤ f
  · have E : fSize (vals ys) f = -1 := by unfold fSize; rw [vals_length, hl, if_pos hf]
    rw [E]
    clear hs E hl
    by_cases h0 : f < 0
    · clear hf
      go_enter Tryz.func20, Tryz.ntmps20
      go_wp2
      go_ret
      exact ⟨rfl, rfl⟩
    · have h1 : (n : Int) ≤ f := by omega
      clear hf
      go_enter Tryz.func20, Tryz.ntmps20
      go_wp2
      go_ret
      exact ⟨rfl, rfl⟩
  · obtain ⟨b, off, y, rfl, _, hy, hc0, hc1, hok⟩ := hs.at_ (j := f.toNat) (by omega)
    have E : fSize (vals ys) f = y.sz := by unfold fSize; rw [vals_length, hl, if_neg hf, getD_at _ _ _ _ (vals_at hy)]
    rw [E]
    have f0 : ¬ f < 0 := by omega
    have f1 : f < (n : Int) := by omega
    have f2 : 0 ≤ f := by omega
    clear hs E hl hf hy hok
    go_enter Tryz.func20, Tryz.ntmps20
    go_wp2
    go_ret
    exact ⟨rfl, rfl⟩
theorem ref_fwordsR (A : Option Addr) (n c : Nat) (ys : List FnV) (lo hi : Nat) (w : World) (f : Int) (hs : FnRow w lo hi A n ys) (hn : n ≤ 1000) (hr : fSize (vals ys) f ≤ 1000) (hr2 : -9223372036854775808 ≤ fSize (vals ys) f) :
    Calls Tryz.prog 22 #[.slice A n c, .int .i64 f] w fun e w' => e = .returned (.int .i64 (fWords (vals ys) f)) ∧ w = w' := by
  have cs := ref_fsize A n c ys lo hi w f hs hn
  unfold fWords
  generalize fSize (vals ys) f = z at *
  clear hs
  by_cases h0 : z < 0
  · rw [if_pos h0]
    go_enter Tryz.func22, Tryz.ntmps22
    go_wp2_with (go_at_call 20; (with_reducible refine cs.mono ?_); rintro e w' ⟨rfl, rfl⟩)
    go_ret
    exact ⟨rfl, rfl⟩
  · rw [if_neg h0]
    go_enter Tryz.func22, Tryz.ntmps22
    go_wp2_with (go_at_call 20; (with_reducible refine cs.mono ?_); rintro e w' ⟨rfl, rfl⟩)
    go_ret
    exact ⟨rfl, rfl⟩
theorem ref_fptrR (A : Option Addr) (n c : Nat) (ys : List FnV) (lo hi : Nat) (w : World) (f i : Int) (hs : FnRow w lo hi A n ys) (hn : n ≤ 1000) (hi' : in64 i) (h0 : ∀ x ∈ vals ys, 0 ≤ x.1) :
    Calls Tryz.prog 51 #[.slice A n c, .int .i64 f, .int .i64 i] w fun e w' => e = .returned (.bool (fPtr (vals ys) f i)) ∧ w = w' := by
  have cs := ref_fsize A n c ys lo hi w f hs hn
  have hl := hs.len
  by_cases hf : f < 0 ∨ (n : Int) ≤ f
  · have E : fPtr (vals ys) f i = false := by unfold fPtr; rw [vals_length, hl, if_pos hf]
    have E1 : fSize (vals ys) f = -1 := by unfold fSize; rw [vals_length, hl, if_pos hf]
    rw [E]
    rw [E1] at cs
    clear hs E E1 hl hf
    go_enter Tryz.func51, Tryz.ntmps51
    go_wp2_with (go_at_call 20; (with_reducible refine cs.mono ?_); rintro e w' ⟨rfl, rfl⟩)
    go_ret
    exact ⟨rfl, rfl⟩
  · obtain ⟨b, off, y, rfl, _, hy, hc0, hc1, hok⟩ := hs.at_ (j := f.toNat) (by omega)
    have E : fPtr (vals ys) f i = bHas y.ws i := by unfold fPtr; rw [vals_length, hl, if_neg hf, getD_at _ _ _ _ (vals_at hy)]
    have E1 : fSize (vals ys) f = y.sz := by unfold fSize; rw [vals_length, hl, if_neg hf, getD_at _ _ _ _ (vals_at hy)]
    have hz : 0 ≤ y.sz := h0 _ (List.mem_of_getElem? (vals_at hy))
    have cb := ref_bhas y.A y.n y.c y.ws i w hi hok.sl hok.small hok.wd hi'.1 hi'.2
    rw [E]
    rw [E1] at cs
    have f1 : f < (n : Int) := by omega
    have f2 : 0 ≤ f := by omega
    clear hs E hl hf hy hok E1
    go_enter Tryz.func51, Tryz.ntmps51
    go_wp2_with (first
      | (go_at_call 20; (with_reducible refine cs.mono ?_); rintro e w' ⟨rfl, rfl⟩)
      | (go_at_call 82; (with_reducible refine cb.mono ?_); rintro e w' ⟨rfl, rfl⟩))
    go_ret
    exact ⟨rfl, rfl⟩

/-- A state that holds on where nothing that was there is written. -/
structure Stab (w : World) (p : Option Addr) (l : Fns) (St : World → Prop) : Prop where
  get : ∀ W, St W → S13 w W p l
  step : ∀ W w', St W → Below W.heap.size W w' → St w'
theorem stab_self (w : World) (p : Option Addr) (l : Fns) : Stab w p l (fun W => S13 w W p l) := ⟨fun _ h => h, fun _ _ h hb => h.step hb⟩
def WithRow (w : World) (p : Option Addr) (l : Fns) (A : Option Addr) (L : List Int) (W : World) : Prop := S13 w W p l ∧ Sl W W.heap.size A L.length (L.map iv)
theorem stab_row (w : World) (p : Option Addr) (l : Fns) (A : Option Addr) (L : List Int) : Stab w p l (WithRow w p l A L) := ⟨fun _ h => h.1, fun _ _ h hb => ⟨h.1.step hb, (h.2.below hb).more hb.size⟩⟩
section
variable {w : World} {p : Option Addr} {l : Fns} {St : World → Prop}
theorem g_fsize (k : Stab w p l St) (W : World) (s : Hid (St W)) (f r : Int) (hr : fSize l f = r) : Calls Tryz.prog 47 #[.pointer p, .int .i64 f] W fun e w' => e = .returned (.int .i64 r) ∧ Hid (St w') := by
  obtain ⟨_, lo, hi, h2, h3, _⟩ := k.get _ s.out
  rw [← hr]
  exact (code_fsize h2 h3 f).mono fun e w' ⟨h1, h3⟩ => ⟨h1, hidb (k.step _ _ s.out h3)⟩
theorem g_fwords (k : Stab w p l St) (W : World) (s : Hid (St W)) (f r : Int) (hl : ∀ x ∈ l, 0 ≤ x.1 ∧ x.1 ≤ 1000) (hr : fWords l f = r) : Calls Tryz.prog 24 #[.pointer p, .int .i64 f] W fun e w' => e = .returned (.int .i64 r) ∧ Hid (St w') := by
  obtain ⟨_, lo, hi, h2, h3, _⟩ := k.get _ s.out
  rw [← hr]
  exact (code_fwordsT h2 h3 f hl).mono fun e w' ⟨h1, h3⟩ => ⟨h1, hidb (k.step _ _ s.out h3)⟩
theorem g_fptr (k : Stab w p l St) (W : World) (s : Hid (St W)) (f i : Int) (hi : in64 i) (r : Bool) (hr : fPtr l f i = r) : Calls Tryz.prog 81 #[.pointer p, .int .i64 f, .int .i64 i] W fun e w' => e = .returned (.bool r) ∧ Hid (St w') := by
  obtain ⟨_, lo, hi, h2, h3, _⟩ := k.get _ s.out
  rw [← hr]
  exact (code_fptr h2 h3 f i ‹in64 i›).mono fun e w' ⟨h1, h3⟩ => ⟨h1, hidb (k.step _ _ s.out h3)⟩
theorem g_rsize {A : Option Addr} {n c : Nat} {ys : List FnV} (k : Stab w p l St) (h : In13 w A n ys) (W : World) (s : Hid (St W)) (f r : Int) (hr : fSize (vals ys) f = r) : Calls Tryz.prog 20 #[.slice A n c, .int .i64 f] W fun e w' => e = .returned (.int .i64 r) ∧ Hid (St w') := by
  rw [← hr]
  exact (ref_fsize A n c ys _ _ W f (h.at_ (k.get _ s.out).bel) (by have := h.few; omega)).mono fun e w' ⟨h1, h2⟩ => ⟨h1, by rw [← h2]; exact s⟩
theorem g_rwords {A : Option Addr} {n c : Nat} {ys : List FnV} (k : Stab w p l St) (h : In13 w A n ys) (W : World) (s : Hid (St W)) (f r : Int) (h1 : fSize (vals ys) f ≤ 1000) (h2 : -9223372036854775808 ≤ fSize (vals ys) f) (hr : fWords (vals ys) f = r) : Calls Tryz.prog 22 #[.slice A n c, .int .i64 f] W fun e w' => e = .returned (.int .i64 r) ∧ Hid (St w') := by
  rw [← hr]
  exact (ref_fwordsR A n c ys _ _ W f (h.at_ (k.get _ s.out).bel) (by have := h.few; omega) h1 h2).mono fun e w' ⟨h1, h2⟩ => ⟨h1, by rw [← h2]; exact s⟩
theorem g_rptr {A : Option Addr} {n c : Nat} {ys : List FnV} (k : Stab w p l St) (h : In13 w A n ys) (W : World) (s : Hid (St W)) (f i : Int) (hi : in64 i) (h0 : ∀ x ∈ vals ys, 0 ≤ x.1) (r : Bool) (hr : fPtr (vals ys) f i = r) : Calls Tryz.prog 51 #[.slice A n c, .int .i64 f, .int .i64 i] W fun e w' => e = .returned (.bool r) ∧ Hid (St w') := by
  rw [← hr]
  exact (ref_fptrR A n c ys _ _ W f i (h.at_ (k.get _ s.out).bel) (by have := h.few; omega) hi h0).mono fun e w' ⟨h1, h2⟩ => ⟨h1, by rw [← h2]; exact s⟩
end
theorem fTab_sizes {l : Fns} (h : fTab l = true) : ∀ x ∈ l, 0 ≤ x.1 ∧ x.1 ≤ 1000 := fun x hx => by
  unfold fTab at h; rw [Bool.and_eq_true] at h
  obtain ⟨i, hi, rfl⟩ := List.getElem_of_mem hx
  exact fMay_size (fAll_at h.1 i _ (List.getElem?_eq_getElem hi))
theorem fOwns_sizes {l : Fns} (h : ∀ x ∈ l, 0 ≤ x.1 ∧ x.1 ≤ 1000) : ∀ x ∈ fOwns l, 0 ≤ x.1 ∧ x.1 ≤ 1000 := fun x hx => by
  obtain ⟨y, hy, rfl⟩ := List.mem_map.1 hx
  exact h y hy
theorem fSize_range {l : Fns} (h : ∀ x ∈ l, 0 ≤ x.1 ∧ x.1 ≤ 1000) (f : Int) : -1 ≤ fSize l f ∧ fSize l f ≤ 1000 := by
  unfold fSize
  split
  · omega
  · rw [List.getD_eq_getElem?_getD, List.getElem?_eq_getElem (by omega)]
    have := h _ (List.getElem_mem (l := l) (n := f.toNat) (by omega))
    simp only [Option.getD_some]
    omega
theorem fWords_owns (l : Fns) (f : Int) : fWords (fOwns l) f = fWords l f := by unfold fWords; rw [fSize_owns]

end Go.Proofs.YtdcnpaodcjfdbaaGreatDoor
