/- Several texts in one: SltMath, SltRef, SltFind, SltGet, SltPut, SltAll, SltAll2, SltCode, SltMay, SltPutC. -/
import Derived.Test.YtdcnpaodcjfdbaaGreatDoorWlkAll
import Derived.Laws.StructEq
/- Slots of frames (layer 16): plain functions. -/
namespace Go.Proofs.YtdcnpaodcjfdbaaGreatDoor
open Go.RowKit
set_option linter.unusedVariables false

/-- What a slot has. -/
structure VlV where
  kind : Nat
  bits : Nat
  depth : Int
  slot : Int
deriving DecidableEq
def vlC (v : VlV) : Value := .agg #[.int .u8 v.kind, .int .u64 v.bits, .int .i64 v.depth, .int .i64 v.slot]
def vl0 : VlV := ⟨0, 0, 0, 0⟩
/-- May a value be? -/
def vMay (v : VlV) : Bool := decide (v.kind ≤ 2 ∧ (v.kind = 1 ∨ v.bits = 0)) && (if v.kind < 2 then decide (v.depth = 0 ∧ v.slot = 0) else decide (0 ≤ v.depth ∧ 0 ≤ v.slot))
/-- How many slots a frame has. -/
def slSize (l : Fns) (x : FrV) : Int := if fSize l x.fn < 0 ∨ x.at_ < 0 ∨ 1099511627776 < x.at_ then 0 else fSize l x.fn
/-- The address of a slot; -1. -/
def slAddr (l : Fns) (L : List FrV) (d i : Int) : Int := if d < 0 ∨ (L.length : Int) ≤ d ∨ i < 0 ∨ slSize l (L.getD d.toNat fr0) ≤ i then -1 else (L.getD d.toNat fr0).at_ + 2 + i
/-- The slot that has an address, from a depth on. -/
def slFind (l : Fns) : Nat → List FrV → Int → Option (Nat × Nat)
  | _, [], _ => none
  | d, x :: r, a => if x.at_ + 2 ≤ a ∧ a < x.at_ + 2 + slSize l x then some (d, (a - (x.at_ + 2)).toNat) else slFind l (d + 1) r a
theorem slSize_range (l : Fns) (hl : ∀ x ∈ l, 0 ≤ x.1 ∧ x.1 ≤ 1000) (x : FrV) : 0 ≤ slSize l x ∧ slSize l x ≤ 1000 ∧ (0 < slSize l x → 0 ≤ x.at_ ∧ x.at_ ≤ 1099511627776 ∧ slSize l x = fSize l x.fn) := by
  unfold slSize
  have := fSize_range hl x.fn
  split <;> omega
theorem slSize_owns (l : Fns) (x : FrV) : slSize (fOwns l) x = slSize l x := by unfold slSize; rw [fSize_owns]
theorem slAddr_owns (l : Fns) (L : List FrV) (d i : Int) : slAddr (fOwns l) L d i = slAddr l L d i := by unfold slAddr; rw [slSize_owns]
theorem slFind_owns (l : Fns) (a : Int) : ∀ (L : List FrV) (d : Nat), slFind (fOwns l) d L a = slFind l d L a
  | [], _ => rfl
  | x :: r, d => by unfold slFind; rw [slSize_owns, slFind_owns l a r (d + 1)]
theorem slFind_at {l : Fns} {a : Int} {L : List FrV} {j : Nat} {x : FrV} (h : L[j]? = some x) (d : Nat) : slFind l d (L.drop j) a = if x.at_ + 2 ≤ a ∧ a < x.at_ + 2 + slSize l x then some (d, (a - (x.at_ + 2)).toNat) else slFind l (d + 1) (L.drop (j + 1)) a := by
  obtain ⟨hj, rfl⟩ := List.getElem?_eq_some_iff.1 h
  rw [List.drop_eq_getElem_cons hj]; rfl
/-- What is found is an address. -/
theorem slFind_addr {l : Fns} {a : Int} : ∀ (L : List FrV) (d0 : Nat) (d i : Nat), slFind l d0 L a = some (d, i) → d0 ≤ d ∧ d < d0 + L.length ∧ (i : Int) < slSize l (L.getD (d - d0) fr0) ∧ (L.getD (d - d0) fr0).at_ + 2 + (i : Int) = a
  | [], d0, d, i, h => by cases h
  | x :: r, d0, d, i, h => by
    unfold slFind at h
    by_cases hc : x.at_ + 2 ≤ a ∧ a < x.at_ + 2 + slSize l x
    · rw [if_pos hc] at h
      injection h with h
      injection h with h1 h2
      subst h1 h2
      simp only [Nat.sub_self, List.getD_cons_zero, List.length_cons]
      omega
    · rw [if_neg hc] at h
      have := slFind_addr r (d0 + 1) d i h
      obtain ⟨k, hk⟩ : ∃ k, d - d0 = k + 1 := ⟨d - d0 - 1, by omega⟩
      rw [hk, List.getD_cons_succ]
      rw [show d - (d0 + 1) = k by omega] at this
      simp only [List.length_cons]
      omega
end Go.Proofs.YtdcnpaodcjfdbaaGreatDoor

/- What the document's own functions of layer 16 (slots) return: Size, Address, Find, May. -/
namespace Go.Proofs.YtdcnpaodcjfdbaaGreatDoor
open Go.RowKit
set_option linter.unusedVariables false

section
variable {w : World} {A2 : Option Addr} {n2 c2 lo' hi' : Nat} {ys : List FnV}
end

theorem ref_slmay (v : VlV) (hk : v.kind < 256) (hb : v.bits < 18446744073709551616) (w : World) (r : Bool) (hr : vMay v = r) :
    Calls Tryz.prog 50 #[vlC v] w fun e w' => e = .returned (.bool r) ∧ Below w.heap.size w w' := by
  obtain ⟨k, b, d, i⟩ := v
  have hb0 := belF_al (Below.refl w.heap.size w) (.cells #[.int .u8 (k : Int), .int .u64 (b : Int), .int .i64 d, .int .i64 i] 34)
  unfold vMay at hr
  simp only at hr hk hb
  unfold vlC
  simp only
  have HB := hidb hb0
  clear hb0
  by_cases h1 : 2 < k
  · rw [decide_eq_false (by omega), Bool.false_and] at hr
    subst hr
    --@10
    go_enter Tryz.func50, Tryz.ntmps50
    go_wp2
    go_ret
    exact ⟨rfl, HB.out⟩
  have hk3 : k = 0 ∨ k = 1 ∨ k = 2 := by omega
  rcases hk3 with rfl | rfl | rfl
  · by_cases h2 : b = 0
    · subst h2
      rw [decide_eq_true (by omega), Bool.true_and, if_pos (by omega)] at hr
      by_cases h3 : d = 0
      · by_cases h4 : i = 0
        · rw [decide_eq_true ⟨h3, h4⟩] at hr
          subst h3 h4 hr
          --@11
          go_enter Tryz.func50, Tryz.ntmps50
          go_wp2
          go_ret
          exact ⟨rfl, HB.out⟩
        · rw [decide_eq_false (fun h => h4 h.2)] at hr
          have h4b : (i == 0) = false := by simpa using h4
          subst h3 hr
          --@12
          go_enter Tryz.func50, Tryz.ntmps50
          go_wp2
          go_ret
          exact ⟨by (first | rfl | simp), HB.out⟩
      · rw [decide_eq_false (fun h => h3 h.1)] at hr
        have h3b : (d == 0) = false := by simpa using h3
        subst hr
        --@13
        go_enter Tryz.func50, Tryz.ntmps50
        go_wp2
        go_ret
        exact ⟨by (first | rfl | simp), HB.out⟩
    · rw [decide_eq_false (by omega), Bool.false_and] at hr
      have h2b : ((b : Int) != 0) = true := by simp; omega
      subst hr
      --@14
      go_enter Tryz.func50, Tryz.ntmps50
      go_wp2
      go_ret
      exact ⟨rfl, HB.out⟩
  · rw [decide_eq_true (by omega), Bool.true_and, if_pos (by omega)] at hr
    by_cases h3 : d = 0
    · by_cases h4 : i = 0
      · rw [decide_eq_true ⟨h3, h4⟩] at hr
        subst h3 h4 hr
        --@15
        go_enter Tryz.func50, Tryz.ntmps50
        go_wp2
        go_ret
        exact ⟨rfl, HB.out⟩
      · rw [decide_eq_false (fun h => h4 h.2)] at hr
        have h4b : (i == 0) = false := by simpa using h4
        subst h3 hr
        --@16
        go_enter Tryz.func50, Tryz.ntmps50
        go_wp2
        go_ret
        exact ⟨by (first | rfl | simp), HB.out⟩
    · rw [decide_eq_false (fun h => h3 h.1)] at hr
      have h3b : (d == 0) = false := by simpa using h3
      subst hr
      --@17
      go_enter Tryz.func50, Tryz.ntmps50
      go_wp2
      go_ret
      exact ⟨by (first | rfl | simp), HB.out⟩
  · by_cases h2 : b = 0
    · subst h2
      rw [decide_eq_true (by omega), Bool.true_and, if_neg (by omega)] at hr
      by_cases h3 : 0 ≤ d
      · have hr2 : decide (0 ≤ i) = r := by rw [← hr, decide_eq_decide]; omega
        clear hr
        --@18
        go_enter Tryz.func50, Tryz.ntmps50
        go_wp2
        go_ret
        exact ⟨by (first | exact congrArg Ending.returned (congrArg Value.bool hr2) | (rw [← hr2]; rfl)), HB.out⟩
      · rw [decide_eq_false (by omega)] at hr
        subst hr
        --@19
        go_enter Tryz.func50, Tryz.ntmps50
        go_wp2
        go_ret
        exact ⟨rfl, HB.out⟩
    · rw [decide_eq_false (by omega), Bool.false_and] at hr
      have h2b : ((b : Int) != 0) = true := by simp; omega
      subst hr
      --@20
      go_enter Tryz.func50, Tryz.ntmps50
      go_wp2
      go_ret
      exact ⟨rfl, HB.out⟩
end Go.Proofs.YtdcnpaodcjfdbaaGreatDoor

/- What the document's own Find of layer 16 (slots) returns. -/
namespace Go.Proofs.YtdcnpaodcjfdbaaGreatDoor
open Go.RowKit
set_option linter.unusedVariables false

/-- What Find answers. -/
def findC : Option (Nat × Nat) → Value
  | none => .tuple #[.int .i64 0, .int .i64 0, .bool false]
  | some (d, i) => .tuple #[.int .i64 d, .int .i64 i, .bool true]

end Go.Proofs.YtdcnpaodcjfdbaaGreatDoor

/- What the document's own Get of layer 16 (slots) returns. -/
namespace Go.Proofs.YtdcnpaodcjfdbaaGreatDoor
open Go.RowKit
set_option linter.unusedVariables false

/-- What a slot of frames in words has; the error's number. -/
def slGet (xs : List Nat) (l : Fns) (L : List FrV) (d i : Int) : VlV × Int :=
  if slAddr l L d i < 0 ∨ (xs.length : Int) ≤ slAddr l L d i then (vl0, 2)
  else if fPtr l (L.getD d.toNat fr0).fn i = false then (⟨1, xs.getD (slAddr l L d i).toNat 0, 0, 0⟩, 0)
  else if xs.getD (slAddr l L d i).toNat 0 = 0 then (vl0, 0)
  else if 4611686018427387904 < xs.getD (slAddr l L d i).toNat 0 then (vl0, 9)
  else match slFind l 0 L (xs.getD (slAddr l L d i).toNat 0 : Nat) with
    | none => (vl0, 9)
    | some (u, k) => if d < (u : Int) then (vl0, 9) else (⟨2, 0, u, k⟩, 0)
theorem four_cellsV (w : World) (b : Nat) (u0 u1 u2 u3 x0 x1 x2 x3 : Value) (h0 : w.cell? ⟨b, 0, none⟩ = some x0) (h1 : w.cell? ⟨b, 1, none⟩ = some x1) (h2 : w.cell? ⟨b, 2, none⟩ = some x2) (h3 : w.cell? ⟨b, 3, none⟩ = some x3) :
    ((((w.setCell ⟨b, 0, none⟩ u0).setCell ⟨b, 1, none⟩ u1).setCell ⟨b, 2, none⟩ u2).setCell ⟨b, 3, none⟩ u3).cell? ⟨b, 0, none⟩ = some u0 ∧ ((((w.setCell ⟨b, 0, none⟩ u0).setCell ⟨b, 1, none⟩ u1).setCell ⟨b, 2, none⟩ u2).setCell ⟨b, 3, none⟩ u3).cell? ⟨b, 1, none⟩ = some u1 ∧
    ((((w.setCell ⟨b, 0, none⟩ u0).setCell ⟨b, 1, none⟩ u1).setCell ⟨b, 2, none⟩ u2).setCell ⟨b, 3, none⟩ u3).cell? ⟨b, 2, none⟩ = some u2 ∧ ((((w.setCell ⟨b, 0, none⟩ u0).setCell ⟨b, 1, none⟩ u1).setCell ⟨b, 2, none⟩ u2).setCell ⟨b, 3, none⟩ u3).cell? ⟨b, 3, none⟩ = some u3 := by
  have o : ∀ (w : World) (i j : Nat) (v : Value), i ≠ j → (w.setCell ⟨b, i, none⟩ v).cell? ⟨b, j, none⟩ = w.cell? ⟨b, j, none⟩ := fun w i j v h => World.cell?_setCell_other w _ _ _ (fun e => h (by injection e))
  have s : ∀ (w : World) (i : Nat) (v x : Value), w.cell? ⟨b, i, none⟩ = some x → (w.setCell ⟨b, i, none⟩ v).cell? ⟨b, i, none⟩ = some v := fun w i v x h => World.cell?_setCell_same w _ _ h
  refine ⟨?_, ?_, ?_, ?_⟩
  · rw [o _ 3 0 _ (by decide), o _ 2 0 _ (by decide), o _ 1 0 _ (by decide), s _ 0 _ x0 h0]
  · rw [o _ 3 1 _ (by decide), o _ 2 1 _ (by decide), s _ 1 _ x1 (by rw [o _ 0 1 _ (by decide)]; exact h1)]
  · rw [o _ 3 2 _ (by decide), s _ 2 _ x2 (by rw [o _ 1 2 _ (by decide), o _ 0 2 _ (by decide)]; exact h2)]
  · rw [s _ 3 _ x3 (by rw [o _ 2 3 _ (by decide), o _ 1 3 _ (by decide), o _ 0 3 _ (by decide)]; exact h3)]
theorem bel_set4 {w W : World} {b : Nat} (h : Below w.heap.size w W) (hb : w.heap.size ≤ b) (u0 u1 u2 u3 : Value) : Below w.heap.size w ((((W.setCell ⟨b, 0, none⟩ u0).setCell ⟨b, 1, none⟩ u1).setCell ⟨b, 2, none⟩ u2).setCell ⟨b, 3, none⟩ u3) := (((h.setCell hb u0).setCell hb u1).setCell hb u2).setCell hb u3

end Go.Proofs.YtdcnpaodcjfdbaaGreatDoor

/- What the document's own Put of layer 16 (slots) returns. -/
namespace Go.Proofs.YtdcnpaodcjfdbaaGreatDoor
open Go.RowKit
set_option linter.unusedVariables false

/-- The words behind it; the error's number. -/
def slPut (xs : List Nat) (l : Fns) (L : List FrV) (d i : Int) (v : VlV) : List Nat × Int :=
  if slAddr l L d i < 0 ∨ (xs.length : Int) ≤ slAddr l L d i then (xs, 2)
  else if vMay v = false then (xs, 1)
  else if fPtr l (L.getD d.toNat fr0).fn i = decide (v.kind = 1) then (xs, 5)
  else if v.kind = 2 then
    if slAddr l L v.depth v.slot < 0 then (xs, 2)
    else if d < v.depth then (xs, 7)
    else (xs.set (slAddr l L d i).toNat (slAddr l L v.depth v.slot).toNat, 0)
  else (xs.set (slAddr l L d i).toNat v.bits, 0)
theorem slPut_length (xs : List Nat) (l : Fns) (L : List FrV) (d i : Int) (v : VlV) : (slPut xs l L d i v).1.length = xs.length := by
  unfold slPut; split; · rfl
  split; · rfl
  split; · rfl
  split
  · split; · rfl
    split; · rfl
    simp
  · simp
/-- Words that a call answers, and an error's number. -/
def ResW (w : World) (n : Nat) (r : List Nat × Int) (e : Ending) (w' : World) : Prop := ∃ B k, e = .returned (.tuple #[.slice B n k, .int .i64 r.2]) ∧ Sl w' w'.heap.size B n (r.1.map wv) ∧ (B = none → k = 0) ∧ Below w.heap.size w w'
theorem q_fptr {A : Option Addr} {n c : Nat} {ys : List FnV} {lo hi : Nat} {W : World} (q : Nat) (f i : Int) (hs : FnRow W lo hi A n ys) (hn : n ≤ 1000) (hI : in64 i) (h0 : ∀ x ∈ vals ys, 0 ≤ x.1) (b : Bool) (hb : fPtr (vals ys) f i = b) :
    Calls Tryz.prog 51 #[.slice A n c, .int .i64 f, .int .i64 i] (W.drewN q) fun e w'' => e = .returned (.bool b) ∧ ∃ m, w'' = W.drewN m := by
  rw [← hb]
  exact (ref_fptrR A n c ys lo hi (W.drewN q) f i (hs.drewN q) hn hI h0).mono fun e w' ⟨h1, h2⟩ => ⟨h1, q, h2.symm⟩

end Go.Proofs.YtdcnpaodcjfdbaaGreatDoor

/- What the document's own All of layer 16 (slots) returns: rows of values. -/
namespace Go.Proofs.YtdcnpaodcjfdbaaGreatDoor
open Go.RowKit
set_option linter.unusedVariables false

/-- What the first slots of a frame have; the first error's number. -/
def slRow (xs : List Nat) (l : Fns) (L : List FrV) (d k : Nat) : List VlV := (List.range k).map fun (i : Nat) => (slGet xs l L d i).1
def slErr (xs : List Nat) (l : Fns) (L : List FrV) (d k : Nat) : Int := (((List.range k).map fun (i : Nat) => (slGet xs l L d i).2).find? (fun e => e != 0)).getD 0
def slAllAux (xs : List Nat) (l : Fns) (L : List FrV) : Nat → List FrV → List (List VlV) → List (List VlV) × Int
  | _, [], acc => (acc, 0)
  | d, x :: r, acc => if slErr xs l L d (slSize l x).toNat = 0 then slAllAux xs l L (d + 1) r (acc ++ [slRow xs l L d (slSize l x).toNat]) else ([], slErr xs l L d (slSize l x).toNat)
/-- What all slots have; the error's number. -/
def slAll (xs : List Nat) (l : Fns) (L : List FrV) : List (List VlV) × Int := slAllAux xs l L 0 L []
theorem slRow_succ (xs : List Nat) (l : Fns) (L : List FrV) (d k : Nat) : slRow xs l L d (k + 1) = slRow xs l L d k ++ [(slGet xs l L d k).1] := by
  unfold slRow; rw [List.range_succ, List.map_append]; rfl
theorem slRow_length (xs : List Nat) (l : Fns) (L : List FrV) (d k : Nat) : (slRow xs l L d k).length = k := by unfold slRow; simp
theorem slErr_stop {xs : List Nat} {l : Fns} {L : List FrV} {d : Nat} {e : Int} (he : e ≠ 0) : ∀ (k i : Nat), i < k → slErr xs l L d i = 0 → (slGet xs l L d i).2 = e → slErr xs l L d k = e := by
  intro k i hi h0 hg
  unfold slErr at *
  obtain ⟨r, rfl⟩ : ∃ r, k = i + 1 + r := ⟨k - (i + 1), by omega⟩
  rw [List.range_add, List.map_append, List.find?_append, List.range_succ, List.map_append, List.find?_append]
  have h1 : ((List.range i).map fun (i : Nat) => (slGet xs l L d i).2).find? (fun e => e != 0) = none := by
    cases h : ((List.range i).map fun (i : Nat) => (slGet xs l L d i).2).find? (fun e => e != 0) with
    | none => rfl
    | some y =>
      rw [h] at h0
      have := List.find?_some h
      simp only [Option.getD_some] at h0
      rw [h0] at this
      simp at this
  rw [h1]
  simp [hg, he]
theorem slErr_succ {xs : List Nat} {l : Fns} {L : List FrV} {d i : Nat} (h0 : slErr xs l L d i = 0) (hg : (slGet xs l L d i).2 = 0) : slErr xs l L d (i + 1) = 0 := by
  unfold slErr at *
  rw [List.range_succ, List.map_append, List.find?_append]
  cases h : ((List.range i).map fun (i : Nat) => (slGet xs l L d i).2).find? (fun e => e != 0) with
  | none => simp [hg]
  | some y => rw [h] at h0; simpa using h0

/-- Rows of values. -/
def vlcells (v : VlV) : List Value := [.int .u8 v.kind, .int .u64 v.bits, .int .i64 v.depth, .int .i64 v.slot]
theorem vlcells_len (v : VlV) : (vlcells v).length = 4 := rfl
def VlRow (w : World) (B : Nat) (A : Option Addr) (n : Nat) (vs : List VlV) : Prop := RowOf (fun cs v => cs = vlcells v) 4 w B A n vs
/-- A row of values, and where it lies. -/
structure VlS where
  A : Option Addr
  n : Nat
  c : Nat
  vs : List VlV
def vsC (z : VlS) : Value := .slice z.A z.n z.c
/-- The slice value '.slice A n c' has these rows. -/
structure VvRow (w : World) (B : Nat) (A : Option Addr) (n : Nat) (zs : List VlS) : Prop where
  row : Sl w B A n (zs.map vsC)
  each : ∀ z ∈ zs, VlRow w B z.A z.n z.vs
def vvals (zs : List VlS) : List (List VlV) := zs.map VlS.vs
section
variable {w w' : World} {B B' n : Nat} {A : Option Addr} {vs : List VlV} {zs : List VlS}
theorem VlRow.len (h : VlRow w B A n vs) : vs.length = n := h.1
theorem VlRow.below (h : VlRow w B A n vs) (hb : Below B w w') : VlRow w' B A n vs := RowOf.below h hb
theorem VlRow.more (h : VlRow w B A n vs) (hB : B ≤ B') : VlRow w B' A n vs := RowOf.more h hB
theorem VlRow.step (h : VlRow w w.heap.size A n vs) (hb : Below w.heap.size w w') : VlRow w' w'.heap.size A n vs := (h.below hb).more hb.size
theorem VlRow.at_ (h : VlRow w B A n vs) {j : Nat} (hj : j < n) : ∃ b off v, A = some ⟨b, off, none⟩ ∧ b < B ∧ vs[j]? = some v ∧ w.cell? ⟨b, off + j * 4, none⟩ = some (.int .u8 v.kind) ∧ w.cell? ⟨b, off + j * 4 + 1, none⟩ = some (.int .u64 v.bits) ∧ w.cell? ⟨b, off + j * 4 + 2, none⟩ = some (.int .i64 v.depth) ∧ w.cell? ⟨b, off + j * 4 + 3, none⟩ = some (.int .i64 v.slot) := by
  obtain ⟨b, off, x, cs, e, hb, hx, _, hc, rfl⟩ := RowOf.at_ h hj
  exact ⟨b, off, x, e, hb, hx, hc 0 (by omega), hc 1 (by omega), hc 2 (by omega), hc 3 (by omega)⟩
theorem VvRow.len (h : VvRow w B A n zs) : zs.length = n := by have := h.row.1; simpa using this
theorem VvRow.below (h : VvRow w B A n zs) (hb : Below B w w') : VvRow w' B A n zs := ⟨h.row.below hb, fun z hz => (h.each z hz).below hb⟩
theorem VvRow.more (h : VvRow w B A n zs) (hB : B ≤ B') : VvRow w B' A n zs := ⟨h.row.more hB, fun z hz => (h.each z hz).more hB⟩
theorem VvRow.step (h : VvRow w w.heap.size A n zs) (hb : Below w.heap.size w w') : VvRow w' w'.heap.size A n zs := (h.below hb).more hb.size
theorem VvRow.at_ (h : VvRow w B A n zs) {j : Nat} (hj : j < n) : ∃ b off z, A = some ⟨b, off, none⟩ ∧ b < B ∧ zs[j]? = some z ∧ w.cell? ⟨b, off + j, none⟩ = some (.slice z.A z.n z.c) ∧ VlRow w B z.A z.n z.vs := by
  obtain ⟨b, off, u, e, hb, hu, hc⟩ := h.row.at_ hj
  rw [List.getElem?_map] at hu
  cases hz : zs[j]? with
  | none => rw [hz] at hu; cases hu
  | some z =>
    rw [hz] at hu
    obtain rfl : u = vsC z := by simpa using hu.symm
    exact ⟨b, off, z, e, hb, rfl, hc, h.each z (List.mem_of_getElem? hz)⟩
end
end Go.Proofs.YtdcnpaodcjfdbaaGreatDoor

/- The walk of the document's own All of layer 16 (slots). -/
namespace Go.Proofs.YtdcnpaodcjfdbaaGreatDoor
open Go.RowKit
set_option linter.unusedVariables false

theorem info_val : (Tryz.prog.info? 34).map (fun i => (i.zero, i.size, i.bytes)) = some (some (.agg #[.int .u8 0, .int .u64 0, .int .i64 0, .int .i64 0]), 4, 32) := by kernel_rfl
theorem info_vals : (Tryz.prog.info? 57).map (fun i => (i.zero, i.size, i.bytes)) = some (some (.slice none 0 0), 1, 24) := by kernel_rfl
/-- A row of values that the call has made. -/
def OwnZ (base : Nat) (w : World) (z : VlS) : Prop := w.ownsRow base 34 4 (.slice z.A z.n z.c) z.n (cellsAll vlcells z.vs) ∧ z.vs.length = z.n
theorem OwnZ.below {base : Nat} {w w' : World} {z : VlS} (h : OwnZ base w z) (hb : Below w.heap.size w w') : OwnZ base w' z := ⟨own_same h.1 fun k hk => hb.block k (h.1.lt k hk).2, h.2⟩
theorem OwnZ.row {base : Nat} {w : World} {z : VlS} (h : OwnZ base w z) : VlRow w w.heap.size z.A z.n z.vs := RowOf.of_own vlcells_len h.1 h.2
theorem OwnZ.mono {b b' : Nat} {w : World} {z : VlS} (h : OwnZ b w z) (hb : b' ≤ b) : OwnZ b' w z := ⟨h.1.mono hb, h.2⟩
/-- Where the row of rows grows, the rows of values stay. -/
theorem OwnZ.grown {base base2 n : Nat} {w w' : World} {z : VlS} {v : Value} {xs : List Value} (h : OwnZ base w z) (ho : w.ownsRow base2 57 1 v n xs) (hg : w.grownBy w' v.ownBlock) : OwnZ base w' z :=
  ⟨own_grown h.1 hg fun k hk e => by
    obtain ⟨c1, h1⟩ := own_type ho k hk
    obtain ⟨c2, h2⟩ := own_type h.1 k e
    rw [h1] at h2
    injection h2 with h2
    injection h2 with _ h2 _
    revert h2; decide, h.2⟩
/-- Rows of values that a call answers, and an error's number. -/
def ResV (w : World) (r : List (List VlV) × Int) (e : Ending) (w' : World) : Prop := ∃ A c zs, e = .returned (.tuple #[.slice A r.1.length c, .int .i64 r.2]) ∧ VvRow w' w'.heap.size A r.1.length zs ∧ vvals zs = r.1 ∧ Below w.heap.size w w'
theorem vsC_one (zs : List VlS) : ∀ u ∈ zs.map vsC, u.oneCell' = true := fun u hu => by obtain ⟨z, _, rfl⟩ := List.mem_map.1 hu; rfl

end Go.Proofs.YtdcnpaodcjfdbaaGreatDoor

/- What the code of layer 16 (slots) returns: place, Address, Find. -/
namespace Go.Proofs.YtdcnpaodcjfdbaaGreatDoor
open Go.RowKit
set_option linter.unusedVariables false

/-- The words in which a frame's slots stand. -/
def slRun (l : Fns) (x : FrV) : Int × Int := if 0 < slSize l x then (x.at_ + 2, slSize l x) else (0, 0)
theorem two_cellsS (w : World) (b : Nat) (u0 u1 x0 x1 : Value) (h0 : w.cell? ⟨b, 0, none⟩ = some x0) (h1 : w.cell? ⟨b, 1, none⟩ = some x1) :
    ((w.setCell ⟨b, 0, none⟩ u0).setCell ⟨b, 1, none⟩ u1).cell? ⟨b, 0, none⟩ = some u0 ∧ ((w.setCell ⟨b, 0, none⟩ u0).setCell ⟨b, 1, none⟩ u1).cell? ⟨b, 1, none⟩ = some u1 := by
  have o : ∀ (w : World) (i j : Nat) (v : Value), i ≠ j → (w.setCell ⟨b, i, none⟩ v).cell? ⟨b, j, none⟩ = w.cell? ⟨b, j, none⟩ := fun w i j v h => World.cell?_setCell_other w _ _ _ (fun e => h (by injection e))
  have s : ∀ (w : World) (i : Nat) (v x : Value), w.cell? ⟨b, i, none⟩ = some x → (w.setCell ⟨b, i, none⟩ v).cell? ⟨b, i, none⟩ = some v := fun w i v x h => World.cell?_setCell_same w _ _ h
  refine ⟨?_, ?_⟩
  · rw [o _ 1 0 _ (by decide), s _ 0 _ x0 h0]
  · rw [s _ 1 _ x1 (by rw [o _ 0 1 _ (by decide)]; exact h1)]
theorem bel_set2 {w W : World} {b : Nat} (h : Below w.heap.size w W) (hb : w.heap.size ≤ b) (u0 u1 : Value) : Below w.heap.size w ((W.setCell ⟨b, 0, none⟩ u0).setCell ⟨b, 1, none⟩ u1) := (h.setCell hb u0).setCell hb u1

/-- The address of a slot; the error's number. -/
def slAdr (l : Fns) (L : List FrV) (d i : Int) : Int × Int := if slAddr l L d i < 0 then (0, 2) else (slAddr l L d i, 0)
section
variable {w : World} {lo hi : Nat} {tp : Option Addr} {l : Fns} {A : Option Addr} {m c : Nat} {L : List FrV}
end
end Go.Proofs.YtdcnpaodcjfdbaaGreatDoor

/- What the code of layer 16 (slots) returns: own, May. -/
namespace Go.Proofs.YtdcnpaodcjfdbaaGreatDoor
open Go.RowKit
set_option linter.unusedVariables false

/-- A value with the fields of its Kind alone. -/
def vOwn (v : VlV) : VlV := if v.kind = 1 then ⟨1, v.bits, 0, 0⟩ else if v.kind = 2 then ⟨2, 0, v.depth, v.slot⟩ else vl0
theorem vMay_own (v : VlV) : vMay v = (decide (v = vOwn v) && decide (0 ≤ v.depth ∧ 0 ≤ v.slot)) := by
  obtain ⟨k, b, d, i⟩ := v
  unfold vMay vOwn vl0
  simp only
  by_cases h1 : k = 1
  · subst h1
    simp only [if_true, VlV.mk.injEq]
    by_cases hd : d = 0 <;> by_cases hi : i = 0 <;> simp [hd, hi]
  · by_cases h2 : k = 2
    · subst h2
      simp
    · rw [if_neg h1, if_neg h2]
      by_cases h0 : k = 0
      · subst h0
        simp
        by_cases hb : b = 0 <;> by_cases hd : d = 0 <;> by_cases hi : i = 0 <;> simp [hb, hd, hi]
      · simp [h0]
        intro h; omega
theorem neq_valS (x y : VlV) (W : World) : (binOp .neq 34 (.agg #[.int .u8 x.kind, .int .u64 x.bits, .int .i64 x.depth, .int .i64 x.slot]) (.agg #[.int .u8 y.kind, .int .u64 y.bits, .int .i64 y.depth, .int .i64 y.slot])).run Tryz.prog W = .ok (.bool (!(decide (x = y)))) W := by
  obtain ⟨a, b, c, d⟩ := x
  obtain ⟨a', b', c', d'⟩ := y
  simp [go_sem]
  by_cases h1 : a = a' <;> by_cases h2 : b = b' <;> by_cases h3 : c = c' <;> by_cases h4 : d = d' <;> simp [h1, h2, h3, h4] <;> omega

theorem c_own (v : VlV) (w : World) : Calls Tryz.prog 99 #[.agg #[.int .u8 v.kind, .int .u64 v.bits, .int .i64 v.depth, .int .i64 v.slot]] w fun e w' => e = .returned (.agg #[.int .u8 (vOwn v).kind, .int .u64 (vOwn v).bits, .int .i64 (vOwn v).depth, .int .i64 (vOwn v).slot]) ∧ Below w.heap.size w w' := by
  obtain ⟨k, b, d, i⟩ := v
  unfold vOwn vl0
  simp only
  by_cases h1 : k = 1
  · subst h1
    rw [if_pos rfl]
    --@1
    go_enter Tryz.func99, Tryz.ntmps99
    go_wp2
    exact bodyPost_ret (v := .agg #[.int .u8 1, .int .u64 (b : Int), .int .i64 0, .int .i64 0]) (by simp [results, Tryz.results99, go_sem]) rfl ⟨rfl, belF_al (belF_al (Below.refl _ _) _) _⟩
  · rw [if_neg h1]
    by_cases h2 : k = 2
    · subst h2
      rw [if_pos rfl]
      --@2
      go_enter Tryz.func99, Tryz.ntmps99
      go_wp2
      exact bodyPost_ret (v := .agg #[.int .u8 2, .int .u64 0, .int .i64 d, .int .i64 i]) (by simp [results, Tryz.results99, go_sem]) rfl ⟨rfl, belF_al (belF_al (Below.refl _ _) _) _⟩
    · rw [if_neg h2]
      have g1 : ((k : Int) == 1) = false := by simp; omega
      have g2 : ((k : Int) == 2) = false := by simp; omega
      --@3
      go_enter Tryz.func99, Tryz.ntmps99
      go_wp2
      exact bodyPost_ret (v := .agg #[.int .u8 0, .int .u64 0, .int .i64 0, .int .i64 0]) (by simp [results, Tryz.results99, go_sem]) rfl ⟨rfl, belF_al (belF_al (Below.refl _ _) _) _⟩

set_option maxRecDepth 100000 in
set_option maxHeartbeats 2000000 in
theorem c_vmay1 (v : VlV) (hi1 : in64 v.depth) (hi2 : in64 v.slot) (w : World) (b : Bool) (hb : vMay v = b) : Calls Tryz.prog 98 #[.agg #[.int .u8 v.kind, .int .u64 v.bits, .int .i64 v.depth, .int .i64 v.slot]] w fun e w' => e = .returned (.bool (!b)) ∧ Below w.heap.size w w' := by
  rw [vMay_own] at hb
  have co := c_own v
  have HNE := hidb (neq_valS v (vOwn v))
  generalize vOwn v = u at *
  obtain ⟨W0, hW0⟩ : ∃ W0, W0 = w.alloc (.cells #[.int .u8 v.kind, .int .u64 v.bits, .int .i64 v.depth, .int .i64 v.slot] 34) := ⟨_, rfl⟩
  have hb0 : Below w.heap.size w W0 := by rw [hW0]; exact belF_al (Below.refl _ _) _
  have HC : Hid (∀ W, Below W0.heap.size W0 W → (W.cell? ⟨w.heap.size, 0, none⟩ = some (.int .u8 v.kind) ∧ W.cell? ⟨w.heap.size, 1, none⟩ = some (.int .u64 v.bits)) ∧ W.cell? ⟨w.heap.size, 2, none⟩ = some (.int .i64 v.depth) ∧ W.cell? ⟨w.heap.size, 3, none⟩ = some (.int .i64 v.slot)) := hidb (fun W hb => by
    have hz : W0.heap.size = w.heap.size + 1 := by rw [hW0]; simp
    refine ⟨⟨?_, ?_⟩, ?_, ?_⟩ <;> (rw [hb.cell (by show w.heap.size < _; omega), hW0]; simp))
  have HB := hidb hb0
  have HW0 := hidb hW0
  obtain ⟨k, bb, d, i⟩ := v
  simp only at *
  cases hq : decide (({ kind := k, bits := bb, depth := d, slot := i } : VlV) = u) with
  | false =>
    rw [hq, Bool.false_and] at hb
    subst hb
    rw [hq] at HNE
    have hne := HNE.out
    simp only [Bool.not_false] at hne
    clear hb0 hW0 hq
    --@4
    go_enter Tryz.func98, Tryz.ntmps98
    go_wp2
    rw [← HW0.out]
    refine wp_begin (by kernel_rfl) 13 rfl ?_
    refine wp_tail (C := fun W => Below W0.heap.size W0 W) 0 13 _ (by kernel_rfl) rfl (by kernel_rfl) (by kernel_rfl) (belF_dr (Below.refl _ _)) ?_
    simp only [List.drop_zero]
    go_big_quiet_want
    apply Exists.intro
    refine ⟨fun W hC => ?_, ?_⟩
    · obtain ⟨⟨d0, d1⟩, d2, d3⟩ := HC.out W hC
      unfold Oper.quietAt
      go_simp
      rfl
    go_big_quiet_on
    simp only [Act.put, List.setIfInBounds_toArray, List.set_cons_zero, List.set_cons_succ]
    go_big_quiet_want
    apply Exists.intro
    refine ⟨fun W hC => ?_, ?_⟩
    · obtain ⟨⟨d0, d1⟩, d2, d3⟩ := HC.out W hC
      unfold Oper.quietAt
      go_simp
      rfl
    go_big_quiet_on
    simp only [Act.put, List.setIfInBounds_toArray, List.set_cons_zero, List.set_cons_succ]
    go_big_quiet_want
    apply Exists.intro
    refine ⟨fun W hC => ?_, ?_⟩
    · unfold Oper.quietAt
      go_simp
      exact (co W).mono fun e w' h => ⟨h.1, belF_tr hC h.2⟩
    go_big_quiet_on
    simp only [Act.put, List.setIfInBounds_toArray, List.set_cons_zero, List.set_cons_succ]
    repeat (first | go_big_quiet_skip | (go_big_quiet_want; (apply Exists.intro); refine ⟨fun W hC => ?_, ?_⟩; (unfold Oper.quietAt; go_simp; done); go_big_quiet_on; simp only [Act.put, List.setIfInBounds_toArray, List.set_cons_zero, List.set_cons_succ]) | (go_big_quiet_want; (apply Exists.intro); refine ⟨fun W hC => ?_, ?_⟩; (unfold Oper.quietAt; go_simp; rfl); go_big_quiet_on; simp only [Act.put, List.setIfInBounds_toArray, List.set_cons_zero, List.set_cons_succ]))
    refine wpQuiet_nil ?_
    intro w4 hC
    have HB4 := hidb hC
    go_wp2
    go_ret
    exact ⟨rfl, belF_tr HB.out HB4.out⟩
  | true =>
    rw [hq, Bool.true_and] at hb
    rw [hq] at HNE
    have hne := HNE.out
    simp only [Bool.not_true] at hne
    have hmb : (decide (min d i < 0)) = !b := by rw [← hb, ← decide_not, decide_eq_decide]; omega
    clear hb0 hW0 hq hb
    --@5
    go_enter Tryz.func98, Tryz.ntmps98
    go_wp2
    rw [← HW0.out]
    (first | go_region_held3 (fun W => (W.cell? ⟨w.heap.size, 0, none⟩ = some (.int .u8 k) ∧ W.cell? ⟨w.heap.size, 1, none⟩ = some (.int .u64 bb)) ∧ W.cell? ⟨w.heap.size, 2, none⟩ = some (.int .i64 d) ∧ W.cell? ⟨w.heap.size, 3, none⟩ = some (.int .i64 i))
      (first | ((with_reducible refine HC.out _ ?_); (repeat (first | with_reducible exact Below.refl _ _ | with_reducible exact Hid.out (by assumption) | with_reducible apply belF_al | with_reducible apply belF_dr)); done) | (go_keep; done))
      (first
        | (go_at_call 99; (refine (co _).mono ?_); rintro e w1 ⟨rfl, hb1⟩; have HB1 : Hid (Below W0.heap.size W0 w1) := hidb (belF_tr (by (repeat (first | with_reducible exact Below.refl _ _ | with_reducible exact Hid.out (by assumption) | with_reducible apply belF_al | with_reducible apply belF_dr))) hb1); have hc1 := HC.out w1 HB1.out; clear hb1)) | fail)
    all_goals go_wp2
    all_goals go_ret
    all_goals exact ⟨by first | exact congrArg Ending.returned (congrArg Value.bool hmb) | (rw [← hmb]; rfl), belF_tr HB.out HB1.out⟩

/-- slices.IndexFunc at values. -/
theorem c_vidx (A : Option Addr) (n c : Nat) (vs : List VlV) (w : World) (B : Nat) (hr : VlRow w B A n vs) (hB : B ≤ w.heap.size) (hn : n ≤ 1000000) (h6 : ∀ v ∈ vs, in64 v.depth ∧ in64 v.slot) (b : Bool) (hb : vs.all vMay = b) :
    Calls Tryz.prog 123 #[.slice A n c, .func (.func 98) #[] #[]] w fun e w' => ∃ r : Int, e = .returned (.int .i64 r) ∧ (decide (0 ≤ r) = !b) ∧ Below w.heap.size w w' := by
  have HR := hidb hr
  have H6 := hidb h6
  have HB9 := hidb hB
  have HBV := hidb hb
  clear hr h6 hb
  go_enter Tryz.func123, Tryz.ntmps123
  go_wp2
  go_loopw [8] (fun k wr => ∃ j : Nat, j ≤ n ∧ Hid ((vs.take j).all vMay = true) ∧ k = .int .i64 j ∧ Hid (Below w.heap.size w wr)) (fun k _ => (n - intOf k).toNat)
  case atStart => exact ⟨0, by omega, hidb (by simp), rfl, hidb (Below.refl _ _)⟩
  case round =>
    obtain ⟨j, hj, HA, rfl, HB⟩ := hrel
    by_cases hlt : j < n
    · obtain ⟨bk, off, v, rfl, hbl, hv, hc0, hc1, hc2, hc3⟩ := HR.out.at_ hlt
      have hbl2 : bk < w.heap.size := Nat.lt_of_lt_of_le hbl HB9.out
      have d0 := (HB.out.cell (p := ⟨bk, off + j * 4, none⟩) hbl2).trans hc0
      have d1 := (HB.out.cell (p := ⟨bk, off + j * 4 + 1, none⟩) hbl2).trans hc1
      have d2 := (HB.out.cell (p := ⟨bk, off + j * 4 + 2, none⟩) hbl2).trans hc2
      have d3 := (HB.out.cell (p := ⟨bk, off + j * 4 + 3, none⟩) hbl2).trans hc3
      have hmem : v ∈ vs := List.mem_of_getElem? hv
      obtain ⟨bv, hbv⟩ : ∃ bv, vMay v = bv := ⟨_, rfl⟩
      have cm := c_vmay1 v (H6.out v hmem).1 (H6.out v hmem).2 wr bv hbv
      have hstep : (vs.take (j + 1)).all vMay = ((vs.take j).all vMay && vMay v) := by rw [List.take_add_one, hv]; simp
      have g0 : (0 : Int) ≤ (j : Int) := by omega
      have g1 : (j : Int) < (n : Int) := by omega
      clear hc0 hc1 hc2 hc3
      cases bv with
      | false =>
        have hall : b = false := by
          rw [← HBV.out, ← List.take_append_drop (j + 1) vs, List.all_append, hstep, hbv]; simp
        have HE := hidb hall
        clear hstep hall hbv hv hmem
        --@6
        go_wp2_with (first | (go_at_call 98; (with_reducible refine cm.mono ?_); rintro e w1 ⟨rfl, hb1⟩))
        go_ret
        exact ⟨(j : Int), rfl, by rw [HE.out]; exact decide_eq_true (by omega), belF_tr HB.out hb1⟩
      | true =>
        have HN : Hid ((vs.take (j + 1)).all vMay = true) := hidb (by rw [hstep, HA.out, hbv]; rfl)
        clear hstep hbv hv hmem
        --@7
        go_wp2_with (first | (go_at_call 98; (with_reducible refine cm.mono ?_); rintro e w1 ⟨rfl, hb1⟩))
        go_roundw
        case rel => exact ⟨j + 1, by omega, HN, by go_num, hidb (belF_tr HB.out hb1)⟩
        case measure => simp [intOf]; omega
    · have HE : Hid (b = true) := hidb (by
        rw [← HBV.out, ← HA.out, List.take_of_length_le (by rw [HR.out.len]; omega)])
      --@8
      go_wp2
      go_ret
      exact ⟨-1, rfl, by rw [HE.out]; rfl, HB.out⟩
theorem c_vhas (A : Option Addr) (n c : Nat) (vs : List VlV) (w : World) (B : Nat) (hr : VlRow w B A n vs) (hB : B ≤ w.heap.size) (hn : n ≤ 1000000) (h6 : ∀ v ∈ vs, in64 v.depth ∧ in64 v.slot) (b : Bool) (hb : vs.all vMay = b) :
    Calls Tryz.prog 97 #[.slice A n c, .func (.func 98) #[] #[]] w fun e w' => e = .returned (.bool (!b)) ∧ Below w.heap.size w w' := by
  have c1 := c_vidx A n c vs w B hr hB hn h6 b hb
  clear hr h6 hb
  go_enter Tryz.func97, Tryz.ntmps97
  --@9
  go_wp2_with (first | (go_at_call 123; (with_reducible refine c1.mono ?_); rintro e w1 ⟨r, rfl, hrb, hb1⟩))
  go_ret
  exact ⟨by first | exact congrArg Ending.returned (congrArg Value.bool hrb) | (rw [← hrb]; rfl), hb1⟩
/-- May, of any row of values. -/
theorem code_vmay (A : Option Addr) (n c : Nat) (vs : List VlV) (w : World) (B : Nat) (hr : VlRow w B A n vs) (hB : B ≤ w.heap.size) (hn : n ≤ 1000000) (h6 : ∀ v ∈ vs, in64 v.depth ∧ in64 v.slot) (b : Bool) (hb : vs.all vMay = b) :
    Calls Tryz.prog 83 #[.slice A n c] w fun e w' => e = .returned (.bool b) ∧ Below w.heap.size w w' := by
  have c1 := c_vhas A n c vs w B hr hB hn h6 b hb
  clear hr h6 hb
  go_enter Tryz.func83, Tryz.ntmps83
  --@10
  go_wp2_with (first | (go_at_call 97; (with_reducible refine c1.mono ?_); rintro e w1 ⟨rfl, hb1⟩))
  go_ret
  exact ⟨by simp, hb1⟩
end Go.Proofs.YtdcnpaodcjfdbaaGreatDoor

/- What the code of layer 16 (slots) returns: word, Put. -/
namespace Go.Proofs.YtdcnpaodcjfdbaaGreatDoor
open Go.RowKit
set_option linter.unusedVariables false

/-- What stands in a slot of a frame of this depth that has a value; the error's number. -/
def slWord (l : Fns) (L : List FrV) (d : Int) (v : VlV) : Int × Int :=
  if v.kind = 2 then if slAddr l L v.depth v.slot < 0 then (0, 2) else if d < v.depth then (0, 7) else (slAddr l L v.depth v.slot, 0) else (v.bits, 0)
theorem slAddr_top (l : Fns) (hl : ∀ x ∈ l, 0 ≤ x.1 ∧ x.1 ≤ 1000) (L : List FrV) (d i : Int) : slAddr l L d i ≤ 1099511628778 := by
  have hz := slSize_range l hl (L.getD d.toNat fr0)
  unfold slAddr; split <;> omega
section
variable {w : World} {lo hi : Nat} {tp : Option Addr} {l : Fns} {A : Option Addr} {m c : Nat} {L : List FrV}
theorem aStore_one (xs : List Nat) (k u : Nat) (h : k < xs.length) : aStore xs k [u] = xs.set k u := by
  apply List.ext_getElem?
  intro j
  rw [aStore_get _ _ _ (by simp; omega), List.getElem?_set]
  simp only [List.length_cons, List.length_nil]
  by_cases h1 : k = j
  · subst h1
    rw [if_neg (by omega), if_pos (by omega), if_pos rfl, if_pos h]; simp
  · rw [if_neg h1]
    by_cases h2 : j < k
    · rw [if_pos h2]
    · rw [if_neg h2, if_neg (by omega)]
/-- A row of one value that a call lays. -/
theorem vlit_row (X : World) (v : VlV) : VlRow (X.alloc (.cells #[.int .u8 v.kind, .int .u64 v.bits, .int .i64 v.depth, .int .i64 v.slot] 34)) (X.heap.size + 1) (some ⟨X.heap.size, 0, none⟩) 1 [v] := by
  refine ⟨rfl, fun _ => ⟨X.heap.size, 0, rfl, by omega, fun j y hj => ?_⟩⟩
  match j, hj with
  | 0, hj =>
    obtain rfl := Option.some.inj hj
    refine ⟨_, rfl, fun k hk => ?_, rfl⟩
    match k, hk with
    | 0, _ => simp [vlcells]
    | 1, _ => simp [vlcells]
    | 2, _ => simp [vlcells]
    | 3, _ => simp [vlcells]
  | j + 1, hj => simp at hj

end
end Go.Proofs.YtdcnpaodcjfdbaaGreatDoor
