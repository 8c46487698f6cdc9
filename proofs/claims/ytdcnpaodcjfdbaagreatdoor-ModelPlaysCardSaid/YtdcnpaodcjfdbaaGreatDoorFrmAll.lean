/- Several texts in one: FrmMath, FrmRead, FrmSlot, FrmPush, FrmRef, FrmLaws, FrmMade, FrmReads, FrmSlots, FrmWords. -/
import Derived.Test.YtdcnpaodcjfdbaaGreatDoorFnsAll
import Derived.Test.YtdcnpaodcjfdbaaGreatDoorArenaRef
import Derived.Deep.Cut
import Derived.Deep.CutRange
import Derived.Deep.RegionHeld3
import Derived.Laws.StructEq
import Derived.BigQuiet
/- Frames that stand in an arena (layer 14): plain functions, an arena beside a table, three cells of a block. -/
namespace Go.Proofs.YtdcnpaodcjfdbaaGreatDoor
open Go.RowKit
set_option linter.unusedVariables false

/-- The number that a word in a frame's head stands for. -/
def frNum (x : Nat) : Int := if x = 0 then -1 else if x ≤ 9223372036854775808 then (x : Int) - 1 else (x : Int) - 1 - 18446744073709551616
/-- A frame: its base, its function, its link. -/
structure FrV where
  at_ : Int
  fn : Int
  link : Int
deriving DecidableEq
def frC (x : FrV) : Value := .agg #[.int .i64 x.at_, .int .i64 x.fn, .int .i64 x.link]
def fr0 : FrV := ⟨0, 0, 0⟩
/-- Are a frame's words there? -/
def frOk (xs : List Nat) (l : Fns) (a : Nat) : Bool := decide (xs.getD a 0 ≤ xs.length ∧ 1 ≤ xs.getD (a + 1) 0 ∧ xs.getD (a + 1) 0 ≤ l.length ∧ (a : Int) + fWords l ((xs.getD (a + 1) 0 : Nat) - 1 : Int) ≤ xs.length)
/-- The frame that stands at an address; the error's number. -/
def frRead (xs : List Nat) (l : Fns) (a : Int) : FrV × Int :=
  if aIn xs.length a 2 = false then (fr0, 2)
  else if frOk xs l a.toNat then (⟨a, (xs.getD (a.toNat + 1) 0 : Nat) - 1, (xs.getD a.toNat 0 : Nat) - 1⟩, 0) else (fr0, 9)
theorem frRead_out {xs : List Nat} {l : Fns} {a : Int} (h : aIn xs.length a 2 = false) : frRead xs l a = (fr0, 2) := by unfold frRead; rw [if_pos h]
theorem frRead_no {xs : List Nat} {l : Fns} {a : Nat} (h : aIn xs.length a 2 = true) (k : frOk xs l a = false) : frRead xs l a = (fr0, 9) := by
  unfold frRead; rw [if_neg (by rw [h]; simp), Int.toNat_natCast, k]; rfl
theorem frRead_yes {xs : List Nat} {l : Fns} {a : Nat} (h : aIn xs.length a 2 = true) (k : frOk xs l a = true) : frRead xs l a = (⟨a, (xs.getD (a + 1) 0 : Nat) - 1, (xs.getD a 0 : Nat) - 1⟩, 0) := by
  unfold frRead; rw [if_neg (by rw [h]; simp), Int.toNat_natCast, k]; rfl
theorem fWords_cases (l : Fns) (hl : ∀ x ∈ l, 0 ≤ x.1 ∧ x.1 ≤ 1000) (f : Int) : ((f < 0 ∨ (l.length : Int) ≤ f) ∧ fWords l f = -1) ∨ (0 ≤ f ∧ f < l.length ∧ 2 ≤ fWords l f ∧ fWords l f ≤ 1002) := by
  by_cases h : f < 0 ∨ (l.length : Int) ≤ f
  · left
    refine ⟨h, ?_⟩
    unfold fWords fSize; rw [if_pos h]; rfl
  · right
    have hr : 0 ≤ fSize l f ∧ fSize l f ≤ 1000 := by
      unfold fSize
      rw [if_neg h, List.getD_eq_getElem?_getD, List.getElem?_eq_getElem (by omega)]
      exact hl _ (List.getElem_mem (l := l) (n := f.toNat) (by omega))
    refine ⟨by omega, by omega, ?_, ?_⟩ <;> (unfold fWords; rw [if_neg (by omega)]; omega)
/-- What the code asks of a frame's words. -/
theorem frOk_code (xs : List Nat) (l : Fns) (hl : ∀ x ∈ l, 0 ≤ x.1 ∧ x.1 ≤ 1000) (hn : l.length ≤ 1000) (a : Nat) (k f : Nat) (hk : xs.getD a 0 = k) (hf : xs.getD (a + 1) 0 = f) (hf2 : f < 18446744073709551616) (hka : k ≤ xs.length) :
    frOk xs l a = aIn xs.length (a : Int) (fWords l (frNum f)) := by
  unfold frOk aIn
  rw [hk, hf, Bool.eq_iff_iff, decide_eq_true_iff, decide_eq_true_iff]
  by_cases h : 1 ≤ f ∧ f ≤ l.length
  · have e : frNum f = (f : Int) - 1 := by unfold frNum; rw [if_neg (by omega), if_pos (by omega)]
    rw [e]
    rcases fWords_cases l hl ((f : Int) - 1) with h1 | h1 <;> omega
  · have e : fWords l (frNum f) = -1 := by
      rcases fWords_cases l hl (frNum f) with h1 | h1
      · exact h1.2
      · exfalso; unfold frNum at h1; split at h1
        · omega
        · split at h1 <;> omega
    rw [e]; omega
theorem frOk_far {xs : List Nat} {l : Fns} {a : Nat} {k : Nat} (hk : xs.getD a 0 = k) (h : xs.length < k) : frOk xs l a = false := by
  unfold frOk; exact decide_eq_false (by omega)

theorem three_cells (w : World) (b : Nat) (u0 u1 u2 x0 x1 x2 : Value) (h0 : w.cell? ⟨b, 0, none⟩ = some x0) (h1 : w.cell? ⟨b, 1, none⟩ = some x1) (h2 : w.cell? ⟨b, 2, none⟩ = some x2) :
    (((w.setCell ⟨b, 0, none⟩ u0).setCell ⟨b, 1, none⟩ u1).setCell ⟨b, 2, none⟩ u2).cell? ⟨b, 0, none⟩ = some u0 ∧ (((w.setCell ⟨b, 0, none⟩ u0).setCell ⟨b, 1, none⟩ u1).setCell ⟨b, 2, none⟩ u2).cell? ⟨b, 1, none⟩ = some u1 ∧
    (((w.setCell ⟨b, 0, none⟩ u0).setCell ⟨b, 1, none⟩ u1).setCell ⟨b, 2, none⟩ u2).cell? ⟨b, 2, none⟩ = some u2 := by
  have o : ∀ (w : World) (i j : Nat) (v : Value), i ≠ j → (w.setCell ⟨b, i, none⟩ v).cell? ⟨b, j, none⟩ = w.cell? ⟨b, j, none⟩ := fun w i j v h => World.cell?_setCell_other w _ _ _ (fun e => h (by injection e))
  have s : ∀ (w : World) (i : Nat) (v x : Value), w.cell? ⟨b, i, none⟩ = some x → (w.setCell ⟨b, i, none⟩ v).cell? ⟨b, i, none⟩ = some v := fun w i v x h => World.cell?_setCell_same w _ _ h
  refine ⟨?_, ?_, ?_⟩
  · rw [o _ 2 0 _ (by decide), o _ 1 0 _ (by decide), s _ 0 _ x0 h0]
  · rw [o _ 2 1 _ (by decide), s _ 1 _ x1 (by rw [o _ 0 1 _ (by decide)]; exact h1)]
  · rw [s _ 2 _ x2 (by rw [o _ 1 2 _ (by decide), o _ 0 2 _ (by decide)]; exact h2)]

/-- The table stays where its blocks do. -/
theorem TbO.keep {w w' : World} {lo hi : Nat} {p : Option Addr} {l : Fns} (h : TbO w lo hi p l) (hk : ∀ b, lo ≤ b → b < hi → w'.heap[b]? = w.heap[b]?) : TbO w' lo hi p l := h.imp id fun ⟨b, e, h⟩ => ⟨b, e, h.keep hk⟩
theorem TbO.few {w : World} {lo hi : Nat} {p : Option Addr} {l : Fns} (h : TbO w lo hi p l) : l.length ≤ 100 := by
  rcases h with ⟨_, rfl⟩ | ⟨b, _, _, _, A, n, c, ys, _, h4, rfl, h6, _⟩
  · simp
  · rw [vals_length, h4.len]; exact h6
/-- An arena and a table, both made since the world w. -/
structure AT (w W : World) (p g len : Nat) (xs : List Nat) (tp : Option Addr) (l : Fns) : Prop where
  bel : Below w.heap.size w W
  ar : Ar W w.heap.size p g len xs
  tb : ∃ lo hi, TbO W lo hi tp l ∧ hi ≤ W.heap.size ∧ w.heap.size ≤ lo ∧ (g < lo ∨ hi ≤ g)
section
variable {w W W' : World} {p g len : Nat} {xs ys : List Nat} {tp : Option Addr} {l : Fns}
theorem AT.step (h : AT w W p g len xs tp l) (hb : Below W.heap.size W W') : AT w W' p g len xs tp l := by
  obtain ⟨lo, hi, h2, h3, h4, h5⟩ := h.tb
  exact ⟨h.bel.trans (hb.mono h.bel.size), h.ar.below hb (Nat.le_refl _), lo, hi, h2.below (hb.mono h3), Nat.le_trans h3 hb.size, h4, h5⟩
theorem AT.drewN (h : AT w W p g len xs tp l) (q : Nat) : AT w (W.drewN q) p g len xs tp l := h.step (belowN (Below.refl _ _) q)
theorem AT.alloc (h : AT w W p g len xs tp l) (o : Obj) : AT w (W.alloc o) p g len xs tp l := h.step (belF_al (Below.refl _ _) o)
theorem AT.wrote (h : AT w W p g len xs tp l) (ha : Ar W' w.heap.size p g len ys) (hg : W.grownBy W' (some g)) : AT w W' p g len ys tp l := by
  obtain ⟨lo, hi, h2, h3, h4, h5⟩ := h.tb
  refine ⟨h.bel.grown hg h.bel.size (fun k hk => by cases hk; exact h.ar.geg), ha, lo, hi, h2.keep fun b hb1 hb2 => hg.block b (by omega) (fun e => ?_), Nat.le_trans h3 hg.size, h4, h5⟩
  injection e with e
  omega
theorem AT.few (h : AT w W p g len xs tp l) : l.length ≤ 100 := by obtain ⟨lo, hi, h2, _⟩ := h.tb; exact h2.few
end
end Go.Proofs.YtdcnpaodcjfdbaaGreatDoor

/- What number, word and Read of layer 14 (frame) return. -/
namespace Go.Proofs.YtdcnpaodcjfdbaaGreatDoor
open Go.RowKit
set_option linter.unusedVariables false

/-- A result of three cells, written: the world behind it. -/
theorem bel_set3 {w W : World} {b : Nat} (h : Below w.heap.size w W) (hb : w.heap.size ≤ b) (u0 u1 u2 : Value) : Below w.heap.size w (((W.setCell ⟨b, 0, none⟩ u0).setCell ⟨b, 1, none⟩ u1).setCell ⟨b, 2, none⟩ u2) := ((h.setCell hb u0).setCell hb u1).setCell hb u2

end Go.Proofs.YtdcnpaodcjfdbaaGreatDoor

/- What Slot and End of layer 14 (frame) return. -/
namespace Go.Proofs.YtdcnpaodcjfdbaaGreatDoor
open Go.RowKit
set_option linter.unusedVariables false

/-- The address of a slot, the error's number. -/
def frSlot (l : Fns) (x : FrV) (i : Int) : Int × Int := if i < 0 ∨ fSize l x.fn ≤ i then (0, 2) else (x.at_ + 2 + i, 0)
/-- The address behind a frame. -/
def frEnd (l : Fns) (x : FrV) : Int := if fWords l x.fn < 0 then -1 else x.at_ + fWords l x.fn
def frNear (x : FrV) : Prop := -1099511627776 ≤ x.at_ ∧ x.at_ ≤ 1099511627776
theorem fSize_most (l : Fns) (hl : ∀ x ∈ l, 0 ≤ x.1 ∧ x.1 ≤ 1000) (f : Int) : -1 ≤ fSize l f ∧ fSize l f ≤ 1000 := fSize_range hl f

end Go.Proofs.YtdcnpaodcjfdbaaGreatDoor

/- What word and Push of layer 14 (frame) return, and which words they leave. -/
namespace Go.Proofs.YtdcnpaodcjfdbaaGreatDoor
open Go.RowKit
set_option linter.unusedVariables false

/-- The words of a frame that is laid. -/
def frRow (n : Nat) (f link : Int) : List Nat := (link + 1).toNat :: (f + 1).toNat :: List.replicate (n - 2) 0
theorem frRow_length (n : Nat) (hn : 2 ≤ n) (f link : Int) : (frRow n f link).length = n := by unfold frRow; simp; omega
/-- The words behind it, the base, the error's number. -/
def frPush (xs : List Nat) (l : Fns) (lo sp f link : Int) : List Nat × Int × Int :=
  if fWords l f < 0 ∨ link < -1 ∨ (xs.length : Int) ≤ link then (xs, 0, 1)
  else if lo < 0 ∨ (xs.length : Int) < sp ∨ sp < lo ∨ sp - lo < fWords l f then (xs, 0, 2)
  else (aStore xs (sp - fWords l f).toNat (frRow (fWords l f).toNat f link), sp - fWords l f, 0)

/-- A row of the call's own whose first two words are written. -/
theorem row_two {w : World} {base g n c : Nat} {ys : List Nat} {u v : Nat} (h : w.ownsRow base 32 1 (.slice (some ⟨g, 0, none⟩) n c) n ((0 :: 0 :: ys).map wv)) :
    (((w.setCell ⟨g, 0, none⟩ (.int .u64 (u : Int))).setCell ⟨g, 1, none⟩ (.int .u64 (v : Int))).ownsRow base 32 1 (.slice (some ⟨g, 0, none⟩) n c) n ((u :: v :: ys).map wv)) := by
  have h1 := (h.stored 0 (wv u)).1
  have h2 := (World.ownsRow.stored h1 1 (wv v)).1
  exact h2

end Go.Proofs.YtdcnpaodcjfdbaaGreatDoor

/- What the document's own Read of layer 14 (frame) returns. -/
namespace Go.Proofs.YtdcnpaodcjfdbaaGreatDoor
open Go.RowKit
set_option linter.unusedVariables false

theorem sl_getD {w : World} {B n : Nat} {A : Option Addr} {xs : List Nat} {j : Nat} (h : Sl w B A n (xs.map wv)) (hj : j < n) : ∃ b off, A = some ⟨b, off, none⟩ ∧ b < B ∧ w.cell? ⟨b, off + j, none⟩ = some (.int .u64 (xs.getD j 0 : Nat)) := by
  obtain ⟨b, off, u, e, hb, hu, hcell⟩ := h.at_ hj
  rw [List.getElem?_map] at hu
  cases hx : xs[j]? with
  | none => rw [hx] at hu; cases hu
  | some x =>
    rw [hx] at hu
    obtain rfl : u = wv x := by simpa using hu.symm
    exact ⟨b, off, e, hb, by rw [hcell, List.getD_eq_getElem?_getD, hx]; rfl⟩

end Go.Proofs.YtdcnpaodcjfdbaaGreatDoor

/- The walks of layer 14's statements: an arena as told, beside a table; the document's example; what comes in. -/
namespace Go.Proofs.YtdcnpaodcjfdbaaGreatDoor
open Go.RowKit Go.ChangeShapes Go.WideShapes
set_option linter.unusedVariables false

/-- 256 words, all 0. -/
def frZ : List Nat := List.replicate 256 0
theorem frZ_length : frZ.length = 256 := by unfold frZ; exact List.length_replicate
/-- 256 words, the first ones as told. -/
def frLaid (xs : List Nat) : List Nat := aStore frZ 0 xs
theorem frLaid_length (xs : List Nat) (h : xs.length ≤ 256) : (frLaid xs).length = 256 := by unfold frLaid; rw [aStore_length _ _ _ (by rw [frZ_length]; omega), frZ_length]
theorem aStore_wd {xs ys : List Nat} (hx : Wd xs) (hy : Wd ys) (i : Nat) : Wd (aStore xs i ys) := fun z hz => by
  unfold aStore at hz
  rcases List.mem_append.1 hz with hz | hz
  · rcases List.mem_append.1 hz with hz | hz
    · exact hx z (List.mem_of_mem_take hz)
    · exact hy z hz
  · exact hx z (List.mem_of_mem_drop hz)
theorem frZ_wd : Wd frZ := fun z hz => by unfold frZ at hz; rw [List.eq_of_mem_replicate hz]; omega
theorem frLaid_wd {xs : List Nat} (h : Wd xs) : Wd (frLaid xs) := aStore_wd frZ_wd h 0

/-- Beside an arena a table is made. -/
theorem AT.made {w W W' : World} {p g len : Nat} {xs : List Nat} {b : Nat} {l : Fns} (hb : Below w.heap.size w W) (ha : Ar W w.heap.size p g len xs) (ht : TbIs W' W.heap.size W'.heap.size b l) (hb2 : Below W.heap.size W W') : AT w W' p g len xs (some ⟨b, 0, none⟩) l :=
  ⟨hb.trans (hb2.mono hb.size), ha.below hb2 (Nat.le_refl _), _, _, ht.o, Nat.le_refl _, hb.size, Or.inl ha.lt⟩

section
variable {w : World} {p g : Nat} {xs : List Nat} {tp : Option Addr} {l : Fns}
end

theorem aw14_tab : fTab [((3 : Int), ([] : List Nat))] = true := by decide
theorem aw14_own : fOwns [((3 : Int), ([] : List Nat))] = [(3, [])] := by decide
theorem aw14_push : frPush frZ [(3, [])] 0 64 0 (-1) = (aStore frZ 59 [0, 1, 0, 0, 0], 59, 0) := by decide +kernel
theorem aw14_read : frRead (aStore frZ 59 [0, 1, 0, 0, 0]) [(3, [])] 59 = (⟨59, 0, -1⟩, 0) := by decide +kernel
theorem aw14_wd : Wd (aStore frZ 59 [0, 1, 0, 0, 0]) := aStore_wd frZ_wd (by unfold Wd; decide) 59

end Go.Proofs.YtdcnpaodcjfdbaaGreatDoor

/- What 'made' of layer 14's statements returns: an arena as told, beside a table. -/
namespace Go.Proofs.YtdcnpaodcjfdbaaGreatDoor
open Go.RowKit Go.ChangeShapes Go.WideShapes
set_option linter.unusedVariables false

section
variable {w : World} {A A2 : Option Addr} {n c n2 c2 : Nat} {ys : List FnV} {xs : List Nat}
end

section
variable {H : Type} {enc : TypeId × Value → H} {W : World} {sp : Nat → Bool} {hd : Bool}
/-- Words that came in. -/
theorem read_words {v : Value} {d : DataW H} {ps : List MemPlace} (h : DataW.Trod enc Tryz.prog W 0 sp hd 51 v d ps) :
    ∃ (A : Option Addr) (len cap : Nat) (l : List Nat), v.cells.toList = [.slice A len cap] ∧ len ≤ maxLen ∧ (Sl W W.heap.size A len (l.map wv) ∧ Wd l ∧ (A = none → cap = 0) ∧ len ≤ cap ∧ cap ≤ maxLen) := by
  obtain ⟨fuel, hf⟩ := h
  obtain ⟨A, len, cap, zs, e1, hlc, hcm, hna, hsl, hwf⟩ := read_intsC Tryz.underlying51 Tryz.underlying32 fr_u64 hf
  obtain ⟨hwn, hw64⟩ := words_nat zs hwf
  exact ⟨A, len, cap, zs.map Int.toNat, e1, Nat.le_trans hlc hcm, by rw [hwn]; exact hsl, hw64, hna, hlc, hcm⟩
end

/-- An arena as told beside a table; the words once more, in a row of their own. -/
def AW (w : World) (p g : Nat) (xs : List Nat) (tp : Option Addr) (l : Fns) (A : Option Addr) (W : World) : Prop := AT w W p g 256 xs tp l ∧ Sl W W.heap.size A 256 (xs.map wv)
theorem AW.step {w W W' : World} {p g : Nat} {xs : List Nat} {tp A : Option Addr} {l : Fns} (h : AW w p g xs tp l A W) (hb : Below W.heap.size W W') : AW w p g xs tp l A W' := ⟨h.1.step hb, (h.2.below hb).more hb.size⟩
theorem frRead_owns (xs : List Nat) (l : Fns) (a : Int) : frRead xs (fOwns l) a = frRead xs l a := by
  unfold frRead frOk
  simp only [fWords_owns, fOwns_length]
end Go.Proofs.YtdcnpaodcjfdbaaGreatDoor

/- Layer 14's statement FrameReads. -/
namespace Go.Proofs.YtdcnpaodcjfdbaaGreatDoor
open Go.RowKit Go.ChangeShapes Go.WideShapes
set_option linter.unusedVariables false

section
variable {w : World} {p g : Nat} {xs : List Nat} {tp : Option Addr} {l : Fns} {D : Option Addr}
end

end Go.Proofs.YtdcnpaodcjfdbaaGreatDoor

/- Layer 14's statement FrameSlots. -/
namespace Go.Proofs.YtdcnpaodcjfdbaaGreatDoor
open Go.RowKit Go.ChangeShapes Go.WideShapes
set_option linter.unusedVariables false

section
variable {H : Type} {enc : TypeId × Value → H} {W : World} {sp : Nat → Bool} {hd : Bool}
theorem fx_int : Tryz.prog.cellsOf 3 = 1 := by kernel_rfl
def FrCells (cs : List Value) (x : FrV) : Prop := cs = [.int .i64 x.at_, .int .i64 x.fn, .int .i64 x.link] ∧ in64 x.at_ ∧ in64 x.fn ∧ in64 x.link
end

/-- A frame that lies in a block. -/
def XAt (b : Nat) (x : FrV) (W : World) : Prop := W.cell? ⟨b, 0, none⟩ = some (.int .i64 x.at_) ∧ W.cell? ⟨b, 1, none⟩ = some (.int .i64 x.fn) ∧ W.cell? ⟨b, 2, none⟩ = some (.int .i64 x.link)
theorem XAt.step {b : Nat} {x : FrV} {W W' : World} (h : XAt b x W) (hb : Below W.heap.size W W') : XAt b x W' := by
  have hl : b < W.heap.size := lt_of_cell' h.1
  exact ⟨(hb.cell (p := ⟨b, 0, none⟩) hl).trans h.1, (hb.cell (p := ⟨b, 1, none⟩) hl).trans h.2.1, (hb.cell (p := ⟨b, 2, none⟩) hl).trans h.2.2⟩
/-- A law's world: a table, and a frame in a block. -/
def SX (w : World) (b : Nat) (x : FrV) (p : Option Addr) (l : Fns) (W : World) : Prop := S13 w W p l ∧ XAt b x W
theorem stab_x (w : World) (b : Nat) (x : FrV) (p : Option Addr) (l : Fns) : Stab w p l (SX w b x p l) := ⟨fun _ h => h.1, fun _ _ h hb => ⟨h.1.step hb, h.2.step hb⟩⟩
section
variable {w : World} {b : Nat} {x : FrV} {p : Option Addr} {l : Fns} {A : Option Addr} {n c : Nat} {ys : List FnV}
theorem x_new (h : In13 w A n ys) (ht : TabDB w) {W : World} (s : Hid (SX w b x p l W)) (hr : fTab (vals ys) = true) :
    Calls Tryz.prog 4 #[.slice A n c] W fun e w' => ∃ q, e = .returned (.tuple #[.pointer (some ⟨q, 0, none⟩), .int .i64 0]) ∧ Hid (SX w b x (some ⟨q, 0, none⟩) (fOwns (vals ys)) w') :=
  (code_fNew A n c ys 0 W (h.at_ s.out.1.bel) (by have := h.few; omega) h.s1 (TabDB.below ht s.out.1.bel) hr).mono fun e w' ⟨q, h1, h2, h3⟩ => ⟨q, h1, hidb ⟨⟨s.out.1.bel.trans (h3.mono s.out.1.bel.size), _, _, h2.o, Nat.le_refl _, s.out.1.bel.size⟩, s.out.2.step h3⟩⟩
theorem x_new_no (h : In13 w A n ys) {W : World} (s : Hid (SX w b x p l W)) (hr : fTab (vals ys) = false) :
    Calls Tryz.prog 4 #[.slice A n c] W fun e w' => e = .returned (.tuple #[.pointer none, .int .i64 1]) ∧ Hid (SX w b x none [] w') :=
  (code_fNew_no A n c ys 0 W (h.at_ s.out.1.bel) (by have := h.few; omega) h.s1 hr).mono fun e w' ⟨h1, h3⟩ => ⟨h1, hidb ⟨⟨s.out.1.bel.trans (h3.mono s.out.1.bel.size), _, _, TbO.nil_ w' w.heap.size w.heap.size, Nat.le_trans s.out.1.bel.size h3.size, Nat.le_refl _⟩, s.out.2.step h3⟩⟩
end
section
variable {w : World} {p : Option Addr} {l : Fns} {St : World → Prop} {A : Option Addr} {n c : Nat} {ys : List FnV}
theorem q_rwords (k : Stab w p l St) (h : In13 w A n ys) {W : World} (s : Hid (St W)) (q : Nat) (f r : Int) (h1 : fSize (vals ys) f ≤ 1000) (h2 : -9223372036854775808 ≤ fSize (vals ys) f) (hr : fWords (vals ys) f = r) :
    Calls Tryz.prog 22 #[.slice A n c, .int .i64 f] (W.drewN q) fun e w'' => e = .returned (.int .i64 r) ∧ ∃ m, w'' = W.drewN m := by
  rw [← hr]
  exact (ref_fwordsR A n c ys _ _ (W.drewN q) f ((h.at_ (k.get _ s.out).bel).drewN q) (by have := h.few; omega) h1 h2).mono fun e w' ⟨h1, h2⟩ => ⟨h1, q, h2.symm⟩
end

theorem fSize_nil (f : Int) : fSize [] f = -1 := by unfold fSize; rw [if_pos (by simp only [List.length_nil]; omega)]
theorem frSlot_none {l : Fns} {x : FrV} (h : fSize l x.fn < 0) (i : Int) : frSlot l x i = (0, 2) := by
  unfold frSlot; rw [if_pos (by omega)]
theorem frEnd_none {l : Fns} {x : FrV} (h : fSize l x.fn < 0) : frEnd l x = -1 := by
  unfold frEnd fWords; rw [if_pos h, if_pos (by omega)]

end Go.Proofs.YtdcnpaodcjfdbaaGreatDoor

/- Layer 14's statement FrameWords. -/
namespace Go.Proofs.YtdcnpaodcjfdbaaGreatDoor
open Go.RowKit Go.ChangeShapes Go.WideShapes
set_option linter.unusedVariables false

/-- A frame that is laid: where, and which words. -/
theorem frPush_ok {xs ys : List Nat} {l : Fns} {lo sp f link at' : Int} (hl : ∀ x ∈ l, 0 ≤ x.1 ∧ x.1 ≤ 1000) (h : frPush xs l lo sp f link = (ys, at', 0)) :
    ∃ n s u v : Nat, 2 ≤ n ∧ sp = (s : Int) + (n : Int) ∧ at' = (s : Int) ∧ s + n ≤ xs.length ∧ link = (u : Int) - 1 ∧ f = (v : Int) - 1 ∧ u ≤ xs.length ∧ v ≤ l.length ∧ ys = aStore xs s (u :: v :: List.replicate (n - 2) 0) := by
  unfold frPush at h
  have hr := fWords_cases l hl f
  generalize hw : fWords l f = m at h hr
  by_cases c1 : m < 0 ∨ link < -1 ∨ (xs.length : Int) ≤ link
  · rw [if_pos c1] at h; injection h with _ h; injection h with _ h; omega
  · rw [if_neg c1] at h
    by_cases c2 : lo < 0 ∨ (xs.length : Int) < sp ∨ sp < lo ∨ sp - lo < m
    · rw [if_pos c2] at h; injection h with _ h; injection h with _ h; omega
    · rw [if_neg c2] at h
      injection h with h1 h
      injection h with h2 _
      refine ⟨m.toNat, (sp - m).toNat, (link + 1).toNat, (f + 1).toNat, by omega, by omega, by omega, by omega, by omega, by omega, by omega, by omega, ?_⟩
      rw [← h1]; rfl
/-- What stands where. -/
def frWant (mark n s u v i : Nat) : Nat := if i = s + 1 then v else if i = s then u else if s ≤ i ∧ i < s + n then 0 else mark
theorem frWant_at (N mark n s u v i : Nat) (hn : 2 ≤ n) (hs : s + n ≤ N) (hi : i < N) : (aStore (List.replicate N mark) s (u :: v :: List.replicate (n - 2) 0))[i]? = some (frWant mark n s u v i) := by
  have hlen : (u :: v :: List.replicate (n - 2) 0).length = n := by simp; omega
  rw [aStore_get _ _ _ (by rw [hlen, List.length_replicate]; exact hs), hlen]
  unfold frWant
  have hr : (List.replicate N mark)[i]? = some mark := by rw [List.getElem?_replicate, if_pos hi]
  by_cases h1 : i < s
  · rw [if_pos h1, if_neg (by omega), if_neg (by omega), if_neg (by omega)]; exact hr
  · rw [if_neg h1]
    by_cases h2 : i < s + n
    · rw [if_pos h2]
      obtain ⟨j, rfl⟩ : ∃ j, i = s + j := ⟨i - s, by omega⟩
      rw [show s + j - s = j by omega]
      match j with
      | 0 => rw [if_neg (by omega), if_pos (by omega)]; rfl
      | 1 => rw [if_pos rfl]; rfl
      | j + 2 =>
        rw [if_neg (by omega), if_neg (by omega), if_pos (by omega)]
        simp only [List.getElem?_cons_succ]
        rw [List.getElem?_replicate, if_pos (by omega)]
    · rw [if_neg h2, if_neg (by omega), if_neg (by omega), if_neg (by omega)]; exact hr
theorem aStore_whole (xs ys : List Nat) (h : ys.length = xs.length) : aStore xs 0 ys = ys := by
  unfold aStore; rw [List.take_zero, List.drop_of_length_le (by omega)]; simp
theorem frLaid_all (mark : Nat) : frLaid (List.replicate 256 mark) = List.replicate 256 mark := by
  unfold frLaid; exact aStore_whole _ _ (by rw [frZ_length, List.length_replicate])
theorem In13.at_w {w W : World} {A : Option Addr} {n : Nat} {ys : List FnV} (h : In13 w A n ys) (hb : Below w.heap.size w W) : In13 W A n ys := ⟨h.at_ hb, h.few, h.small⟩

end Go.Proofs.YtdcnpaodcjfdbaaGreatDoor
