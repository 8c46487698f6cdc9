/- What New, Pages, Of and At of layer 5 (index) return, and whether runs are there. -/
import Derived.Test.YtoghahldlnhpdaaRunRows
import Derived.Test.YtoghahldlnhpdaaIndexPlain
import Derived.Defers
import Derived.Recover
import Derived.Laws.Pointers
import Derived.Lib.SliceRun
namespace Go.Proofs.Ytoghahldlnhpdaa
open Go.RowKit
set_option linter.unusedVariables false

/-- An index: its cell, and its row of numbers in a block of its own; both from block B on. -/
structure Ix (w : World) (B p g n : Nat) (ids : List Int) : Prop where
  cell : w.cell? ⟨p, 0, none⟩ = some (.slice (some ⟨g, 0, none⟩) n n)
  heap : w.heap[g]? = some (.cells (ids.map iv).toArray 3 (0, 0))
  hlen : ids.length = n
  ge : B ≤ p
  geg : B ≤ g
  ne : p ≠ g
  small : n ≤ 1024

section
variable {w w' w'' : World} {B p g n : Nat} {ids ys : List Int}
theorem Ix.lt (h : Ix w B p g n ids) : g < w.heap.size := (Array.getElem?_eq_some_iff.1 h.heap).1
theorem Ix.ltp (h : Ix w B p g n ids) : p < w.heap.size := lt_of_cell h.cell
theorem Ix.at_ (h : Ix w B p g n ids) (j : Nat) : w.cell? ⟨g, j, none⟩ = (ids.map iv)[j]? := by simp [World.cell?, h.heap]
theorem Ix.int_ (h : Ix w B p g n ids) {j : Nat} (hj : j < n) : w.cell? ⟨g, j, none⟩ = some (.int .i64 (ids.getD j 0)) := by
  have hl := h.hlen
  rw [h.at_, List.getElem?_map, List.getElem?_eq_getElem (by omega), List.getD_eq_getElem?_getD, List.getElem?_eq_getElem (by omega)]; rfl
theorem Ix.free (h : Ix w B p g n ids) (j : Nat) : w.frozen? ⟨g, j, none⟩ = false := by simp [World.frozen?, h.heap]
theorem Ix.kept (h : Ix w B p g n ids) (hk : ∀ k, k < w.heap.size → w'.heap[k]? = w.heap[k]?) : Ix w' B p g n ids :=
  ⟨(World.cell?_of_block (w := w) (a := ⟨p, 0, none⟩) (hk p h.ltp)).trans h.cell, (hk g h.lt).trans h.heap, h.hlen, h.ge, h.geg, h.ne, h.small⟩
theorem Ix.below {B' : Nat} (h : Ix w B p g n ids) (hb : Below B' w w') (hB : w.heap.size ≤ B') : Ix w' B p g n ids := h.kept (fun k hk => hb.block k (by omega))
theorem Ix.alloc (h : Ix w B p g n ids) (o : Obj) : Ix (w.alloc o) B p g n ids := h.below ((Below.refl _ _).alloc (Nat.le_refl _) o) (Nat.le_refl _)
theorem Ix.drewN (h : Ix w B p g n ids) (q : Nat) : Ix (w.drewN q) B p g n ids := ⟨h.cell, h.heap, h.hlen, h.ge, h.geg, h.ne, h.small⟩
theorem Ix.more {B' : Nat} (h : Ix w B p g n ids) (hB : B' ≤ B) : Ix w B' p g n ids := ⟨h.cell, h.heap, h.hlen, by have := h.ge; omega, by have := h.geg; omega, h.ne, h.small⟩
theorem Ix.grown (h : Ix w B p g n ids) {k : Nat} (hg : w.grownBy w' (some k)) (hp : p ≠ k) (hk : g ≠ k) : Ix w' B p g n ids :=
  ⟨(World.cell?_of_block (w := w) (a := ⟨p, 0, none⟩) (hg.block p h.ltp (fun e => hp (by injection e)))).trans h.cell, (hg.block g h.lt (fun e => hk (by injection e))).trans h.heap, h.hlen, h.ge, h.geg, h.ne, h.small⟩
theorem Ix.set (h : Ix w B p g n ids) (j : Nat) (v : Int) : Ix (w.setCell ⟨g, j, none⟩ (.int .i64 v)) B p g n (ids.set j v) := by
  refine ⟨(World.cell?_setCell_other w _ _ _ (fun e => h.ne (by simp at e; exact e.1.symm))).trans h.cell, ?_, by rw [List.length_set]; exact h.hlen, h.ge, h.geg, h.ne, h.small⟩
  rw [heap_setCell_same w g j (ids.map iv).toArray 3 _ h.heap, List.map_set]
  simp [iv]
theorem Ix.sl (h : Ix w B p g n ids) : Sl w w.heap.size (some ⟨g, 0, none⟩) n (ids.map iv) :=
  ⟨by rw [List.length_map]; exact h.hlen, fun _ => ⟨g, 0, rfl, h.lt, fun j _ => by rw [Nat.zero_add]; exact h.at_ j⟩⟩
theorem grown_trans {r : Option Nat} (h : w.grownBy w' r) (k : w'.grownBy w'' r) : w.grownBy w'' r :=
  ⟨k.os.trans h.os, k.tape.trans h.tape, k.output.trans h.output, Nat.le_trans h.size k.size, fun i hi hr => (k.block i (by have := h.size; omega) hr).trans (h.block i hi hr)⟩
theorem grown_refl {r : Option Nat} (w : World) : w.grownBy w r := ⟨rfl, rfl, rfl, Nat.le_refl _, fun _ _ _ => rfl⟩
theorem grown_alloc {r : Option Nat} (h : w.grownBy w' r) (o : Obj) : w.grownBy (w'.alloc o) r := grown_trans h (World.grownBy_alloc w' o r)
theorem grown_draw {r : Option Nat} (h : w.grownBy w' r) : w.grownBy w'.drew r := ⟨h.os, h.tape, h.output, h.size, h.block⟩
theorem grown_drewN {r : Option Nat} (h : w.grownBy w' r) (q : Nat) : w.grownBy (w'.drewN q) r := ⟨h.os, h.tape, h.output, h.size, h.block⟩
theorem grown_row {g : Nat} (h : w.grownBy w' (some g)) (j : Nat) (u : Value) : w.grownBy (w'.setCell ⟨g, j, none⟩ u) (some g) :=
  ⟨h.os, h.tape, h.output, by simpa using h.size, fun k hk hr => (heap_setCell_other w' ⟨g, j, none⟩ k u (fun e => hr (by rw [e]))).trans (h.block k hk hr)⟩
theorem grown_new {r : Option Nat} (h : w.grownBy w' r) {a : Addr} (ha : w.heap.size ≤ a.block) (u : Value) : w.grownBy (w'.setCell a u) r :=
  ⟨h.os, h.tape, h.output, by simpa using h.size, fun k hk hr => (heap_setCell_other w' a k u (by omega)).trans (h.block k hk hr)⟩
theorem below_to_grown (h : Below w.heap.size w w') (r : Option Nat) : w.grownBy w' r := ⟨h.os, h.tape, h.output, h.size, fun k hk _ => h.block k hk⟩
end

theorem code_xpages (p : Nat) (A : Option Addr) (n c : Nat) (w : World) (hc : w.cell? ⟨p, 0, none⟩ = some (.slice A n c)) :
    Calls Try.prog 16 #[.pointer (some ⟨p, 0, none⟩)] w fun e w' => e = .returned (.int .i64 (n : Int)) ∧ w = w' := by
  go_enter Try.func16, Try.ntmps16
  go_wp2
  go_ret
  exact ⟨rfl, rfl⟩
theorem code_xpages_nil (w : World) :
    Calls Try.prog 16 #[.pointer none] w fun e w' => e = .returned (.int .i64 0) ∧ w = w' := by
  go_enter Try.func16, Try.ntmps16
  go_wp2
  go_ret
  exact ⟨rfl, rfl⟩

/-- An index that has n pages: so it is in all worlds behind this one. -/
def PagesAt (w : World) (v : Value) (n : Nat) : Prop := ∀ w', Below w.heap.size w w' → Calls Try.prog 16 #[v] w' fun e w'' => e = .returned (.int .i64 (n : Int)) ∧ w' = w''
theorem PagesAt.below {w w' : World} {v : Value} {n : Nat} (h : PagesAt w v n) (hb : Below w.heap.size w w') : PagesAt w' v n := fun w2 h2 => h w2 (hb.trans (h2.mono hb.size))
theorem PagesAt.nil_ (w : World) : PagesAt w (.pointer none) 0 := fun w' _ => code_xpages_nil w'
theorem Ix.pages {w : World} {B p g n : Nat} {ids : List Int} (h : Ix w B p g n ids) : PagesAt w (.pointer (some ⟨p, 0, none⟩)) n := fun w' hb => code_xpages p _ n n w' (h.below hb (Nat.le_refl _)).cell
theorem PagesAt.quiet {w : World} {v : Value} {n : Nat} (h : PagesAt w v n) (q : Nat) : Calls Try.prog 16 #[v] (w.drewN q) fun e w' => e = .returned (.int .i64 (n : Int)) ∧ ∃ m, w' = w.drewN m :=
  (h _ (belowN (Below.refl _ _) q)).mono fun _ _ ⟨x, y⟩ => ⟨x, q, y.symm⟩

/-- An index that a call made. -/
def ResIx (w : World) (n : Nat) (ids : List Int) (e : Ending) (w' : World) : Prop := ∃ p g, e = .returned (.pointer (some ⟨p, 0, none⟩)) ∧ Ix w' w.heap.size p g n ids ∧ Below w.heap.size w w'
theorem noughts (n : Nat) : (madeCells (Value.int .i64 0).cells (n * 1)).toList = (List.replicate n 0).map iv := by
  rw [Nat.mul_one]
  exact (toList_madeCells_one _ n).trans (by simp [iv])
theorem heap_of_ints {w : World} {base : Nat} {g n : Nat} {xs : List Int} (h : w.ownsRow base 3 1 (.slice (some ⟨g, 0, none⟩) n n) n (xs.map iv)) : w.heap[g]? = some (.cells (xs.map iv).toArray 3 (0, 0)) := by
  rcases h.2 with ⟨h1, _⟩ | ⟨g', cap, cur, h1, _, hh, _, _, hs, ht⟩
  · cases h1
  · injection h1 with h2 h3 h4
    injection h2 with h2
    injection h2 with h2
    subst h2 h4
    rw [hh, ← ht, List.take_of_length_le (by simp [hs])]
theorem code_xnew_at (pages : Int) (n : Nat) (w : World) (hw : (pages < 0 ∧ n = 0) ∨ (1024 < pages ∧ n = 1024) ∨ (0 ≤ pages ∧ pages ≤ 1024 ∧ pages = n)) (h0 : -9223372036854775808 ≤ pages) (h1 : pages ≤ 9223372036854775807) :
    Calls Try.prog 8 #[.int .i64 pages] w (ResIx w n (List.replicate n 0)) := by
  obtain ⟨i0, hi, hz0, hz1, hz2⟩ := info_parts info_int
  have fin : ∀ w1, w1.ownsRow w.heap.size 3 1 (.slice (some ⟨w.heap.size, 0, none⟩) n n) n (madeCells (Value.int .i64 0).cells (n * 1)).toList → w.grownBy w1 none → n ≤ 1024 →
      ResIx w n (List.replicate n 0) (.returned (.pointer (some ⟨w1.heap.size, 0, none⟩))) (w1.alloc (.cells #[.slice (some ⟨w.heap.size, 0, none⟩) n n] 49)) := fun w1 hown hgrow hn => by
    rw [noughts] at hown
    have hlt : w.heap.size < w1.heap.size := (hown.lt w.heap.size rfl).2
    refine ⟨w1.heap.size, w.heap.size, rfl, ⟨by simp, ?_, by simp, by omega, by omega, by omega, hn⟩, ?_⟩
    · rw [Below.heap_alloc _ _ _ hlt]; exact heap_of_ints hown
    · exact ((Below.refl _ _).grown hgrow (Nat.le_refl _) (fun k hk => by cases hk)).alloc (by omega) _
  have FIN := hidb fin
  clear fin
  rcases hw with ⟨h2, rfl⟩ | ⟨h2, h3⟩ | ⟨h2, h3, rfl⟩
  · go_enter Try.func8, Try.ntmps8
    go_wp2_with (at_make; refine wpList_make_full w rfl _ _ 26 rfl w.heap.size 3 i0 (.int .i64 0) 1 Try.underlying26 hi hz0 hz1 .i64 .i64 _ _ 0 rfl rfl (by omega) (by omega) (by rw [hz2]; omega) (by unfold maxLen; omega) (Nat.le_refl _) ?_; intro w1 hown hgrow)
    go_ret
    exact FIN.out w1 hown hgrow (by omega)
  · have H3 := hidb h3
    clear h3
    have h4 : ¬ pages < 0 := by omega
    go_enter Try.func8, Try.ntmps8
    go_wp2_with (at_make; refine wpList_make_full w rfl _ _ 26 rfl w.heap.size 3 i0 (.int .i64 0) 1 Try.underlying26 hi hz0 hz1 .i64 .i64 _ _ n rfl rfl (by have := H3.out; omega) (by have := H3.out; omega) (by have := H3.out; rw [hz2]; omega) (by have := H3.out; unfold maxLen; omega) (Nat.le_refl _) ?_; intro w1 hown hgrow)
    go_ret
    exact FIN.out w1 hown hgrow (by have := H3.out; omega)
  · have h4 : ¬ (1024 : Int) < n := by omega
    go_enter Try.func8, Try.ntmps8
    go_wp2_with (at_make; refine wpList_make_full w rfl _ _ 26 rfl w.heap.size 3 i0 (.int .i64 0) 1 Try.underlying26 hi hz0 hz1 .i64 .i64 _ _ n rfl rfl (by omega) (by omega) (by rw [hz2]; omega) (by unfold maxLen; omega) (Nat.le_refl _) ?_; intro w1 hown hgrow)
    go_ret
    exact FIN.out w1 hown hgrow (by omega)
theorem code_xnew (pages : Int) (w : World) (h0 : in64 pages) :
    Calls Try.prog 8 #[.int .i64 pages] w (ResIx w (max 0 (min pages 1024)).toNat (xNew pages)) :=
  code_xnew_at pages _ w (by omega) h0.1 h0.2

theorem code_xof {w : World} {B p g n : Nat} {ids : List Int} (hx : Ix w B p g n ids) (page : Int) (h0 : in64 page) :
    Calls Try.prog 13 #[.pointer (some ⟨p, 0, none⟩), .int .i64 page] w fun e w' => e = .returned (.int .i64 (xOf ids page)) ∧ w = w' := by
  obtain ⟨h00, h01⟩ := h0
  have hc := hx.cell
  have cp := code_xpages p _ n n w hc
  have hl := hx.hlen
  have hsm := hx.small
  by_cases h1 : page < 0
  · have E : xOf ids page = 0 := by unfold xOf; rw [if_neg (by omega)]
    rw [E]; clear E hx cp hc hl
    go_enter Try.func13, Try.ntmps13
    go_wp2
    go_ret
    exact ⟨rfl, rfl⟩
  · by_cases h2 : (n : Int) ≤ page
    · have E : xOf ids page = 0 := by unfold xOf; rw [if_neg (by omega)]
      rw [E]; clear E hx hl hc
      go_enter Try.func13, Try.ntmps13
      go_wp2_with (go_at_call 16; (with_reducible refine cp.mono ?_); rintro e w' ⟨rfl, rfl⟩)
      go_ret
      exact ⟨rfl, rfl⟩
    · obtain ⟨k, hk⟩ : ∃ k : Nat, page = k := ⟨page.toNat, by omega⟩
      subst hk
      have E : xOf ids (k : Int) = ids.getD k 0 := by unfold xOf; rw [if_pos (by omega), Int.toNat_natCast]
      have hck := hx.int_ (j := k) (by omega)
      obtain ⟨y, hy⟩ : ∃ y, ids.getD k 0 = y := ⟨_, rfl⟩
      rw [hy] at E hck
      rw [E]
      have hk0 : (0 : Int) ≤ (k : Int) := by omega
      have hk1 : (k : Int) < (n : Int) := by omega
      clear E hx hl hy
      go_enter Try.func13, Try.ntmps13
      go_wp2_with (go_at_call 16; (with_reducible refine cp.mono ?_); rintro e w' ⟨rfl, rfl⟩)
      go_ret
      exact ⟨rfl, rfl⟩
theorem code_xof_nil (w : World) (page : Int) (h0 : in64 page) :
    Calls Try.prog 13 #[.pointer none, .int .i64 page] w fun e w' => e = .returned (.int .i64 0) ∧ w = w' := by
  obtain ⟨h00, h01⟩ := h0
  have cp := code_xpages_nil w
  by_cases h1 : page < 0
  · clear cp
    go_enter Try.func13, Try.ntmps13
    go_wp2
    go_ret
    exact ⟨rfl, rfl⟩
  · have h2 : (0 : Int) ≤ page := by omega
    go_enter Try.func13, Try.ntmps13
    go_wp2_with (go_at_call 16; (with_reducible refine cp.mono ?_); rintro e w' ⟨rfl, rfl⟩)
    go_ret
    exact ⟨rfl, rfl⟩

/-- The page of an address. -/
def pageOf (a : Int) : Int := if a < 0 then -1 else a / 64
theorem code_apage (a : Int) (w : World) (h0 : in64 a) :
    Calls Try.prog 28 #[.int .i64 a] w fun e w' => e = .returned (.int .i64 (pageOf a)) ∧ w = w' := by
  obtain ⟨h00, h01⟩ := h0
  unfold pageOf
  by_cases h1 : a < 0
  · rw [if_pos h1]
    go_enter Try.func28, Try.ntmps28
    go_wp2
    go_ret
    exact ⟨rfl, rfl⟩
  · rw [if_neg h1]
    have h2 : 0 ≤ a := by omega
    go_enter Try.func28, Try.ntmps28
    go_wp2
    go_ret
    exact ⟨rfl, rfl⟩
theorem pageOf_in64 {a : Int} (h : in64 a) : in64 (pageOf a) := by
  unfold pageOf in64 at *
  split <;> omega
theorem code_xat {w : World} {B p g n : Nat} {ids : List Int} (hx : Ix w B p g n ids) (a : Int) (h0 : in64 a) :
    Calls Try.prog 15 #[.pointer (some ⟨p, 0, none⟩), .int .i64 a] w fun e w' => e = .returned (.int .i64 (xOf ids (pageOf a))) ∧ w = w' := by
  have c1 := code_apage a w h0
  have c2 := code_xof hx (pageOf a) (pageOf_in64 h0)
  clear hx
  go_enter Try.func15, Try.ntmps15
  go_wp2_with (first
    | (go_at_call 28; (with_reducible refine c1.mono ?_); rintro e w' ⟨rfl, rfl⟩)
    | (go_at_call 13; (with_reducible refine c2.mono ?_); rintro e w' ⟨rfl, rfl⟩))
  go_ret
  exact ⟨rfl, rfl⟩
theorem code_xat_nil (w : World) (a : Int) (h0 : in64 a) :
    Calls Try.prog 15 #[.pointer none, .int .i64 a] w fun e w' => e = .returned (.int .i64 0) ∧ w = w' := by
  have c1 := code_apage a w h0
  have c2 := code_xof_nil w (pageOf a) (pageOf_in64 h0)
  go_enter Try.func15, Try.ntmps15
  go_wp2_with (first
    | (go_at_call 28; (with_reducible refine c1.mono ?_); rintro e w' ⟨rfl, rfl⟩)
    | (go_at_call 13; (with_reducible refine c2.mono ?_); rintro e w' ⟨rfl, rfl⟩))
  go_ret
  exact ⟨rfl, rfl⟩

end Go.Proofs.Ytoghahldlnhpdaa
