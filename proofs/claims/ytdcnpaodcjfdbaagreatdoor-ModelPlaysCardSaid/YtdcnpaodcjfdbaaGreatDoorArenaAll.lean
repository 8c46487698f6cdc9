/- Several texts in one: ArenaMath, Clone, ArenaCode, ArenaCode2, ArenaCode3, ArenaCode4. -/
import Derived.Test.YtdcnpaodcjfdbaaGreatDoorRowWords
import Derived.Test.YtdcnpaodcjfdbaaGreatDoorRows7
import Derived.Lib.SliceRun
import Derived.Defers
import Derived.Recover
import Derived.Laws.Pointers
import Derived.Laws.CopyOwn
/- Rows of words: plain facts on layer 4 (arena). No program is named here. -/
namespace Go.Proofs.YtdcnpaodcjfdbaaGreatDoor

/-- Are k words from an address on there, of so many? -/
def aIn (len : Nat) (at' k : Int) : Bool := decide (0 ≤ at' ∧ 0 ≤ k ∧ at' + k ≤ (len : Int))
/-- k words from an address on. -/
def aRow (xs : List Nat) (at' k : Nat) : List Nat := (xs.drop at').take k
/-- The words behind a store. -/
def aStore (xs : List Nat) (at' : Nat) (ys : List Nat) : List Nat := xs.take at' ++ ys ++ xs.drop (at' + ys.length)

theorem aRow_length (xs : List Nat) (at' k : Nat) (h : at' + k ≤ xs.length) : (aRow xs at' k).length = k := by
  unfold aRow; rw [List.length_take, List.length_drop]; omega
theorem aRow_succ (xs : List Nat) (at' j : Nat) (x : Nat) (h : xs[at' + j]? = some x) : aRow xs at' (j + 1) = aRow xs at' j ++ [x] := by
  unfold aRow
  rw [List.take_add_one, List.getElem?_drop, h]; rfl
theorem aRow_zero (xs : List Nat) (at' : Nat) : aRow xs at' 0 = [] := by unfold aRow; simp
theorem aStore_length (xs : List Nat) (at' : Nat) (ys : List Nat) (h : at' + ys.length ≤ xs.length) : (aStore xs at' ys).length = xs.length := by
  unfold aStore; rw [List.length_append, List.length_append, List.length_take, List.length_drop]; omega
theorem aStore_nil (xs : List Nat) (at' : Nat) : aStore xs at' [] = xs := by unfold aStore; simp
theorem aStore_get (xs : List Nat) (at' : Nat) (ys : List Nat) (h : at' + ys.length ≤ xs.length) (i : Nat) : (aStore xs at' ys)[i]? = if i < at' then xs[i]? else if i < at' + ys.length then ys[i - at']? else xs[i]? := by
  unfold aStore
  have e : min at' xs.length = at' := by omega
  by_cases h1 : i < at'
  · rw [if_pos h1, List.getElem?_append_left (by rw [List.length_append, List.length_take]; omega), List.getElem?_append_left (by rw [List.length_take]; omega), List.getElem?_take_of_lt h1]
  · rw [if_neg h1]
    by_cases h2 : i < at' + ys.length
    · rw [if_pos h2, List.getElem?_append_left (by rw [List.length_append, List.length_take]; omega), List.getElem?_append_right (by rw [List.length_take]; omega), List.length_take, e]
    · rw [if_neg h2, List.getElem?_append_right (by rw [List.length_append, List.length_take]; omega), List.length_append, List.length_take, e, List.getElem?_drop, show at' + ys.length + (i - (at' + ys.length)) = i by omega]
/-- One word more. -/
theorem aStore_succ (xs : List Nat) (at' : Nat) (ys : List Nat) (y : Nat) (h : at' + ys.length < xs.length) : aStore xs at' (ys ++ [y]) = (aStore xs at' ys).set (at' + ys.length) y := by
  apply List.ext_getElem?
  intro i
  rw [List.getElem?_set, aStore_length xs at' ys (by omega), aStore_get xs at' ys (by omega), aStore_get xs at' (ys ++ [y]) (by simp; omega)]
  rw [List.length_append, List.length_singleton]
  by_cases h1 : i < at'
  · rw [if_pos h1, if_pos h1, if_neg (by omega)]
  · rw [if_neg h1, if_neg h1]
    by_cases h2 : i < at' + ys.length
    · rw [if_pos (by omega), if_neg (by omega), if_pos h2, List.getElem?_append_left (by omega)]
    · by_cases h3 : at' + ys.length = i
      · subst h3
        rw [if_pos (by omega), if_pos rfl, if_pos h, List.getElem?_append_right (by omega)]
        simp
      · rw [if_neg (by omega), if_neg h3, if_neg h2]
theorem aStore_take (xs : List Nat) (at' : Nat) (ys : List Nat) (j y : Nat) (hy : ys[j]? = some y) (h : at' + ys.length ≤ xs.length) : aStore xs at' (ys.take (j + 1)) = (aStore xs at' (ys.take j)).set (at' + j) y := by
  have hj : j < ys.length := by
    rcases Nat.lt_or_ge j ys.length with h | h
    · exact h
    · rw [List.getElem?_eq_none h] at hy; cases hy
  rw [List.take_add_one, hy]
  have := aStore_succ xs at' (ys.take j) y (by rw [List.length_take]; omega)
  rw [List.length_take, Nat.min_eq_left (by omega)] at this
  exact this
theorem aRow_get (xs : List Nat) (at' k i : Nat) : (aRow xs at' k)[i]? = if i < k then xs[at' + i]? else none := by
  unfold aRow
  by_cases h : i < k
  · rw [if_pos h, List.getElem?_take_of_lt h, List.getElem?_drop]
  · rw [if_neg h, List.getElem?_eq_none (by rw [List.length_take]; omega)]
/-- What was stored is read. -/
theorem aRow_same (xs : List Nat) (at' : Nat) (ys : List Nat) (n : Nat) (hn : ys.length = n) (h : at' + n ≤ xs.length) : aRow (aStore xs at' ys) at' n = ys := by
  apply List.ext_getElem?
  intro i
  rw [aRow_get, aStore_get xs at' ys (by omega)]
  by_cases hi : i < n
  · rw [if_pos hi, if_neg (by omega), if_pos (by omega), show at' + i - at' = i by omega]
  · rw [if_neg hi, List.getElem?_eq_none (by omega)]
/-- What stands elsewhere is read as it was. -/
theorem aRow_other (xs : List Nat) (at' : Nat) (ys : List Nat) (b n : Nat) (h : at' + ys.length ≤ xs.length) (hd : b + n ≤ at' ∨ at' + ys.length ≤ b) : aRow (aStore xs at' ys) b n = aRow xs b n := by
  apply List.ext_getElem?
  intro i
  rw [aRow_get, aRow_get, aStore_get xs at' ys h]
  by_cases hi : i < n
  · rw [if_pos hi, if_pos hi]
    by_cases h1 : b + i < at'
    · rw [if_pos h1]
    · rw [if_neg h1, if_neg (by omega)]
  · rw [if_neg hi, if_neg hi]

end Go.Proofs.YtdcnpaodcjfdbaaGreatDoor

/- slices.Clone of a row of words: a copy of the call's own. -/
namespace Go.Proofs.YtdcnpaodcjfdbaaGreatDoor
open Go.RowKit
set_option linter.unusedVariables false

theorem wclone_nil (w : World) (A : Option Addr) (n c : Nat) : (binOp .eql 51 (.slice A n c) (.slice none 0 0)).run Tryz.prog w = .ok (.bool A.isNone) w := Lib.run_eql_slice_nil w 51 32 A n c 0 0 (by kernel_rfl)

theorem code_wclone (A : Option Addr) (n c : Nat) (ws : List Nat) (w : World) (hs : Sl w w.heap.size A n (ws.map wv)) (hn : n ≤ 65536) (hA : A = none → c = 0) :
    Calls Tryz.prog 94 #[.slice A n c] w (OwnWords w ws) := by
  obtain ⟨i0, hi, hz0, hz1, hz2⟩ := info_parts info_u64
  have l1 : ws.length = n := by have := hs.1; simpa using this
  cases A with
  | none =>
    obtain rfl : n = 0 := by
      refine Nat.eq_zero_of_not_pos fun h => ?_
      obtain ⟨b, off, e, _⟩ := hs.2 h
      cases e
    obtain rfl : c = 0 := hA rfl
    obtain rfl : ws = [] := List.eq_nil_of_length_eq_zero l1
    clear hs l1
    have q := wclone_nil w none 0 0
    go_enter Tryz.func94, Tryz.ntmps94
    go_wp2
    go_ret
    exact ⟨none, 0, rfl, World.ownsRow_nil _ _ _ _, Below.refl _ _⟩
  | some p =>
    have HS := hidb hs
    have L1 := hidb l1
    clear hs l1
    have q := wclone_nil w (some p) n c
    have hnews : Hid (∀ j u, (ws.map wv)[j]? = some u → (w.alloc (.cells #[] 32)).cell? (p.add j) = some u) := hidb (fun j u hu => by
      have hj : j < n := by
        have := (List.getElem?_eq_some_iff.1 hu).1
        rw [List.length_map, L1.out] at this; exact this
      obtain ⟨b, off, e, hb, hcells⟩ := HS.out.2 (by omega)
      obtain rfl : p = ⟨b, off, none⟩ := by injection e
      rw [Go.WideShapes.add_plain, World.cell?_alloc_lt w _ _ hb, hcells j hj, hu])
    have hone : Hid (∀ u ∈ ws.map wv, u.oneCell' = true) := hidb (fun u hu => by
      obtain ⟨x, _, rfl⟩ := List.mem_map.1 hu; rfl)
    have hown0 := hidb (ownsRow_empty w 32)
    go_enter Tryz.func94, Tryz.ntmps94
    go_wp2_with (at_builtin; refine wpList_append_own (w.alloc (.cells #[] 32)) rfl _ _ 51 rfl w.heap.size 32 i0 (.int .u64 0) 1 8 Tryz.underlying51 hi hz0 hz1 hz2 rfl (by decide) _ 0 [] rfl (by exact hown0.out) p n c (ws.map wv) rfl (by rw [List.length_map, L1.out, Nat.mul_one]) (by exact hnews.out) (by exact hone.out) (by unfold maxLen; omega) (by omega) (by simp) ?_; intro v1 w1 hown1 hg1 _)
    rw [Nat.zero_add, List.nil_append] at hown1
    have P : Hid (OwnWords w ws (.returned v1) w1) := hidb (by
      obtain ⟨A', c', rfl⟩ := own_form hown1
      rw [← L1.out] at hown1 ⊢
      refine ⟨A', c', rfl, hown1, ?_⟩
      exact ((Below.refl _ _).alloc (Nat.le_refl _) _).grown hg1 (by simp) (fun k hk => (hown0.out.lt k hk).1))
    clear hown1 hg1
    go_wp2
    go_ret
    exact P.out

theorem code_wclone_none (w : World) :
    Calls Tryz.prog 94 #[.slice none 0 0] w fun e w' => e = .returned (.slice none 0 0) ∧ w = w' := by
  have q := wclone_nil w none 0 0
  go_enter Tryz.func94, Tryz.ntmps94
  go_wp2
  go_ret
  exact ⟨rfl, rfl⟩

end Go.Proofs.YtdcnpaodcjfdbaaGreatDoor

/- What each function of layer 4 (arena) returns. -/
namespace Go.Proofs.YtdcnpaodcjfdbaaGreatDoor
open Go.RowKit
set_option linter.unusedVariables false

/-- An arena: its cell, and its row of words in a block of its own; both from block B on. -/
structure Ar (w : World) (B p g len : Nat) (xs : List Nat) : Prop where
  cell : w.cell? ⟨p, 0, none⟩ = some (.slice (some ⟨g, 0, none⟩) len len)
  heap : w.heap[g]? = some (.cells (xs.map wv).toArray 32 (0, 0))
  hlen : xs.length = len
  ge : B ≤ p
  geg : B ≤ g
  ne : p ≠ g
  small : len ≤ 65536

section
variable {w w' w'' : World} {B p g len : Nat} {xs ys : List Nat}
theorem Ar.lt (h : Ar w B p g len xs) : g < w.heap.size := (Array.getElem?_eq_some_iff.1 h.heap).1
theorem Ar.ltp (h : Ar w B p g len xs) : p < w.heap.size := lt_of_cell h.cell
theorem Ar.word (h : Ar w B p g len xs) (j : Nat) : w.cell? ⟨g, j, none⟩ = (xs.map wv)[j]? := by
  simp [World.cell?, h.heap]
theorem Ar.kept (h : Ar w B p g len xs) (hk : ∀ k, k < w.heap.size → w'.heap[k]? = w.heap[k]?) : Ar w' B p g len xs :=
  ⟨(World.cell?_of_block (w := w) (a := ⟨p, 0, none⟩) (hk p h.ltp)).trans h.cell, (hk g h.lt).trans h.heap, h.hlen, h.ge, h.geg, h.ne, h.small⟩
theorem Ar.below {B' : Nat} (h : Ar w B p g len xs) (hb : Below B' w w') (hB : w.heap.size ≤ B') : Ar w' B p g len xs := h.kept (fun k hk => hb.block k (by omega))
theorem Ar.alloc (h : Ar w B p g len xs) (o : Obj) : Ar (w.alloc o) B p g len xs := h.below ((Below.refl _ _).alloc (Nat.le_refl _) o) (Nat.le_refl _)
theorem Ar.more {B' : Nat} (h : Ar w B p g len xs) (hB : B' ≤ B) : Ar w B' p g len xs := ⟨h.cell, h.heap, h.hlen, by have := h.ge; omega, by have := h.geg; omega, h.ne, h.small⟩
theorem Ar.setRow (h : Ar w B p g len xs) (hy : ys.length = len) : Ar (w.setRow g (ys.map wv).toArray) B p g len ys :=
  ⟨(World.cell?_of_block (w := w) (a := ⟨p, 0, none⟩) (setRow_other w g p _ h.ne)).trans h.cell, setRow_heap w g _ _ _ _ h.heap, hy, h.ge, h.geg, h.ne, h.small⟩
theorem Ar.setCell (h : Ar w B p g len xs) {a : Addr} (hp : a.block ≠ p) (hg : a.block ≠ g) (u : Value) : Ar (w.setCell a u) B p g len xs :=
  ⟨(World.cell?_of_block (w := w) (a := ⟨p, 0, none⟩) (Below.heap_setCell _ _ _ _ (by show p ≠ _; omega))).trans h.cell, (Below.heap_setCell _ _ _ _ (by omega)).trans h.heap, h.hlen, h.ge, h.geg, h.ne, h.small⟩
theorem Ar.sl (h : Ar w B p g len xs) : Sl w w.heap.size (some ⟨g, 0, none⟩) len (xs.map wv) :=
  ⟨by rw [List.length_map]; exact h.hlen, fun _ => ⟨g, 0, rfl, h.lt, fun j _ => by rw [Nat.zero_add]; exact h.word j⟩⟩
theorem grown_trans {r : Option Nat} (h : w.grownBy w' r) (k : w'.grownBy w'' r) : w.grownBy w'' r :=
  ⟨k.os.trans h.os, k.tape.trans h.tape, k.output.trans h.output, Nat.le_trans h.size k.size, fun i hi hr => (k.block i (by have := h.size; omega) hr).trans (h.block i hi hr)⟩
theorem grown_alloc {r : Option Nat} (h : w.grownBy w' r) (o : Obj) : w.grownBy (w'.alloc o) r := grown_trans h (World.grownBy_alloc w' o r)
theorem grown_setRow (h : w.grownBy w' (some g)) (cs : Array Value) : w.grownBy (w'.setRow g cs) (some g) :=
  grown_trans h ⟨rfl, rfl, rfl, by simp, fun k hk hr => setRow_other w' g k cs (fun e => hr (by rw [e]))⟩
theorem grown_setCell {r : Option Nat} (h : w.grownBy w' r) {a : Addr} (ha : w.heap.size ≤ a.block) (u : Value) : w.grownBy (w'.setCell a u) r :=
  ⟨h.os, h.tape, h.output, by have := h.size; simp [World.setCell]; omega, fun k hk hr => (Below.heap_setCell _ _ _ _ (by omega)).trans (h.block k hk hr)⟩
theorem below_to_grown (h : Below w.heap.size w w') (r : Option Nat) : w.grownBy w' r := ⟨h.os, h.tape, h.output, h.size, fun k hk _ => h.block k hk⟩
end

theorem aiface_nil_no (W : World) (T : TypeId) (v : Value) : (binOp .eql 20 (.iface T v) .nilIface).run Tryz.prog W = .ok (.bool false) W := by kernel_rfl
theorem anil_iface_yes (W : World) : (binOp .eql 20 .nilIface .nilIface).run Tryz.prog W = .ok (.bool true) W := by kernel_rfl

end Go.Proofs.YtdcnpaodcjfdbaaGreatDoor

/- What New, Load and Row of layer 4 (arena) return. -/
namespace Go.Proofs.YtdcnpaodcjfdbaaGreatDoor
open Go.RowKit
set_option linter.unusedVariables false

theorem zero_words (n : Nat) : (madeCells (Value.int .u64 0).cells (n * 1)).toList = (List.replicate n 0).map wv := by
  rw [Nat.mul_one]
  exact (toList_madeCells_one _ n).trans (by simp [wv])

theorem heap_of_own {w : World} {base : Nat} {g n : Nat} {xs : List Nat} (h : w.ownsRow base 32 1 (.slice (some ⟨g, 0, none⟩) n n) n (xs.map wv)) : w.heap[g]? = some (.cells (xs.map wv).toArray 32 (0, 0)) := by
  rcases h.2 with ⟨h1, _⟩ | ⟨g', cap, cur, h1, _, hh, _, _, hs, ht⟩
  · cases h1
  · injection h1 with h2 h3 h4
    injection h2 with h2
    injection h2 with h2
    subst h2 h4
    rw [hh, ← ht, List.take_of_length_le (by simp [hs])]

end Go.Proofs.YtdcnpaodcjfdbaaGreatDoor

/- What Store and Row of layer 4 (arena) return. -/
namespace Go.Proofs.YtdcnpaodcjfdbaaGreatDoor
open Go.RowKit
set_option linter.unusedVariables false

/-- copy of words into a row of words. -/
theorem wpList_copy_words {P : Program} {w : World} {ops : Array Oper} {rest : List Oper} {o : Oper} {a : Act} {Q : Exit → Act → World → Prop} (hgd : o.guard = none) (d s : Operand) (dT sT : TypeId)
    (ho : o.op = .call { callee := .builtin .copy, args := #[d, s], argTypes := #[dT, sT] }) (elem : TypeId) (hu : P.underlying dT = some (.slice elem)) (hsz : (P.info? elem).map (·.size) = some 1)
    (g off n dCap : Nat) (A : Option Addr) (sCap : Nat) (hd : a.eval d = .slice (some ⟨g, off, none⟩) n dCap) (hs : a.eval s = .slice A n sCap)
    (xs ys : List Nat) (t : TypeId) (hg : w.heap[g]? = some (.cells (xs.map wv).toArray t (0, 0))) (B : Nat) (hsl : Sl w B A n (ys.map wv)) (hn : 0 < n) (hfit : off + n ≤ xs.length)
    (h : ∀ w2, Hid (w2 = w.setRow g ((aStore xs off ys).map wv).toArray) → wpList P ops Q rest (a.put o.dst (goInt n)) w2) : wpList P ops Q (o :: rest) a w := by
  have hl : ys.length = n := by have := hsl.1; simpa using this
  obtain ⟨b, off2, rfl, hb, hcells⟩ := hsl.2 hn
  refine wpList_copy_own hgd d s dT sT ho elem hu hsz g off n dCap ⟨b, off2, none⟩ n sCap hd hs _ t hg (ys.map wv) (by rw [List.length_map, hl]; exact (Nat.min_self n).symm) ?_ (by simp; omega) ?_ ?_
  · intro j v hj
    have hjn : j < n := by have := (List.getElem?_eq_some_iff.1 hj).1; rw [List.length_map] at this; omega
    rw [Go.WideShapes.add_plain, hcells j hjn]; exact hj
  · intro v hv
    obtain ⟨x, _, rfl⟩ := List.mem_map.1 hv; rfl
  · have := h _ (show Hid (_ = _) from rfl)
    rw [List.length_map, hl]
    unfold aStore at this
    simpa [hl] using this

/-- The cell of a result that a call defers to. -/
def eCell (w : World) : World := w.alloc (.cells #[.int .i64 0] 26)

theorem eCell_cell {w w1 : World} (hb : Below (eCell w).heap.size (eCell w) w1) : w1.cell? ⟨w.heap.size, 0, none⟩ = some (.int .i64 0) := by
  unfold eCell at hb; rw [hb.cell (by simp)]; simp
theorem eCell_free {w w1 : World} (hb : Below (eCell w).heap.size (eCell w) w1) : w1.frozen? ⟨w.heap.size, 0, none⟩ = false := by
  unfold eCell at hb; rw [hb.frozen (by simp)]; simp [go_sem]
theorem eCell_size (w : World) : (eCell w).heap.size = w.heap.size + 1 := by unfold eCell; simp

/-- The end of a call that has written a row of words. -/
theorem end_row {w w2 : World} {B p g len : Nat} {xs ys : List Nat} (ha : Ar w B p g len xs) (hw2 : w2 = (eCell w).setRow g (ys.map wv).toArray) (hy : ys.length = len) :
    w2.cell? ⟨w.heap.size, 0, none⟩ = some (.int .i64 0) ∧ w2.frozen? ⟨w.heap.size, 0, none⟩ = false ∧
      Ar ((w2.setCell ⟨w.heap.size, 0, none⟩ (.int .i64 0)).setCell ⟨w.heap.size, 0, none⟩ (.int .i64 0)) B p g len ys ∧ w.grownBy ((w2.setCell ⟨w.heap.size, 0, none⟩ (.int .i64 0)).setCell ⟨w.heap.size, 0, none⟩ (.int .i64 0)) (some g) := by
  have hg := ha.lt
  have hp := ha.ltp
  subst hw2
  have hk : ((eCell w).setRow g (ys.map wv).toArray).heap[w.heap.size]? = (eCell w).heap[w.heap.size]? := setRow_other _ _ _ _ (by omega)
  refine ⟨?_, ?_, ?_, ?_⟩
  · rw [World.cell?_of_block (w := eCell w) (a := ⟨w.heap.size, 0, none⟩) hk]; exact eCell_cell (Below.refl _ _)
  · rw [World.frozen?_of_block (w := eCell w) (a := ⟨w.heap.size, 0, none⟩) hk]; exact eCell_free (Below.refl _ _)
  · exact (((ha.alloc _).setRow hy).setCell (by show w.heap.size ≠ p; omega) (by show w.heap.size ≠ g; omega) _).setCell (by show w.heap.size ≠ p; omega) (by show w.heap.size ≠ g; omega) _
  · exact grown_setCell (grown_setCell (grown_setRow (World.grownBy_alloc _ _ _) _) (Nat.le_refl _) _) (Nat.le_refl _) _

/-- clear of a part of a row of words. -/
theorem run_clear_row {P : Program} (w : World) (t e ty : TypeId) (ht : P.underlying t = some (.slice e)) (hv : ∀ w, (zeroValue e).run P w = .ok (.int .u64 0) w) (g o n c : Nat) (xs : List Nat) (u : TypeId) (hn : 0 < n)
    (hg : w.heap[g]? = some (.cells (xs.map wv).toArray u (0, 0))) (hfit : o + n ≤ xs.length) :
    (Builtin.clear_ #[t] ty #[.slice (some ⟨g, o, none⟩) n c]).run P w = .ok (.tuple #[]) (w.setRow g ((aStore xs o (List.replicate n 0)).map wv).toArray) := by
  have hzc : (Builtin.zeroCells (Value.int .u64 0).cells n).toList = (List.replicate n 0).map wv := by
    simp [Builtin.zeroCells, Value.cells, wv]
    apply List.ext_getElem
    · simp
    · intro i h1 h2
      simp [Nat.mod_one]
  have hst := run_storeCells_at P g o u ((List.replicate n 0).map wv) 0 _ w hg (by simp; omega) (by intro v hv'; obtain ⟨x, _, rfl⟩ := List.mem_map.1 hv'; rfl)
  simp only [Nat.add_zero] at hst
  obtain ⟨m, rfl⟩ : ∃ m, n = m + 1 := ⟨n - 1, by omega⟩
  have he : (List.take o (xs.map wv).toArray.toList ++ (List.replicate (m + 1) 0).map wv ++ List.drop (o + ((List.replicate (m + 1) 0).map wv).length) (xs.map wv).toArray.toList).toArray = ((aStore xs o (List.replicate (m + 1) 0)).map wv).toArray := by
    unfold aStore
    simp
  rw [he] at hst
  rw [show (List.replicate (m + 1) 0).map wv = List.replicate (m + 1) (wv 0) by simp] at hst
  simp [Builtin.clear_, run_underlying ht, hv, hzc]
  rw [hst]
  rfl

end Go.Proofs.YtdcnpaodcjfdbaaGreatDoor

/- What Move and Zero of layer 4 (arena), Page and Base return. -/
namespace Go.Proofs.YtdcnpaodcjfdbaaGreatDoor
open Go.RowKit
set_option linter.unusedVariables false

/-- clear of a part of a row of words, in a walk. -/
theorem wpList_clear_words {P : Program} {w : World} {ops : Array Oper} {rest : List Oper} {o : Oper} {a : Act} {Q : Exit → Act → World → Prop} (hgd : o.guard = none) (d : Operand) (t : TypeId)
    (ho : o.op = .call { callee := .builtin .clear, args := #[d], argTypes := #[t] }) (e : TypeId) (ht : P.underlying t = some (.slice e)) (hv : ∀ w, (zeroValue e).run P w = .ok (.int .u64 0) w)
    (g off n c : Nat) (hd : a.eval d = .slice (some ⟨g, off, none⟩) n c) (xs : List Nat) (u : TypeId) (hg : w.heap[g]? = some (.cells (xs.map wv).toArray u (0, 0))) (hn : 0 < n) (hfit : off + n ≤ xs.length)
    (h : ∀ w2, Hid (w2 = w.setRow g ((aStore xs off (List.replicate n 0)).map wv).toArray) → wpList P ops Q rest (a.put o.dst (.tuple #[])) w2) : wpList P ops Q (o :: rest) a w := by
  refine wpList_plain hgd fun K hK => ?_
  have hrun := run_clear_row (P := P) w t e o.type ht hv g off n c xs u hn hg hfit
  unfold Oper.wp
  simp [execOp, ho, resolve, invoke, builtin, hd, hrun, Result.andThen]
  exact hK _ _ (h _ (show Hid (_ = _) from rfl))

/-- clear of nil. -/
theorem wpList_clear_nil {P : Program} {w : World} {ops : Array Oper} {rest : List Oper} {o : Oper} {a : Act} {Q : Exit → Act → World → Prop} (hgd : o.guard = none) (d : Operand) (t : TypeId)
    (ho : o.op = .call { callee := .builtin .clear, args := #[d], argTypes := #[t] }) (e : TypeId) (ht : P.underlying t = some (.slice e)) (hv : ∀ w, (zeroValue e).run P w = .ok (.int .u64 0) w)
    (hd : a.eval d = .slice none 0 0) (h : wpList P ops Q rest (a.put o.dst (.tuple #[])) w) : wpList P ops Q (o :: rest) a w := by
  refine wpList_plain hgd fun K hK => ?_
  unfold Oper.wp
  simp [execOp, ho, resolve, invoke, builtin, hd, Builtin.clear_, run_underlying ht, Result.andThen]
  exact hK _ _ h

theorem zero_u64 (w : World) : (zeroValue 32).run Tryz.prog w = .ok (.int .u64 0) w := by kernel_rfl

end Go.Proofs.YtdcnpaodcjfdbaaGreatDoor
