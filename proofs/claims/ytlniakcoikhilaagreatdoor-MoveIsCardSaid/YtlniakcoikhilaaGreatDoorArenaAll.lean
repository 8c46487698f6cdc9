/- Several texts in one: ArenaMath, Clone, ArenaCode, ArenaCode2, ArenaCode3, ArenaCode4. -/
import Derived.Test.YtlniakcoikhilaaGreatDoorRowWords
import Derived.Test.YtlniakcoikhilaaGreatDoorRows7
import Derived.Lib.SliceRun
import Derived.Defers
import Derived.Recover
import Derived.Laws.Pointers
import Derived.Laws.CopyOwn
/- Rows of words: plain facts on layer 4 (arena). No program is named here. -/
namespace Go.Proofs.YtlniakcoikhilaaGreatDoor

/-- Are k words from an address on there, of so many? -/
def aIn (len : Nat) (at' k : Int) : Bool := decide (0 ≤ at' ∧ 0 ≤ k ∧ at' + k ≤ (len : Int))
/-- k words from an address on. -/
def aRow (xs : List Nat) (at' k : Nat) : List Nat := (xs.drop at').take k
/-- The words behind a store. -/
def aStore (xs : List Nat) (at' : Nat) (ys : List Nat) : List Nat := xs.take at' ++ ys ++ xs.drop (at' + ys.length)

theorem aRow_length (xs : List Nat) (at' k : Nat) (h : at' + k ≤ xs.length) : (aRow xs at' k).length = k := by
  unfold aRow; rw [List.length_take, List.length_drop]; omega
theorem aRow_succ (xs : List Nat) (at' j : Nat) (x : Nat) (h : xs[at' + j]? = some x) : aRow xs at' (j + 1) = aRow xs at' j ++ [x] := by
  unfold aRow
  rw [List.take_add_one, List.getElem?_drop, h]; rfl
theorem aRow_zero (xs : List Nat) (at' : Nat) : aRow xs at' 0 = [] := by unfold aRow; simp
theorem aStore_length (xs : List Nat) (at' : Nat) (ys : List Nat) (h : at' + ys.length ≤ xs.length) : (aStore xs at' ys).length = xs.length := by
  unfold aStore; rw [List.length_append, List.length_append, List.length_take, List.length_drop]; omega
theorem aStore_nil (xs : List Nat) (at' : Nat) : aStore xs at' [] = xs := by unfold aStore; simp
theorem aStore_get (xs : List Nat) (at' : Nat) (ys : List Nat) (h : at' + ys.length ≤ xs.length) (i : Nat) : (aStore xs at' ys)[i]? = if i < at' then xs[i]? else if i < at' + ys.length then ys[i - at']? else xs[i]? := by
  unfold aStore
  have e : min at' xs.length = at' := by omega
  by_cases h1 : i < at'
  · rw [if_pos h1, List.getElem?_append_left (by rw [List.length_append, List.length_take]; omega), List.getElem?_append_left (by rw [List.length_take]; omega), List.getElem?_take_of_lt h1]
  · rw [if_neg h1]
    by_cases h2 : i < at' + ys.length
    · rw [if_pos h2, List.getElem?_append_left (by rw [List.length_append, List.length_take]; omega), List.getElem?_append_right (by rw [List.length_take]; omega), List.length_take, e]
    · rw [if_neg h2, List.getElem?_append_right (by rw [List.length_append, List.length_take]; omega), List.length_append, List.length_take, e, List.getElem?_drop, show at' + ys.length + (i - (at' + ys.length)) = i by omega]
/-- One word more. -/
theorem aStore_succ (xs : List Nat) (at' : Nat) (ys : List Nat) (y : Nat) (h : at' + ys.length < xs.length) : aStore xs at' (ys ++ [y]) = (aStore xs at' ys).set (at' + ys.length) y := by
  apply List.ext_getElem?
  intro i
  rw [List.getElem?_set, aStore_length xs at' ys (by omega), aStore_get xs at' ys (by omega), aStore_get xs at' (ys ++ [y]) (by simp; omega)]
  rw [List.length_append, List.length_singleton]
  by_cases h1 : i < at'
  · rw [if_pos h1, if_pos h1, if_neg (by omega)]
  · rw [if_neg h1, if_neg h1]
    by_cases h2 : i < at' + ys.length
    · rw [if_pos (by omega), if_neg (by omega), if_pos h2, List.getElem?_append_left (by omega)]
    · by_cases h3 : at' + ys.length = i
      · subst h3
        rw [if_pos (by omega), if_pos rfl, if_pos h, List.getElem?_append_right (by omega)]
        simp
      · rw [if_neg (by omega), if_neg h3, if_neg h2]
theorem aStore_take (xs : List Nat) (at' : Nat) (ys : List Nat) (j y : Nat) (hy : ys[j]? = some y) (h : at' + ys.length ≤ xs.length) : aStore xs at' (ys.take (j + 1)) = (aStore xs at' (ys.take j)).set (at' + j) y := by
  have hj : j < ys.length := by
    rcases Nat.lt_or_ge j ys.length with h | h
    · exact h
    · rw [List.getElem?_eq_none h] at hy; cases hy
  rw [List.take_add_one, hy]
  have := aStore_succ xs at' (ys.take j) y (by rw [List.length_take]; omega)
  rw [List.length_take, Nat.min_eq_left (by omega)] at this
  exact this
theorem aRow_get (xs : List Nat) (at' k i : Nat) : (aRow xs at' k)[i]? = if i < k then xs[at' + i]? else none := by
  unfold aRow
  by_cases h : i < k
  · rw [if_pos h, List.getElem?_take_of_lt h, List.getElem?_drop]
  · rw [if_neg h, List.getElem?_eq_none (by rw [List.length_take]; omega)]
/-- What was stored is read. -/
theorem aRow_same (xs : List Nat) (at' : Nat) (ys : List Nat) (n : Nat) (hn : ys.length = n) (h : at' + n ≤ xs.length) : aRow (aStore xs at' ys) at' n = ys := by
  apply List.ext_getElem?
  intro i
  rw [aRow_get, aStore_get xs at' ys (by omega)]
  by_cases hi : i < n
  · rw [if_pos hi, if_neg (by omega), if_pos (by omega), show at' + i - at' = i by omega]
  · rw [if_neg hi, List.getElem?_eq_none (by omega)]
/-- What stands elsewhere is read as it was. -/
theorem aRow_other (xs : List Nat) (at' : Nat) (ys : List Nat) (b n : Nat) (h : at' + ys.length ≤ xs.length) (hd : b + n ≤ at' ∨ at' + ys.length ≤ b) : aRow (aStore xs at' ys) b n = aRow xs b n := by
  apply List.ext_getElem?
  intro i
  rw [aRow_get, aRow_get, aStore_get xs at' ys h]
  by_cases hi : i < n
  · rw [if_pos hi, if_pos hi]
    by_cases h1 : b + i < at'
    · rw [if_pos h1]
    · rw [if_neg h1, if_neg (by omega)]
  · rw [if_neg hi, if_neg hi]

end Go.Proofs.YtlniakcoikhilaaGreatDoor

/- slices.Clone of a row of words: a copy of the call's own. -/
namespace Go.Proofs.YtlniakcoikhilaaGreatDoor
open Go.RowKit
set_option linter.unusedVariables false

theorem wclone_nil (w : World) (A : Option Addr) (n c : Nat) : (binOp .eql 22 (.slice A n c) (.slice none 0 0)).run Tryz.prog w = .ok (.bool A.isNone) w := Lib.run_eql_slice_nil w 22 59 A n c 0 0 (by kernel_rfl)

theorem code_wclone (A : Option Addr) (n c : Nat) (ws : List Nat) (w : World) (hs : Sl w w.heap.size A n (ws.map wv)) (hn : n ≤ 65536) (hA : A = none → c = 0) :
    Calls Tryz.prog 35 #[.slice A n c] w (OwnWords w ws) := by
  obtain ⟨i0, hi, hz0, hz1, hz2⟩ := info_parts info_u64
  have l1 : ws.length = n := by have := hs.1; simpa using this
  cases A with
  | none =>
    obtain rfl : n = 0 := by
      refine Nat.eq_zero_of_not_pos fun h => ?_
      obtain ⟨b, off, e, _⟩ := hs.2 h
      cases e
    obtain rfl : c = 0 := hA rfl
    obtain rfl : ws = [] := List.eq_nil_of_length_eq_zero l1
    clear hs l1
    have q := wclone_nil w none 0 0
    go_enter Tryz.func35, Tryz.ntmps35
    go_wp2
    go_ret
    exact ⟨none, 0, rfl, World.ownsRow_nil _ _ _ _, Below.refl _ _⟩
  | some p =>
    have HS := hidb hs
    have L1 := hidb l1
    clear hs l1
    have q := wclone_nil w (some p) n c
    have hnews : Hid (∀ j u, (ws.map wv)[j]? = some u → (w.alloc (.cells #[] 59)).cell? (p.add j) = some u) := hidb (fun j u hu => by
      have hj : j < n := by
        have := (List.getElem?_eq_some_iff.1 hu).1
        rw [List.length_map, L1.out] at this; exact this
      obtain ⟨b, off, e, hb, hcells⟩ := HS.out.2 (by omega)
      obtain rfl : p = ⟨b, off, none⟩ := by injection e
      rw [Go.WideShapes.add_plain, World.cell?_alloc_lt w _ _ hb, hcells j hj, hu])
    have hone : Hid (∀ u ∈ ws.map wv, u.oneCell' = true) := hidb (fun u hu => by
      obtain ⟨x, _, rfl⟩ := List.mem_map.1 hu; rfl)
    have hown0 := hidb (ownsRow_empty w 59)
    go_enter Tryz.func35, Tryz.ntmps35
    go_wp2_with (at_builtin; refine wpList_append_own (w.alloc (.cells #[] 59)) rfl _ _ 22 rfl w.heap.size 59 i0 (.int .u64 0) 1 8 Tryz.underlying22 hi hz0 hz1 hz2 rfl (by decide) _ 0 [] rfl (by exact hown0.out) p n c (ws.map wv) rfl (by rw [List.length_map, L1.out, Nat.mul_one]) (by exact hnews.out) (by exact hone.out) (by unfold maxLen; omega) (by omega) (by simp) ?_; intro v1 w1 hown1 hg1 _)
    rw [Nat.zero_add, List.nil_append] at hown1
    have P : Hid (OwnWords w ws (.returned v1) w1) := hidb (by
      obtain ⟨A', c', rfl⟩ := own_form hown1
      rw [← L1.out] at hown1 ⊢
      refine ⟨A', c', rfl, hown1, ?_⟩
      exact ((Below.refl _ _).alloc (Nat.le_refl _) _).grown hg1 (by simp) (fun k hk => (hown0.out.lt k hk).1))
    clear hown1 hg1
    go_wp2
    go_ret
    exact P.out

theorem code_wclone_none (w : World) :
    Calls Tryz.prog 35 #[.slice none 0 0] w fun e w' => e = .returned (.slice none 0 0) ∧ w = w' := by
  have q := wclone_nil w none 0 0
  go_enter Tryz.func35, Tryz.ntmps35
  go_wp2
  go_ret
  exact ⟨rfl, rfl⟩

end Go.Proofs.YtlniakcoikhilaaGreatDoor

/- What each function of layer 4 (arena) returns. -/
namespace Go.Proofs.YtlniakcoikhilaaGreatDoor
open Go.RowKit
set_option linter.unusedVariables false

/-- An arena: its cell, and its row of words in a block of its own; both from block B on. -/
structure Ar (w : World) (B p g len : Nat) (xs : List Nat) : Prop where
  cell : w.cell? ⟨p, 0, none⟩ = some (.slice (some ⟨g, 0, none⟩) len len)
  heap : w.heap[g]? = some (.cells (xs.map wv).toArray 59 (0, 0))
  hlen : xs.length = len
  ge : B ≤ p
  geg : B ≤ g
  ne : p ≠ g
  small : len ≤ 65536

section
variable {w w' w'' : World} {B p g len : Nat} {xs ys : List Nat}
theorem Ar.lt (h : Ar w B p g len xs) : g < w.heap.size := (Array.getElem?_eq_some_iff.1 h.heap).1
theorem Ar.ltp (h : Ar w B p g len xs) : p < w.heap.size := lt_of_cell h.cell
theorem Ar.word (h : Ar w B p g len xs) (j : Nat) : w.cell? ⟨g, j, none⟩ = (xs.map wv)[j]? := by
  simp [World.cell?, h.heap]
theorem Ar.kept (h : Ar w B p g len xs) (hk : ∀ k, k < w.heap.size → w'.heap[k]? = w.heap[k]?) : Ar w' B p g len xs :=
  ⟨(World.cell?_of_block (w := w) (a := ⟨p, 0, none⟩) (hk p h.ltp)).trans h.cell, (hk g h.lt).trans h.heap, h.hlen, h.ge, h.geg, h.ne, h.small⟩
theorem Ar.below {B' : Nat} (h : Ar w B p g len xs) (hb : Below B' w w') (hB : w.heap.size ≤ B') : Ar w' B p g len xs := h.kept (fun k hk => hb.block k (by omega))
theorem Ar.alloc (h : Ar w B p g len xs) (o : Obj) : Ar (w.alloc o) B p g len xs := h.below ((Below.refl _ _).alloc (Nat.le_refl _) o) (Nat.le_refl _)
theorem Ar.more {B' : Nat} (h : Ar w B p g len xs) (hB : B' ≤ B) : Ar w B' p g len xs := ⟨h.cell, h.heap, h.hlen, by have := h.ge; omega, by have := h.geg; omega, h.ne, h.small⟩
theorem Ar.setRow (h : Ar w B p g len xs) (hy : ys.length = len) : Ar (w.setRow g (ys.map wv).toArray) B p g len ys :=
  ⟨(World.cell?_of_block (w := w) (a := ⟨p, 0, none⟩) (setRow_other w g p _ h.ne)).trans h.cell, setRow_heap w g _ _ _ _ h.heap, hy, h.ge, h.geg, h.ne, h.small⟩
theorem Ar.setCell (h : Ar w B p g len xs) {a : Addr} (hp : a.block ≠ p) (hg : a.block ≠ g) (u : Value) : Ar (w.setCell a u) B p g len xs :=
  ⟨(World.cell?_of_block (w := w) (a := ⟨p, 0, none⟩) (Below.heap_setCell _ _ _ _ (by show p ≠ _; omega))).trans h.cell, (Below.heap_setCell _ _ _ _ (by omega)).trans h.heap, h.hlen, h.ge, h.geg, h.ne, h.small⟩
theorem Ar.sl (h : Ar w B p g len xs) : Sl w w.heap.size (some ⟨g, 0, none⟩) len (xs.map wv) :=
  ⟨by rw [List.length_map]; exact h.hlen, fun _ => ⟨g, 0, rfl, h.lt, fun j _ => by rw [Nat.zero_add]; exact h.word j⟩⟩
theorem grown_trans {r : Option Nat} (h : w.grownBy w' r) (k : w'.grownBy w'' r) : w.grownBy w'' r :=
  ⟨k.os.trans h.os, k.tape.trans h.tape, k.output.trans h.output, Nat.le_trans h.size k.size, fun i hi hr => (k.block i (by have := h.size; omega) hr).trans (h.block i hi hr)⟩
theorem grown_alloc {r : Option Nat} (h : w.grownBy w' r) (o : Obj) : w.grownBy (w'.alloc o) r := grown_trans h (World.grownBy_alloc w' o r)
theorem grown_setRow (h : w.grownBy w' (some g)) (cs : Array Value) : w.grownBy (w'.setRow g cs) (some g) :=
  grown_trans h ⟨rfl, rfl, rfl, by simp, fun k hk hr => setRow_other w' g k cs (fun e => hr (by rw [e]))⟩
theorem grown_setCell {r : Option Nat} (h : w.grownBy w' r) {a : Addr} (ha : w.heap.size ≤ a.block) (u : Value) : w.grownBy (w'.setCell a u) r :=
  ⟨h.os, h.tape, h.output, by have := h.size; simp [World.setCell]; omega, fun k hk hr => (Below.heap_setCell _ _ _ _ (by omega)).trans (h.block k hk hr)⟩
theorem below_to_grown (h : Below w.heap.size w w') (r : Option Nat) : w.grownBy w' r := ⟨h.os, h.tape, h.output, h.size, fun k hk _ => h.block k hk⟩
end

theorem code_awords (p : Nat) (A : Option Addr) (len c : Nat) (w : World) (hc : w.cell? ⟨p, 0, none⟩ = some (.slice A len c)) :
    Calls Tryz.prog 90 #[.pointer (some ⟨p, 0, none⟩)] w fun e w' => e = .returned (.int .i64 (len : Int)) ∧ w = w' := by
  go_enter Tryz.func90, Tryz.ntmps90
  go_wp2
  go_ret
  exact ⟨rfl, rfl⟩

theorem code_awords_nil (w : World) :
    Calls Tryz.prog 90 #[.pointer none] w fun e w' => e = .returned (.int .i64 0) ∧ w = w' := by
  go_enter Tryz.func90, Tryz.ntmps90
  go_wp2
  go_ret
  exact ⟨rfl, rfl⟩

theorem code_ain_of (v : Value) (len : Nat) (at' n : Int) (w : World) (hl : len ≤ 65536)
    (hw : Calls Tryz.prog 90 #[v] w fun e w' => e = .returned (.int .i64 (len : Int)) ∧ w = w')
    (h0 : in64 at') (h1 : in64 n) :
    Calls Tryz.prog 66 #[v, .int .i64 at', .int .i64 n] w fun e w' => e = .returned (.bool (aIn len at' n)) ∧ w = w' := by
  obtain ⟨h00, h01⟩ := h0
  obtain ⟨h10, h11⟩ := h1
  by_cases a0 : 0 ≤ at'
  · by_cases n0 : 0 ≤ n
    · have hw64 : wrap64 ((len : Int) - at') = (len : Int) - at' := by unfold wrap64; omega
      have E : Hid (decide (n ≤ (len : Int) - at') = aIn len at' n) := hidb (by unfold aIn; rw [Bool.eq_iff_iff, decide_eq_true_iff, decide_eq_true_iff]; omega)
      go_enter Tryz.func66, Tryz.ntmps66
      go_wp2_with (go_at_call 90; refine hw.mono ?_; rintro e w' ⟨rfl, rfl⟩)
      go_ret
      exact ⟨congrArg Ending.returned (congrArg Value.bool E.out), rfl⟩
    · have e : aIn len at' n = false := by unfold aIn; exact decide_eq_false (by omega)
      rw [e]; clear e
      go_enter Tryz.func66, Tryz.ntmps66
      go_wp2
      go_ret
      exact ⟨rfl, rfl⟩
  · have e : aIn len at' n = false := by unfold aIn; exact decide_eq_false (by omega)
    rw [e]; clear e
    go_enter Tryz.func66, Tryz.ntmps66
    go_wp2
    go_ret
    exact ⟨rfl, rfl⟩

/-- What is thrown where words aren't there. -/
def gone : PanicEntry := { v := .iface 121 (.agg #[]), recovered := false }

theorem code_arow_no_of (v : Value) (len : Nat) (at' n : Int) (w : World)
    (hi : Calls Tryz.prog 66 #[v, .int .i64 at', .int .i64 n] w fun e w' => e = .returned (.bool (aIn len at' n)) ∧ w = w')
    (hno : aIn len at' n = false) :
    Calls Tryz.prog 36 #[v, .int .i64 at', .int .i64 n] w fun e w' => e = .panicked [gone] ∧ w = w' := by
  rw [hno] at hi
  go_enter Tryz.func36, Tryz.ntmps36
  go_wp2_with (go_at_call 66; refine hi.mono ?_; rintro e w' ⟨rfl, rfl⟩)
  exact ⟨rfl, rfl, rfl⟩

theorem code_arow_none_of (v : Value) (len : Nat) (at' : Int) (w : World)
    (hi : Calls Tryz.prog 66 #[v, .int .i64 at', .int .i64 0] w fun e w' => e = .returned (.bool (aIn len at' 0)) ∧ w = w')
    (hin : aIn len at' 0 = true) :
    Calls Tryz.prog 36 #[v, .int .i64 at', .int .i64 0] w fun e w' => e = .returned (.slice none 0 0) ∧ w = w' := by
  rw [hin] at hi
  go_enter Tryz.func36, Tryz.ntmps36
  go_wp2_with (go_at_call 66; refine hi.mono ?_; rintro e w' ⟨rfl, rfl⟩)
  go_ret
  exact ⟨rfl, rfl⟩

theorem code_arow (p g len at' n : Nat) (w : World) (hc : w.cell? ⟨p, 0, none⟩ = some (.slice (some ⟨g, 0, none⟩) len len)) (hl : len ≤ 65536) (hn : 0 < n) (hin : at' + n ≤ len) :
    Calls Tryz.prog 36 #[.pointer (some ⟨p, 0, none⟩), .int .i64 (at' : Int), .int .i64 (n : Int)] w fun e w' => e = .returned (.slice (some ⟨g, at', none⟩) n (len - at')) ∧ w = w' := by
  have hi := code_ain_of (.pointer (some ⟨p, 0, none⟩)) len (at' : Int) (n : Int) w hl (code_awords p _ len len w hc) (by unfold in64; omega) (by unfold in64; omega)
  rw [show aIn len (at' : Int) (n : Int) = true by unfold aIn; exact decide_eq_true (by omega)] at hi
  have eb : ((n : Int) == 0) = false := by simp; omega
  have hw64 : wrap64 ((at' : Int) + (n : Int)) = ((at' + n : Nat) : Int) := by unfold wrap64; omega
  have h1 : (at' : Int) ≤ ((at' + n : Nat) : Int) := by omega
  have h2 : ((at' + n : Nat) : Int) ≤ (len : Int) := by omega
  go_enter Tryz.func36, Tryz.ntmps36
  go_wp2_with (go_at_call 66; refine hi.mono ?_; rintro e w' ⟨rfl, rfl⟩)
  go_ret
  exact ⟨by simp, rfl⟩

theorem missing_yes (W : World) (v : Value) : (Instr.typeAssert (.iface 121 v) 20 121 true).run Tryz.prog W = .ok (.tuple #[v, .bool true]) W := by kernel_rfl
theorem aiface_nil_no (W : World) (T : TypeId) (v : Value) : (binOp .eql 20 (.iface T v) .nilIface).run Tryz.prog W = .ok (.bool false) W := by kernel_rfl
theorem anil_iface_yes (W : World) : (binOp .eql 20 .nilIface .nilIface).run Tryz.prog W = .ok (.bool true) W := by kernel_rfl

theorem code_atold_nil (w : World) :
    Calls Tryz.prog 34 #[.nilIface] w fun e w' => e = .returned (.int .i64 0) ∧ w = w' := by
  have q := anil_iface_yes
  go_enter Tryz.func34, Tryz.ntmps34
  go_wp2
  go_ret
  exact ⟨rfl, rfl⟩

theorem code_told (w : World) :
    Calls Tryz.prog 34 #[.iface 121 (.agg #[])] w fun e w' => e = .returned (.int .i64 2) ∧ w' = w.alloc (.cells #[] 121) := by
  have q := fun W => aiface_nil_no W 121 (.agg #[])
  have qa := fun W => missing_yes W (.agg #[])
  go_enter Tryz.func34, Tryz.ntmps34
  go_wp2
  go_ret
  exact ⟨rfl, rfl⟩

theorem catch_store (p : Addr) (x : Int) (w : World) (hb : p.block < w.heap.size) (hc : w.cell? p = some (.int .i64 x)) (hz : w.frozen? p = false) :
    CallsD Tryz.prog 47 #[.pointer (some p)] (.panicking [gone]) w fun e u' w' =>
      e = .returned (.tuple #[]) ∧ u' = .panicking [{ gone with recovered := true }] ∧ w' = (w.alloc (.cells #[] 121)).setCell p (.int .i64 2) := by
  have hz' : (w.alloc (.cells #[] 121)).frozen? p = false := by rw [((Below.refl w.heap.size w).alloc (Nat.le_refl _) _).frozen hb]; exact hz
  have hc' : (w.alloc (.cells #[] 121)).cell? p = some (.int .i64 x) := by rw [World.cell?_alloc_lt _ _ _ hb]; exact hc
  refine callsD_of_wpS Tryz.func47 rfl fun c₀ cs' hu => ?_
  change Code.wpS _ _ _ { tmps := #[.pointer (some p), undef, undef], defers := [] } _ _
  unfold gone at hu
  apply wpS_region
  simp [wpOpsS, go_sem, recoverD, hu]
  refine (code_told _).mono ?_
  rintro e w' ⟨rfl, rfl⟩
  simp [go_sem, hz', hc', bodyPostS, results, Tryz.results47, gone]

theorem idle_store (p : Addr) (x : Int) (w : World) (hc : w.cell? p = some (.int .i64 x)) (hz : w.frozen? p = false) :
    CallsD Tryz.prog 47 #[.pointer (some p)] .returning w fun e u' w' => e = .returned (.tuple #[]) ∧ u' = .returning ∧ w' = w.setCell p (.int .i64 0) := by
  refine callsD_of_wpS Tryz.func47 rfl fun c₀ cs' hu => ?_
  change Code.wpS _ _ _ { tmps := #[.pointer (some p), undef, undef], defers := [] } _ _
  apply wpS_region
  simp [wpOpsS, go_sem, recoverD, hu]
  refine (code_atold_nil _).mono ?_
  rintro e w' ⟨rfl, rfl⟩
  simp [go_sem, hz, hc, bodyPostS, results, Tryz.results47]
  cases c₀
  simp_all

theorem catch_move (p : Addr) (x : Int) (w : World) (hb : p.block < w.heap.size) (hc : w.cell? p = some (.int .i64 x)) (hz : w.frozen? p = false) :
    CallsD Tryz.prog 61 #[.pointer (some p)] (.panicking [gone]) w fun e u' w' =>
      e = .returned (.tuple #[]) ∧ u' = .panicking [{ gone with recovered := true }] ∧ w' = (w.alloc (.cells #[] 121)).setCell p (.int .i64 2) := by
  have hz' : (w.alloc (.cells #[] 121)).frozen? p = false := by rw [((Below.refl w.heap.size w).alloc (Nat.le_refl _) _).frozen hb]; exact hz
  have hc' : (w.alloc (.cells #[] 121)).cell? p = some (.int .i64 x) := by rw [World.cell?_alloc_lt _ _ _ hb]; exact hc
  refine callsD_of_wpS Tryz.func61 rfl fun c₀ cs' hu => ?_
  change Code.wpS _ _ _ { tmps := #[.pointer (some p), undef, undef], defers := [] } _ _
  unfold gone at hu
  apply wpS_region
  simp [wpOpsS, go_sem, recoverD, hu]
  refine (code_told _).mono ?_
  rintro e w' ⟨rfl, rfl⟩
  simp [go_sem, hz', hc', bodyPostS, results, Tryz.results61, gone]

theorem idle_move (p : Addr) (x : Int) (w : World) (hc : w.cell? p = some (.int .i64 x)) (hz : w.frozen? p = false) :
    CallsD Tryz.prog 61 #[.pointer (some p)] .returning w fun e u' w' => e = .returned (.tuple #[]) ∧ u' = .returning ∧ w' = w.setCell p (.int .i64 0) := by
  refine callsD_of_wpS Tryz.func61 rfl fun c₀ cs' hu => ?_
  change Code.wpS _ _ _ { tmps := #[.pointer (some p), undef, undef], defers := [] } _ _
  apply wpS_region
  simp [wpOpsS, go_sem, recoverD, hu]
  refine (code_atold_nil _).mono ?_
  rintro e w' ⟨rfl, rfl⟩
  simp [go_sem, hz, hc, bodyPostS, results, Tryz.results61]
  cases c₀
  simp_all

theorem catch_load (p : Addr) (x : Int) (w : World) (hb : p.block < w.heap.size) (hc : w.cell? p = some (.int .i64 x)) (hz : w.frozen? p = false) :
    CallsD Tryz.prog 101 #[.pointer (some p)] (.panicking [gone]) w fun e u' w' =>
      e = .returned (.tuple #[]) ∧ u' = .panicking [{ gone with recovered := true }] ∧ w' = (w.alloc (.cells #[] 121)).setCell p (.int .i64 2) := by
  have hz' : (w.alloc (.cells #[] 121)).frozen? p = false := by rw [((Below.refl w.heap.size w).alloc (Nat.le_refl _) _).frozen hb]; exact hz
  have hc' : (w.alloc (.cells #[] 121)).cell? p = some (.int .i64 x) := by rw [World.cell?_alloc_lt _ _ _ hb]; exact hc
  refine callsD_of_wpS Tryz.func101 rfl fun c₀ cs' hu => ?_
  change Code.wpS _ _ _ { tmps := #[.pointer (some p), undef, undef], defers := [] } _ _
  unfold gone at hu
  apply wpS_region
  simp [wpOpsS, go_sem, recoverD, hu]
  refine (code_told _).mono ?_
  rintro e w' ⟨rfl, rfl⟩
  simp [go_sem, hz', hc', bodyPostS, results, Tryz.results101, gone]

theorem idle_load (p : Addr) (x : Int) (w : World) (hc : w.cell? p = some (.int .i64 x)) (hz : w.frozen? p = false) :
    CallsD Tryz.prog 101 #[.pointer (some p)] .returning w fun e u' w' => e = .returned (.tuple #[]) ∧ u' = .returning ∧ w' = w.setCell p (.int .i64 0) := by
  refine callsD_of_wpS Tryz.func101 rfl fun c₀ cs' hu => ?_
  change Code.wpS _ _ _ { tmps := #[.pointer (some p), undef, undef], defers := [] } _ _
  apply wpS_region
  simp [wpOpsS, go_sem, recoverD, hu]
  refine (code_atold_nil _).mono ?_
  rintro e w' ⟨rfl, rfl⟩
  simp [go_sem, hz, hc, bodyPostS, results, Tryz.results101]
  cases c₀
  simp_all

theorem catch_row (p : Addr) (x : Int) (w : World) (hb : p.block < w.heap.size) (hc : w.cell? p = some (.int .i64 x)) (hz : w.frozen? p = false) :
    CallsD Tryz.prog 33 #[.pointer (some p)] (.panicking [gone]) w fun e u' w' =>
      e = .returned (.tuple #[]) ∧ u' = .panicking [{ gone with recovered := true }] ∧ w' = (w.alloc (.cells #[] 121)).setCell p (.int .i64 2) := by
  have hz' : (w.alloc (.cells #[] 121)).frozen? p = false := by rw [((Below.refl w.heap.size w).alloc (Nat.le_refl _) _).frozen hb]; exact hz
  have hc' : (w.alloc (.cells #[] 121)).cell? p = some (.int .i64 x) := by rw [World.cell?_alloc_lt _ _ _ hb]; exact hc
  refine callsD_of_wpS Tryz.func33 rfl fun c₀ cs' hu => ?_
  change Code.wpS _ _ _ { tmps := #[.pointer (some p), undef, undef], defers := [] } _ _
  unfold gone at hu
  apply wpS_region
  simp [wpOpsS, go_sem, recoverD, hu]
  refine (code_told _).mono ?_
  rintro e w' ⟨rfl, rfl⟩
  simp [go_sem, hz', hc', bodyPostS, results, Tryz.results33, gone]

theorem idle_row (p : Addr) (x : Int) (w : World) (hc : w.cell? p = some (.int .i64 x)) (hz : w.frozen? p = false) :
    CallsD Tryz.prog 33 #[.pointer (some p)] .returning w fun e u' w' => e = .returned (.tuple #[]) ∧ u' = .returning ∧ w' = w.setCell p (.int .i64 0) := by
  refine callsD_of_wpS Tryz.func33 rfl fun c₀ cs' hu => ?_
  change Code.wpS _ _ _ { tmps := #[.pointer (some p), undef, undef], defers := [] } _ _
  apply wpS_region
  simp [wpOpsS, go_sem, recoverD, hu]
  refine (code_atold_nil _).mono ?_
  rintro e w' ⟨rfl, rfl⟩
  simp [go_sem, hz, hc, bodyPostS, results, Tryz.results33]
  cases c₀
  simp_all

end Go.Proofs.YtlniakcoikhilaaGreatDoor

/- What New, Load and Row of layer 4 (arena) return. -/
namespace Go.Proofs.YtlniakcoikhilaaGreatDoor
open Go.RowKit
set_option linter.unusedVariables false

theorem code_anew_no (pages : Int) (w : World) (h : pages < 4 ∨ 1024 < pages) :
    Calls Tryz.prog 17 #[.int .i64 pages] w fun e w' => e = .returned (.tuple #[.pointer none, .int .i64 1]) ∧ w = w' := by
  rcases h with h | h
  · go_enter Tryz.func17, Tryz.ntmps17
    go_wp2
    go_ret2
    exact ⟨rfl, rfl⟩
  · have h' : ¬ pages < 4 := by omega
    go_enter Tryz.func17, Tryz.ntmps17
    go_wp2
    go_ret2
    exact ⟨rfl, rfl⟩

theorem zero_words (n : Nat) : (madeCells (Value.int .u64 0).cells (n * 1)).toList = (List.replicate n 0).map wv := by
  rw [Nat.mul_one]
  exact (toList_madeCells_one _ n).trans (by simp [wv])

theorem heap_of_own {w : World} {base : Nat} {g n : Nat} {xs : List Nat} (h : w.ownsRow base 59 1 (.slice (some ⟨g, 0, none⟩) n n) n (xs.map wv)) : w.heap[g]? = some (.cells (xs.map wv).toArray 59 (0, 0)) := by
  rcases h.2 with ⟨h1, _⟩ | ⟨g', cap, cur, h1, _, hh, _, _, hs, ht⟩
  · cases h1
  · injection h1 with h2 h3 h4
    injection h2 with h2
    injection h2 with h2
    subst h2 h4
    rw [hh, ← ht, List.take_of_length_le (by simp [hs])]

set_option maxRecDepth 100000 in
theorem code_anew (pages : Nat) (w : World) (h0 : 4 ≤ pages) (h1 : pages ≤ 1024) :
    Calls Tryz.prog 17 #[.int .i64 (pages : Int)] w fun e w' => ∃ p g, e = .returned (.tuple #[.pointer (some ⟨p, 0, none⟩), .int .i64 0]) ∧ Ar w' w.heap.size p g (64 * pages) (List.replicate (64 * pages) 0) ∧ Below w.heap.size w w' := by
  obtain ⟨i0, hi, hz0, hz1, hz2⟩ := info_parts info_u64
  go_enter Tryz.func17, Tryz.ntmps17
  go_wp2_with (at_make; refine wpList_make_full w rfl _ _ 22 rfl w.heap.size 59 i0 (.int .u64 0) 1 Tryz.underlying22 hi hz0 hz1 .i64 .i64 _ _ (64 * pages) rfl rfl (by omega) (by omega) (by rw [hz2]; omega) (by unfold maxLen; omega) (Nat.le_refl _) ?_; intro w1 hown hgrow)
  go_ret2
  rw [zero_words] at hown
  have hlt : w.heap.size < w1.heap.size := (hown.lt w.heap.size rfl).2
  refine ⟨w1.heap.size, w.heap.size, rfl, ⟨by simp, ?_, by simp, by omega, by omega, by omega, by omega⟩, ?_⟩
  · rw [Below.heap_alloc _ _ _ hlt]; exact heap_of_own hown
  exact ((Below.refl _ _).grown hgrow (Nat.le_refl _) (fun k hk => by cases hk)).alloc (by omega) _

/-- In, of an arena. -/
theorem code_ain {w : World} {B p g len : Nat} {xs : List Nat} (ha : Ar w B p g len xs) (at' n : Int) (h0 : in64 at') (h1 : in64 n) :
    Calls Tryz.prog 66 #[.pointer (some ⟨p, 0, none⟩), .int .i64 at', .int .i64 n] w fun e w' => e = .returned (.bool (aIn len at' n)) ∧ w = w' :=
  code_ain_of _ len at' n w ha.small (code_awords p _ _ _ w ha.cell) h0 h1
theorem code_ain_nil (w : World) (at' n : Int) (h0 : in64 at') (h1 : in64 n) :
    Calls Tryz.prog 66 #[.pointer none, .int .i64 at', .int .i64 n] w fun e w' => e = .returned (.bool (aIn 0 at' n)) ∧ w = w' :=
  code_ain_of _ 0 at' n w (by omega) (code_awords_nil w) h0 h1

theorem code_aload {p g len : Nat} {xs : List Nat} (at' x : Nat) {w : World} {B : Nat} (ha : Ar w B p g len xs) (hx : xs[at']? = some x) :
    Calls Tryz.prog 87 #[.pointer (some ⟨p, 0, none⟩), .int .i64 (at' : Int)] w fun e w' => e = .returned (.tuple #[.int .u64 (x : Int), .int .i64 0]) ∧ Below w.heap.size w w' := by
  have hl := ha.hlen
  have hat : at' < len := by have := (List.getElem?_eq_some_iff.1 hx).1; omega
  have hgl := ha.lt
  have hpl := ha.ltp
  have hcx : w.cell? ⟨g, at', none⟩ = some (.int .u64 (x : Int)) := by
    rw [ha.word, List.getElem?_map, hx]; rfl
  have hsm := ha.small
  have hcx' : (w.alloc (.cells #[.int .i64 0] 27)).cell? ⟨g, at', none⟩ = some (.int .u64 (x : Int)) := by rw [World.cell?_alloc_lt w _ _ hgl]; exact hcx
  have cr := code_arow p g len at' 1 (w.alloc (.cells #[.int .i64 0] 27)) (by rw [World.cell?_alloc_lt w _ _ hpl]; exact ha.cell) hsm (by omega) (by omega)
  clear ha hx hl hcx hsm
  go_enter_defers Tryz.func87, Tryz.ntmps87
  go_wp2_with (go_at_call 36; refine cr.mono ?_; rintro e w' ⟨rfl, rfl⟩)
  refine leaves_cons (f := 101) (args := #[.pointer (some ⟨w.heap.size, 0, none⟩)]) (by simp) (by simp [go_sem]) ?_
  refine (idle_load ⟨w.heap.size, 0, none⟩ 0 _ (by simp) (by simp [go_sem])).mono ?_
  rintro e u' w'' ⟨rfl, rfl, rfl⟩
  simp [Leaves, settle, results, Tryz.results87, go_sem]
  exact (Below.refl _ _).alloc (Nat.le_refl _) _

theorem code_aload_no (v : Value) (len : Nat) (at' : Int) (w : World) (hl : len ≤ 65536)
    (hw : Calls Tryz.prog 90 #[v] (w.alloc (.cells #[.int .i64 0] 27)) fun e w' => e = .returned (.int .i64 (len : Int)) ∧ w.alloc (.cells #[.int .i64 0] 27) = w')
    (h0 : in64 at') (hno : aIn len at' 1 = false) :
    Calls Tryz.prog 87 #[v, .int .i64 at'] w fun e w' => e = .returned (.tuple #[.int .u64 0, .int .i64 2]) ∧ Below w.heap.size w w' := by
  have cr := code_arow_no_of v len at' 1 _ (code_ain_of v len at' 1 _ hl hw h0 (by unfold in64; omega)) hno
  clear hw hno h0
  go_enter_defers Tryz.func87, Tryz.ntmps87
  go_wp2_with (go_at_call 36; refine cr.mono ?_; rintro e w' ⟨rfl, rfl⟩)
  refine leaves_cons (f := 101) (args := #[.pointer (some ⟨w.heap.size, 0, none⟩)]) (by simp) (by simp [go_sem]) ?_
  refine (catch_load ⟨w.heap.size, 0, none⟩ 0 _ (by simp) (by simp) (by simp [go_sem])).mono ?_
  rintro e u' w'' ⟨rfl, rfl, rfl⟩
  simp [Leaves, settle, results, Tryz.results87, go_sem]
  exact ((Below.refl _ _).alloc (Nat.le_refl _) _).alloc (by simp) _

theorem code_arow_ok {p g len : Nat} {xs : List Nat} (at' n : Nat) {w : World} {B : Nat} (ha : Ar w B p g len xs) (hin : at' + n ≤ len) :
    Calls Tryz.prog 11 #[.pointer (some ⟨p, 0, none⟩), .int .i64 (at' : Int), .int .i64 (n : Int)] w (OwnWNo w (aRow xs at' n) 0) := by
  have hl := ha.hlen
  have hsm := ha.small
  have h1 := ha.alloc (.cells #[.int .i64 0] 27)
  have hlen := aRow_length xs at' n (by omega)
  have R : ∃ A c, (Calls Tryz.prog 36 #[.pointer (some ⟨p, 0, none⟩), .int .i64 (at' : Int), .int .i64 (n : Int)] (w.alloc (.cells #[.int .i64 0] 27)) fun e w' => e = .returned (.slice A n c) ∧ w.alloc (.cells #[.int .i64 0] 27) = w') ∧
      (A = none → c = 0) ∧ Sl (w.alloc (.cells #[.int .i64 0] 27)) (w.alloc (.cells #[.int .i64 0] 27)).heap.size A n ((aRow xs at' n).map wv) := by
    by_cases h0 : n = 0
    · subst h0
      exact ⟨none, 0, code_arow_none_of _ len at' _ (code_ain h1 _ _ (by unfold in64; omega) (by unfold in64; omega)) (by unfold aIn; exact decide_eq_true (by omega)), fun _ => rfl, by rw [aRow_zero]; exact Sl.nil_⟩
    · refine ⟨_, _, code_arow p g len at' n _ h1.cell hsm (by omega) hin, (fun h => by cases h), by rw [List.length_map]; exact hlen, fun _ => ⟨g, at', rfl, h1.lt, fun j hj => ?_⟩⟩
      rw [h1.word, List.getElem?_map, List.getElem?_map]
      unfold aRow
      rw [List.getElem?_take_of_lt hj, List.getElem?_drop]
  obtain ⟨A, c, cr, hA, hsl⟩ := R
  have hce0 : ∀ w1, Below (w.alloc (.cells #[.int .i64 0] 27)).heap.size (w.alloc (.cells #[.int .i64 0] 27)) w1 → w1.cell? ⟨w.heap.size, 0, none⟩ = some (.int .i64 0) := fun w1 hb => by rw [hb.cell (by simp)]; simp
  have hfe0 : ∀ w1, Below (w.alloc (.cells #[.int .i64 0] 27)).heap.size (w.alloc (.cells #[.int .i64 0] 27)) w1 → w1.frozen? ⟨w.heap.size, 0, none⟩ = false := fun w1 hb => by rw [hb.frozen (by simp)]; simp [go_sem]
  have cc := code_wclone A n c (aRow xs at' n) _ hsl (by omega) hA
  have HL := hidb hlen
  clear ha hl hsl h1 hA hlen
  go_enter_defers Tryz.func11, Tryz.ntmps11
  go_wp2_with (first
    | (go_at_call 36; refine cr.mono ?_; rintro e w' ⟨rfl, rfl⟩)
    | (go_at_call 35; refine cc.mono ?_; rintro e w1 ⟨A1, c1, rfl, hown, hb⟩; have hce := hce0 w1 hb; have hfe := hfe0 w1 hb))
  refine leaves_cons (f := 33) (args := #[.pointer (some ⟨w.heap.size, 0, none⟩)]) (by simp) (by simp [go_sem]) ?_
  have hsz := hb.size
  refine (idle_row ⟨w.heap.size, 0, none⟩ 0 _ (World.cell?_setCell_same _ _ _ hce) (by simp [hfe])).mono ?_
  rintro e u' w'' ⟨rfl, rfl, rfl⟩
  have hc2 := World.cell?_setCell_same (w1.setCell ⟨w.heap.size, 0, none⟩ (.int .i64 0)) ⟨w.heap.size, 0, none⟩ (.int .i64 0) (World.cell?_setCell_same _ _ (.int .i64 0) hce)
  simp [Leaves, settle, results, Tryz.results11, go_sem, hc2]
  have hown2 := ownsRow_setCell_below (ownsRow_setCell_below hown (a := ⟨w.heap.size, 0, none⟩) (by simp) (.int .i64 0)) (a := ⟨w.heap.size, 0, none⟩) (by simp) (.int .i64 0)
  refine ⟨A1, c1, by first | rfl | rw [HL.out], ⟨hown2.1, ?_⟩, ?_⟩
  · rcases hown2.2 with h | ⟨g, cap, cur, h1, h2, h3⟩
    · exact Or.inl h
    · exact Or.inr ⟨g, cap, cur, h1, by simp at h2; omega, h3⟩
  · refine ((((Below.refl _ _).alloc (Nat.le_refl _) _).trans (hb.mono (by simp))).setCell (Nat.le_refl _) _).setCell (Nat.le_refl _) _

end Go.Proofs.YtlniakcoikhilaaGreatDoor

/- What Store and Row of layer 4 (arena) return. -/
namespace Go.Proofs.YtlniakcoikhilaaGreatDoor
open Go.RowKit
set_option linter.unusedVariables false

/-- copy of words into a row of words. -/
theorem wpList_copy_words {P : Program} {w : World} {ops : Array Oper} {rest : List Oper} {o : Oper} {a : Act} {Q : Exit → Act → World → Prop} (hgd : o.guard = none) (d s : Operand) (dT sT : TypeId)
    (ho : o.op = .call { callee := .builtin .copy, args := #[d, s], argTypes := #[dT, sT] }) (elem : TypeId) (hu : P.underlying dT = some (.slice elem)) (hsz : (P.info? elem).map (·.size) = some 1)
    (g off n dCap : Nat) (A : Option Addr) (sCap : Nat) (hd : a.eval d = .slice (some ⟨g, off, none⟩) n dCap) (hs : a.eval s = .slice A n sCap)
    (xs ys : List Nat) (t : TypeId) (hg : w.heap[g]? = some (.cells (xs.map wv).toArray t (0, 0))) (B : Nat) (hsl : Sl w B A n (ys.map wv)) (hn : 0 < n) (hfit : off + n ≤ xs.length)
    (h : ∀ w2, Hid (w2 = w.setRow g ((aStore xs off ys).map wv).toArray) → wpList P ops Q rest (a.put o.dst (goInt n)) w2) : wpList P ops Q (o :: rest) a w := by
  have hl : ys.length = n := by have := hsl.1; simpa using this
  obtain ⟨b, off2, rfl, hb, hcells⟩ := hsl.2 hn
  refine wpList_copy_own hgd d s dT sT ho elem hu hsz g off n dCap ⟨b, off2, none⟩ n sCap hd hs _ t hg (ys.map wv) (by rw [List.length_map, hl]; exact (Nat.min_self n).symm) ?_ (by simp; omega) ?_ ?_
  · intro j v hj
    have hjn : j < n := by have := (List.getElem?_eq_some_iff.1 hj).1; rw [List.length_map] at this; omega
    rw [Go.WideShapes.add_plain, hcells j hjn]; exact hj
  · intro v hv
    obtain ⟨x, _, rfl⟩ := List.mem_map.1 hv; rfl
  · have := h _ (show Hid (_ = _) from rfl)
    rw [List.length_map, hl]
    unfold aStore at this
    simpa [hl] using this

/-- The cell of a result that a call defers to. -/
def eCell (w : World) : World := w.alloc (.cells #[.int .i64 0] 27)

theorem eCell_cell {w w1 : World} (hb : Below (eCell w).heap.size (eCell w) w1) : w1.cell? ⟨w.heap.size, 0, none⟩ = some (.int .i64 0) := by
  unfold eCell at hb; rw [hb.cell (by simp)]; simp
theorem eCell_free {w w1 : World} (hb : Below (eCell w).heap.size (eCell w) w1) : w1.frozen? ⟨w.heap.size, 0, none⟩ = false := by
  unfold eCell at hb; rw [hb.frozen (by simp)]; simp [go_sem]
theorem eCell_size (w : World) : (eCell w).heap.size = w.heap.size + 1 := by unfold eCell; simp

/-- The end of a call that has written a row of words. -/
theorem end_row {w w2 : World} {B p g len : Nat} {xs ys : List Nat} (ha : Ar w B p g len xs) (hw2 : w2 = (eCell w).setRow g (ys.map wv).toArray) (hy : ys.length = len) :
    w2.cell? ⟨w.heap.size, 0, none⟩ = some (.int .i64 0) ∧ w2.frozen? ⟨w.heap.size, 0, none⟩ = false ∧
      Ar ((w2.setCell ⟨w.heap.size, 0, none⟩ (.int .i64 0)).setCell ⟨w.heap.size, 0, none⟩ (.int .i64 0)) B p g len ys ∧ w.grownBy ((w2.setCell ⟨w.heap.size, 0, none⟩ (.int .i64 0)).setCell ⟨w.heap.size, 0, none⟩ (.int .i64 0)) (some g) := by
  have hg := ha.lt
  have hp := ha.ltp
  subst hw2
  have hk : ((eCell w).setRow g (ys.map wv).toArray).heap[w.heap.size]? = (eCell w).heap[w.heap.size]? := setRow_other _ _ _ _ (by omega)
  refine ⟨?_, ?_, ?_, ?_⟩
  · rw [World.cell?_of_block (w := eCell w) (a := ⟨w.heap.size, 0, none⟩) hk]; exact eCell_cell (Below.refl _ _)
  · rw [World.frozen?_of_block (w := eCell w) (a := ⟨w.heap.size, 0, none⟩) hk]; exact eCell_free (Below.refl _ _)
  · exact (((ha.alloc _).setRow hy).setCell (by show w.heap.size ≠ p; omega) (by show w.heap.size ≠ g; omega) _).setCell (by show w.heap.size ≠ p; omega) (by show w.heap.size ≠ g; omega) _
  · exact grown_setCell (grown_setCell (grown_setRow (World.grownBy_alloc _ _ _) _) (Nat.le_refl _) _) (Nat.le_refl _) _

/-- row, wherever words are there. -/
theorem code_arow_any {p g len : Nat} {xs : List Nat} (at' n : Nat) {w : World} {B : Nat} (ha : Ar w B p g len xs) (hin : at' + n ≤ len) :
    ∃ A c, (Calls Tryz.prog 36 #[.pointer (some ⟨p, 0, none⟩), .int .i64 (at' : Int), .int .i64 (n : Int)] w fun e w' => e = .returned (.slice A n c) ∧ w = w') ∧
      (A = none → c = 0) ∧ Sl w w.heap.size A n ((aRow xs at' n).map wv) ∧ (0 < n → A = some ⟨g, at', none⟩) := by
  have hl := ha.hlen
  have hsm := ha.small
  have hlen := aRow_length xs at' n (by omega)
  by_cases h0 : n = 0
  · subst h0
    exact ⟨none, 0, code_arow_none_of _ len at' _ (code_ain ha _ _ (by unfold in64; omega) (by unfold in64; omega)) (by unfold aIn; exact decide_eq_true (by omega)), fun _ => rfl, by rw [aRow_zero]; exact Sl.nil_, fun h => absurd h (by omega)⟩
  · refine ⟨_, _, code_arow p g len at' n _ ha.cell hsm (by omega) hin, (fun h => by cases h), ⟨by rw [List.length_map]; exact hlen, fun _ => ⟨g, at', rfl, ha.lt, fun j hj => ?_⟩⟩, fun _ => rfl⟩
    rw [ha.word, List.getElem?_map, List.getElem?_map]
    unfold aRow
    rw [List.getElem?_take_of_lt hj, List.getElem?_drop]

theorem code_arow_no (v : Value) (len : Nat) (at' n : Int) (w : World) (hl : len ≤ 65536)
    (hw : Calls Tryz.prog 90 #[v] (eCell w) fun e w' => e = .returned (.int .i64 (len : Int)) ∧ eCell w = w')
    (h0 : in64 at') (h1 : in64 n) (hno : aIn len at' n = false) :
    Calls Tryz.prog 11 #[v, .int .i64 at', .int .i64 n] w (OwnWNo w [] 2) := by
  have cr := code_arow_no_of v len at' n _ (code_ain_of v len at' n _ hl hw h0 h1) hno
  unfold eCell at cr
  clear hw hno h0 h1
  go_enter_defers Tryz.func11, Tryz.ntmps11
  go_wp2_with (go_at_call 36; refine cr.mono ?_; rintro e w' ⟨rfl, rfl⟩)
  refine leaves_cons (f := 33) (args := #[.pointer (some ⟨w.heap.size, 0, none⟩)]) (by simp) (by simp [go_sem]) ?_
  refine (catch_row ⟨w.heap.size, 0, none⟩ 0 _ (by simp) (by simp) (by simp [go_sem])).mono ?_
  rintro e u' w'' ⟨rfl, rfl, rfl⟩
  simp [Leaves, settle, results, Tryz.results11, go_sem]
  exact ⟨none, 0, rfl, World.ownsRow_nil _ _ _ _, ((Below.refl _ _).alloc (Nat.le_refl _) _).alloc (by simp) _⟩

theorem code_astore_no (v : Value) (len : Nat) (at' : Int) (A : Option Addr) (n c : Nat) (w : World) (hl : len ≤ 65536) (hn : n ≤ 9223372036854775807)
    (hw : Calls Tryz.prog 90 #[v] (eCell w) fun e w' => e = .returned (.int .i64 (len : Int)) ∧ eCell w = w')
    (h0 : in64 at') (hno : aIn len at' (n : Int) = false) :
    Calls Tryz.prog 18 #[v, .int .i64 at', .slice A n c] w fun e w' => e = .returned (.int .i64 2) ∧ Below w.heap.size w w' := by
  have cr := code_arow_no_of v len at' n _ (code_ain_of v len at' n _ hl hw h0 (by unfold in64; omega)) hno
  unfold eCell at cr
  clear hw hno h0
  go_enter_defers Tryz.func18, Tryz.ntmps18
  go_wp2_with (go_at_call 36; refine cr.mono ?_; rintro e w' ⟨rfl, rfl⟩)
  refine leaves_cons (f := 47) (args := #[.pointer (some ⟨w.heap.size, 0, none⟩)]) (by simp) (by simp [go_sem]) ?_
  refine (catch_store ⟨w.heap.size, 0, none⟩ 0 _ (by simp) (by simp) (by simp [go_sem])).mono ?_
  rintro e u' w'' ⟨rfl, rfl, rfl⟩
  simp [Leaves, settle, results, Tryz.results18, go_sem]
  exact ((Below.refl _ _).alloc (Nat.le_refl _) _).alloc (by simp) _

theorem code_astore_none (v : Value) (len : Nat) (at' : Int) (A : Option Addr) (c : Nat) (w : World) (hl : len ≤ 65536)
    (hw : Calls Tryz.prog 90 #[v] (eCell w) fun e w' => e = .returned (.int .i64 (len : Int)) ∧ eCell w = w')
    (h0 : in64 at') (hin : aIn len at' 0 = true) :
    Calls Tryz.prog 18 #[v, .int .i64 at', .slice A 0 c] w fun e w' => e = .returned (.int .i64 0) ∧ Below w.heap.size w w' := by
  have cr := code_arow_none_of v len at' _ (code_ain_of v len at' 0 _ hl hw h0 (by unfold in64; omega)) hin
  unfold eCell at cr
  clear hw hin h0
  have hu := Tryz.underlying22
  have hsz : (Tryz.prog.info? 59).map (·.size) = some 1 := by kernel_rfl
  go_enter_defers Tryz.func18, Tryz.ntmps18
  go_wp2_with (first
    | (go_at_call 36; refine cr.mono ?_; rintro e w' ⟨rfl, rfl⟩)
    | (refine wpList_copy_nothing rfl (.tmp 12) (.tmp 13) 22 22 rfl 59 hu hsz none A 0 0 0 c rfl rfl rfl ?_))
  refine leaves_cons (f := 47) (args := #[.pointer (some ⟨w.heap.size, 0, none⟩)]) (by simp) (by simp [go_sem]) ?_
  refine (idle_store ⟨w.heap.size, 0, none⟩ 0 _ (by simp) (by simp [go_sem])).mono ?_
  rintro e u' w'' ⟨rfl, rfl, rfl⟩
  simp [Leaves, settle, results, Tryz.results18, go_sem]
  exact (Below.refl _ _).alloc (Nat.le_refl _) _

theorem code_astore {p g len : Nat} {xs ys : List Nat} (at' : Nat) (A : Option Addr) (n c : Nat) {w : World} {B : Nat} (ha : Ar w B p g len xs) (hs : Sl w w.heap.size A n (ys.map wv)) (hin : at' + n ≤ len) :
    Calls Tryz.prog 18 #[.pointer (some ⟨p, 0, none⟩), .int .i64 (at' : Int), .slice A n c] w fun e w' => e = .returned (.int .i64 0) ∧ Ar w' B p g len (aStore xs at' ys) ∧ w.grownBy w' (some g) := by
  have hl := ha.hlen
  have hly : ys.length = n := by have := hs.1; simpa using this
  have hsm := ha.small
  by_cases h0 : n = 0
  · subst h0
    obtain rfl : ys = [] := List.eq_nil_of_length_eq_zero hly
    refine (code_astore_none _ len at' A c w hsm (code_awords p _ _ _ _ (ha.alloc _).cell) (by unfold in64; omega) (by unfold aIn; exact decide_eq_true (by omega))).mono ?_
    rintro e w' ⟨rfl, hb⟩
    exact ⟨rfl, by rw [aStore_nil]; exact ha.below hb (Nat.le_refl _), below_to_grown hb _⟩
  · have h1 := ha.alloc (.cells #[.int .i64 0] 27)
    have cr := code_arow p g len at' n _ h1.cell hsm (by omega) hin
    have hsl := (hs.alloc (Nat.le_refl _) (.cells #[.int .i64 0] 27)).more (B' := w.heap.size + 1) (by omega)
    have hu := Tryz.underlying22
    have hsz : (Tryz.prog.info? 59).map (·.size) = some 1 := by kernel_rfl
    have hpl := ha.ltp
    have hgl := ha.lt
    have H1 := hidb h1
    have HS := hidb hsl
    have hg := h1.heap
    have HE : ∀ w2, Hid (w2 = (w.alloc (.cells #[.int .i64 0] 27)).setRow g ((aStore xs at' ys).map wv).toArray) → _ := fun w2 h => end_row ha (ys := aStore xs at' ys) h.out (by rw [aStore_length _ _ _ (by omega)]; exact hl)
    clear hs h1 hsl
    have HG := hidb hg; clear hg
    go_enter_defers Tryz.func18, Tryz.ntmps18
    go_wp2_with (first
      | (go_at_call 36; refine cr.mono ?_; rintro e w' ⟨rfl, rfl⟩)
      | (refine wpList_copy_words rfl (.tmp 12) (.tmp 13) 22 22 rfl 59 hu hsz g at' n (len - at') A c rfl rfl xs ys _ HG.out _ HS.out (by omega) (by omega) ?_; intro w2 hw2; obtain ⟨hce, hfe, HA, HGR⟩ := HE w2 hw2))
    refine leaves_cons (f := 47) (args := #[.pointer (some ⟨w.heap.size, 0, none⟩)]) (by simp) (by simp [go_sem]) ?_
    refine (idle_store ⟨w.heap.size, 0, none⟩ 0 _ (World.cell?_setCell_same _ _ _ hce) (by simp [hfe])).mono ?_
    rintro e u' w'' ⟨rfl, rfl, rfl⟩
    have hc2 := World.cell?_setCell_same (w2.setCell ⟨w.heap.size, 0, none⟩ (.int .i64 0)) ⟨w.heap.size, 0, none⟩ (.int .i64 0) (World.cell?_setCell_same _ _ (.int .i64 0) hce)
    simp [Leaves, settle, results, Tryz.results18, go_sem, hc2]
    exact ⟨HA, HGR⟩

/-- clear of a part of a row of words. -/
theorem run_clear_row {P : Program} (w : World) (t e ty : TypeId) (ht : P.underlying t = some (.slice e)) (hv : ∀ w, (zeroValue e).run P w = .ok (.int .u64 0) w) (g o n c : Nat) (xs : List Nat) (u : TypeId) (hn : 0 < n)
    (hg : w.heap[g]? = some (.cells (xs.map wv).toArray u (0, 0))) (hfit : o + n ≤ xs.length) :
    (Builtin.clear_ #[t] ty #[.slice (some ⟨g, o, none⟩) n c]).run P w = .ok (.tuple #[]) (w.setRow g ((aStore xs o (List.replicate n 0)).map wv).toArray) := by
  have hzc : (Builtin.zeroCells (Value.int .u64 0).cells n).toList = (List.replicate n 0).map wv := by
    simp [Builtin.zeroCells, Value.cells, wv]
    apply List.ext_getElem
    · simp
    · intro i h1 h2
      simp [Nat.mod_one]
  have hst := run_storeCells_at P g o u ((List.replicate n 0).map wv) 0 _ w hg (by simp; omega) (by intro v hv'; obtain ⟨x, _, rfl⟩ := List.mem_map.1 hv'; rfl)
  simp only [Nat.add_zero] at hst
  obtain ⟨m, rfl⟩ : ∃ m, n = m + 1 := ⟨n - 1, by omega⟩
  have he : (List.take o (xs.map wv).toArray.toList ++ (List.replicate (m + 1) 0).map wv ++ List.drop (o + ((List.replicate (m + 1) 0).map wv).length) (xs.map wv).toArray.toList).toArray = ((aStore xs o (List.replicate (m + 1) 0)).map wv).toArray := by
    unfold aStore
    simp
  rw [he] at hst
  rw [show (List.replicate (m + 1) 0).map wv = List.replicate (m + 1) (wv 0) by simp] at hst
  simp [Builtin.clear_, run_underlying ht, hv, hzc]
  rw [hst]
  rfl

end Go.Proofs.YtlniakcoikhilaaGreatDoor

/- What Move and Zero of layer 4 (arena), Page and Base return. -/
namespace Go.Proofs.YtlniakcoikhilaaGreatDoor
open Go.RowKit
set_option linter.unusedVariables false

/-- clear of a part of a row of words, in a walk. -/
theorem wpList_clear_words {P : Program} {w : World} {ops : Array Oper} {rest : List Oper} {o : Oper} {a : Act} {Q : Exit → Act → World → Prop} (hgd : o.guard = none) (d : Operand) (t : TypeId)
    (ho : o.op = .call { callee := .builtin .clear, args := #[d], argTypes := #[t] }) (e : TypeId) (ht : P.underlying t = some (.slice e)) (hv : ∀ w, (zeroValue e).run P w = .ok (.int .u64 0) w)
    (g off n c : Nat) (hd : a.eval d = .slice (some ⟨g, off, none⟩) n c) (xs : List Nat) (u : TypeId) (hg : w.heap[g]? = some (.cells (xs.map wv).toArray u (0, 0))) (hn : 0 < n) (hfit : off + n ≤ xs.length)
    (h : ∀ w2, Hid (w2 = w.setRow g ((aStore xs off (List.replicate n 0)).map wv).toArray) → wpList P ops Q rest (a.put o.dst (.tuple #[])) w2) : wpList P ops Q (o :: rest) a w := by
  refine wpList_plain hgd fun K hK => ?_
  have hrun := run_clear_row (P := P) w t e o.type ht hv g off n c xs u hn hg hfit
  unfold Oper.wp
  simp [execOp, ho, resolve, invoke, builtin, hd, hrun, Result.andThen]
  exact hK _ _ (h _ (show Hid (_ = _) from rfl))

/-- clear of nil. -/
theorem wpList_clear_nil {P : Program} {w : World} {ops : Array Oper} {rest : List Oper} {o : Oper} {a : Act} {Q : Exit → Act → World → Prop} (hgd : o.guard = none) (d : Operand) (t : TypeId)
    (ho : o.op = .call { callee := .builtin .clear, args := #[d], argTypes := #[t] }) (e : TypeId) (ht : P.underlying t = some (.slice e)) (hv : ∀ w, (zeroValue e).run P w = .ok (.int .u64 0) w)
    (hd : a.eval d = .slice none 0 0) (h : wpList P ops Q rest (a.put o.dst (.tuple #[])) w) : wpList P ops Q (o :: rest) a w := by
  refine wpList_plain hgd fun K hK => ?_
  unfold Oper.wp
  simp [execOp, ho, resolve, invoke, builtin, hd, Builtin.clear_, run_underlying ht, Result.andThen]
  exact hK _ _ h

theorem zero_u64 (w : World) : (zeroValue 59).run Tryz.prog w = .ok (.int .u64 0) w := by kernel_rfl

theorem code_amove_no (v : Value) (len : Nat) (to from' n : Int) (w : World) (hl : len ≤ 65536)
    (hw : Calls Tryz.prog 90 #[v] (eCell w) fun e w' => e = .returned (.int .i64 (len : Int)) ∧ eCell w = w')
    (h0 : in64 to) (h1 : in64 n) (hno : aIn len to n = false) :
    Calls Tryz.prog 30 #[v, .int .i64 to, .int .i64 from', .int .i64 n] w fun e w' => e = .returned (.int .i64 2) ∧ Below w.heap.size w w' := by
  have cr := code_arow_no_of v len to n _ (code_ain_of v len to n _ hl hw h0 h1) hno
  unfold eCell at cr
  clear hw hno h0 h1
  go_enter_defers Tryz.func30, Tryz.ntmps30
  go_wp2_with (go_at_call 36; refine cr.mono ?_; rintro e w' ⟨rfl, rfl⟩)
  refine leaves_cons (f := 61) (args := #[.pointer (some ⟨w.heap.size, 0, none⟩)]) (by simp) (by simp [go_sem]) ?_
  refine (catch_move ⟨w.heap.size, 0, none⟩ 0 _ (by simp) (by simp) (by simp [go_sem])).mono ?_
  rintro e u' w'' ⟨rfl, rfl, rfl⟩
  simp [Leaves, settle, results, Tryz.results30, go_sem]
  exact ((Below.refl _ _).alloc (Nat.le_refl _) _).alloc (by simp) _

theorem code_amove_no2 {p g len : Nat} {xs : List Nat} (to n : Nat) (from' : Int) {w : World} {B : Nat} (ha : Ar w B p g len xs) (hin : to + n ≤ len) (h0 : in64 from') (hno : aIn len from' (n : Int) = false) :
    Calls Tryz.prog 30 #[.pointer (some ⟨p, 0, none⟩), .int .i64 (to : Int), .int .i64 from', .int .i64 (n : Int)] w fun e w' => e = .returned (.int .i64 2) ∧ Below w.heap.size w w' := by
  have hsm := ha.small
  have h1 := ha.alloc (.cells #[.int .i64 0] 27)
  obtain ⟨A, c, cr, _, _, _⟩ := code_arow_any to n h1 hin
  have cn := code_arow_no_of _ len from' n _ (code_ain h1 from' n h0 (by unfold in64; omega)) hno
  clear h1 hno h0 hin ha
  go_enter_defers Tryz.func30, Tryz.ntmps30
  go_wp2_with (first
    | (go_at_call 36; (with_reducible refine cr.mono ?_); rintro e w' ⟨rfl, rfl⟩)
    | (go_at_call 36; (with_reducible refine cn.mono ?_); rintro e w' ⟨rfl, rfl⟩))
  refine leaves_cons (f := 61) (args := #[.pointer (some ⟨w.heap.size, 0, none⟩)]) (by simp) (by simp [go_sem]) ?_
  refine (catch_move ⟨w.heap.size, 0, none⟩ 0 _ (by simp) (by simp) (by simp [go_sem])).mono ?_
  rintro e u' w'' ⟨rfl, rfl, rfl⟩
  simp [Leaves, settle, results, Tryz.results30, go_sem]
  exact ((Below.refl _ _).alloc (Nat.le_refl _) _).alloc (by simp) _

theorem code_amove_none (v : Value) (len : Nat) (to from' : Int) (w : World) (hl : len ≤ 65536)
    (hw : Calls Tryz.prog 90 #[v] (eCell w) fun e w' => e = .returned (.int .i64 (len : Int)) ∧ eCell w = w')
    (h0 : in64 to) (h1 : in64 from') (hin : aIn len to 0 = true) (hin2 : aIn len from' 0 = true) :
    Calls Tryz.prog 30 #[v, .int .i64 to, .int .i64 from', .int .i64 0] w fun e w' => e = .returned (.int .i64 0) ∧ Below w.heap.size w w' := by
  have cr := code_arow_none_of v len to _ (code_ain_of v len to 0 _ hl hw h0 (by unfold in64; omega)) hin
  have cn := code_arow_none_of v len from' _ (code_ain_of v len from' 0 _ hl hw h1 (by unfold in64; omega)) hin2
  unfold eCell at cr cn
  clear hw hin hin2 h0 h1
  have hu := Tryz.underlying22
  have hsz : (Tryz.prog.info? 59).map (·.size) = some 1 := by kernel_rfl
  go_enter_defers Tryz.func30, Tryz.ntmps30
  go_wp2_with (first
    | (go_at_call 36; (with_reducible refine cr.mono ?_); rintro e w' ⟨rfl, rfl⟩)
    | (go_at_call 36; (with_reducible refine cn.mono ?_); rintro e w' ⟨rfl, rfl⟩)
    | (refine wpList_copy_nothing rfl (.tmp 13) (.tmp 17) 22 22 rfl 59 hu hsz none none 0 0 0 0 rfl rfl rfl ?_))
  refine leaves_cons (f := 61) (args := #[.pointer (some ⟨w.heap.size, 0, none⟩)]) (by simp) (by simp [go_sem]) ?_
  refine (idle_move ⟨w.heap.size, 0, none⟩ 0 _ (by simp) (by simp [go_sem])).mono ?_
  rintro e u' w'' ⟨rfl, rfl, rfl⟩
  simp [Leaves, settle, results, Tryz.results30, go_sem]
  exact (Below.refl _ _).alloc (Nat.le_refl _) _

theorem code_amove {p g len : Nat} {xs : List Nat} (to from' n : Nat) {w : World} {B : Nat} (ha : Ar w B p g len xs) (hin : to + n ≤ len) (hin2 : from' + n ≤ len) :
    Calls Tryz.prog 30 #[.pointer (some ⟨p, 0, none⟩), .int .i64 (to : Int), .int .i64 (from' : Int), .int .i64 (n : Int)] w fun e w' => e = .returned (.int .i64 0) ∧ Ar w' B p g len (aStore xs to (aRow xs from' n)) ∧ w.grownBy w' (some g) := by
  have hl := ha.hlen
  have hsm := ha.small
  have hly := aRow_length xs from' n (by omega)
  by_cases h0 : n = 0
  · subst h0
    refine (code_amove_none _ len to from' w hsm (code_awords p _ _ _ _ (ha.alloc _).cell) (by unfold in64; omega) (by unfold in64; omega) (by unfold aIn; exact decide_eq_true (by omega)) (by unfold aIn; exact decide_eq_true (by omega))).mono ?_
    rintro e w' ⟨rfl, hb⟩
    exact ⟨rfl, by rw [aRow_zero, aStore_nil]; exact ha.below hb (Nat.le_refl _), below_to_grown hb _⟩
  · have h1 := ha.alloc (.cells #[.int .i64 0] 27)
    have cr := code_arow p g len to n _ h1.cell hsm (by omega) hin
    have cn := code_arow p g len from' n _ h1.cell hsm (by omega) hin2
    have hu := Tryz.underlying22
    have hsz : (Tryz.prog.info? 59).map (·.size) = some 1 := by kernel_rfl
    have HS : Hid (Sl (w.alloc (.cells #[.int .i64 0] 27)) (w.heap.size + 1) (some ⟨g, from', none⟩) n ((aRow xs from' n).map wv)) := hidb ⟨by rw [List.length_map]; exact hly, fun _ => ⟨g, from', rfl, by have := ha.lt; omega, fun j hj => by
      rw [h1.word, List.getElem?_map, List.getElem?_map]
      unfold aRow
      rw [List.getElem?_take_of_lt hj, List.getElem?_drop]⟩⟩
    have HG := hidb h1.heap
    have HE : ∀ w2, Hid (w2 = (w.alloc (.cells #[.int .i64 0] 27)).setRow g ((aStore xs to (aRow xs from' n)).map wv).toArray) → _ := fun w2 h => end_row ha (ys := aStore xs to (aRow xs from' n)) h.out (by rw [aStore_length _ _ _ (by omega)]; exact hl)
    clear h1
    go_enter_defers Tryz.func30, Tryz.ntmps30
    go_wp2_with (first
      | (go_at_call 36; (with_reducible refine cr.mono ?_); rintro e w' ⟨rfl, rfl⟩)
      | (go_at_call 36; (with_reducible refine cn.mono ?_); rintro e w' ⟨rfl, rfl⟩)
      | (refine wpList_copy_words rfl (.tmp 13) (.tmp 17) 22 22 rfl 59 hu hsz g to n (len - to) (some ⟨g, from', none⟩) (len - from') rfl rfl xs (aRow xs from' n) _ HG.out _ HS.out (by omega) (by omega) ?_; intro w2 hw2; obtain ⟨hce, hfe, HA, HGR⟩ := HE w2 hw2))
    refine leaves_cons (f := 61) (args := #[.pointer (some ⟨w.heap.size, 0, none⟩)]) (by simp) (by simp [go_sem]) ?_
    refine (idle_move ⟨w.heap.size, 0, none⟩ 0 _ (World.cell?_setCell_same _ _ _ hce) (by simp [hfe])).mono ?_
    rintro e u' w'' ⟨rfl, rfl, rfl⟩
    have hc2 := World.cell?_setCell_same (w2.setCell ⟨w.heap.size, 0, none⟩ (.int .i64 0)) ⟨w.heap.size, 0, none⟩ (.int .i64 0) (World.cell?_setCell_same _ _ (.int .i64 0) hce)
    simp [Leaves, settle, results, Tryz.results30, go_sem, hc2]
    exact ⟨HA, HGR⟩

end Go.Proofs.YtlniakcoikhilaaGreatDoor
