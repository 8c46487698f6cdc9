/- Several texts in one: Words, RowInts, Reads, Args, RowsOf, Steps, RunRows, RunReads, RowLaws, Kept. -/
import Derived.Test.YtdcnpaodcjfdbaaGreatDoorProg
import Derived.Below
import Derived.Laws.OwnMore
import Derived.Deep.AppendLies
import Derived.Deep.Draws
import Derived.WalkKit
import Derived.ProofKit
import Derived.WalkLawsBesides
import Derived.WalkSpells
import Derived.Deep.QuietTactic
import Derived.BigQuiet
import Derived.Laws.AppendOwnNone
import Derived.ChangeArms
import Derived.ChangeSlices
import Derived.WideShapes
import Derived.Deep.Slices
import Derived.Deep.RegionLaw
import Derived.Laws.CopyOwn
import Derived.Lib.AppendZerosOnto
import Derived.Lib.Overlaps
/- Words for slices: a slice value that reads as a row of cells, nil and empty ones among them. No program is named here. -/
namespace Go.Proofs.YtdcnpaodcjfdbaaGreatDoor
open Go.RowKit

/-- The slice value '.slice A n c' has the elements xs, one cell each, all of them below block B. -/
def Sl (w : World) (B : Nat) (A : Option Addr) (n : Nat) (xs : List Value) : Prop :=
  xs.length = n ∧ (0 < n → ∃ b off, A = some ⟨b, off, none⟩ ∧ b < B ∧ ∀ j, j < n → w.cell? ⟨b, off + j, none⟩ = xs[j]?)

section
variable {w w' : World} {B B' n : Nat} {A : Option Addr} {xs : List Value}

theorem Sl.nil_ : Sl w B A 0 [] := ⟨rfl, fun h => absurd h (by omega)⟩
theorem Sl.at_ {k : Nat} (h : Sl w B A n xs) (hk : k < n) : ∃ b off u, A = some ⟨b, off, none⟩ ∧ b < B ∧ xs[k]? = some u ∧ w.cell? ⟨b, off + k, none⟩ = some u := by
  obtain ⟨b, off, e, hb, hc⟩ := h.2 (by omega)
  have hl : k < xs.length := by have := h.1; omega
  exact ⟨b, off, xs[k], e, hb, List.getElem?_eq_getElem hl, (hc k hk).trans (List.getElem?_eq_getElem hl)⟩
theorem Sl.keep (h : Sl w B A n xs) (hk : ∀ p : Addr, p.block < B → w'.cell? p = w.cell? p) : Sl w' B A n xs :=
  ⟨h.1, fun hn => by
    obtain ⟨b, off, e, hb, hc⟩ := h.2 hn
    exact ⟨b, off, e, hb, fun j hj => (hk ⟨b, off + j, none⟩ hb).trans (hc j hj)⟩⟩
theorem Sl.more (h : Sl w B A n xs) (hB : B ≤ B') : Sl w B' A n xs :=
  ⟨h.1, fun hn => by
    obtain ⟨b, off, e, hb, hc⟩ := h.2 hn
    exact ⟨b, off, e, by omega, hc⟩⟩
theorem Sl.below (h : Sl w B A n xs) (hb : Below B w w') : Sl w' B A n xs := h.keep fun _ hp => hb.cell hp
theorem Sl.drewN (h : Sl w B A n xs) (k : Nat) : Sl (w.drewN k) B A n xs := h
theorem Sl.alloc (h : Sl w B A n xs) (hB : B ≤ w.heap.size) (o : Obj) : Sl (w.alloc o) B A n xs := h.keep fun p hp => World.cell?_alloc_lt w o p (by omega)
theorem Sl.setCell (h : Sl w B A n xs) {p : Addr} (hB : B ≤ p.block) (u : Value) : Sl (w.setCell p u) B A n xs :=
  h.keep fun q hq => World.cell?_setCell_other w p q u (fun e => by subst e; omega)
theorem Sl.grown (h : Sl w B A n xs) {row : Option Nat} (hg : w.grownBy w' row) (hB : B ≤ w.heap.size) (hr : ∀ g, row = some g → B ≤ g) : Sl w' B A n xs :=
  h.keep fun p hp => World.cell?_of_block (hg.block p.block (by omega) (fun e => by have := hr _ e.symm; omega))
theorem Sl.of_own {base : Nat} {e : TypeId} {c : Nat} (h : w.ownsRow base e 1 (.slice A n c) n xs) : Sl w w.heap.size A n xs := by
  refine ⟨by have := h.1; omega, fun hn => ?_⟩
  obtain ⟨g, cap, hv, _, hlt⟩ := h.form hn
  have hA : A = some ⟨g, 0, none⟩ := by injection hv
  subst hA
  refine ⟨g, 0, rfl, hlt, fun j hj => ?_⟩
  have hl : j < xs.length := by have := h.1; omega
  have := h.cells (g := g) rfl j xs[j] (List.getElem?_eq_getElem hl)
  rw [List.getElem?_eq_getElem hl, ← this, Go.WideShapes.add_plain]

/-- Read out of the row that a slice of integers came in with. -/
theorem Sl.of_row {k : IntKind} {x : Addr} {len cap : Nat} {zs : List Int} (hl : len ≤ cap) (hz : zs.length = cap) (hb : x.block < B) (hc : ∀ i, i < zs.length → w.cell? (x.add i) = some (.int k (zs.getD i 0))) :
    Sl w B (some x) len ((zs.take len).map (Value.int k)) := by
  refine ⟨by simp; omega, fun hn => ?_⟩
  obtain ⟨b, off, spot⟩ := x
  have hspot : spot = none := by simpa [Addr.add] using World.cell?_spot (hc 0 (by omega))
  subst hspot
  refine ⟨b, off, rfl, hb, fun j hj => ?_⟩
  rw [← Go.WideShapes.add_plain, hc j (by omega)]
  rw [List.getElem?_map, List.getElem?_take_of_lt hj, List.getElem?_eq_getElem (by omega), List.getD_eq_getElem?_getD, List.getElem?_eq_getElem (by omega)]
  rfl
end

/-- append of one element, that the call has just laid into a block of its own, onto a row of the call's own: what was below 'base' stays. -/
theorem wpList_append_one {P : Program} (w : World) {ops : Array Oper} {rest : List Oper} {o : Oper} {a : Act} {Q : Exit → Act → World → Prop} (hgd : o.guard = none) (s x : Operand) (t : TypeId)
    (ho : o.op = .call { callee := .builtin .append, args := #[s, x], argTypes := #[t, t] })
    (base : Nat) (e : TypeId) (i : TypeInfo) (z : Value) (bytes : Nat) (ht : P.underlying t = some (.slice e)) (hi : P.info? e = some i) (hz : i.zero = some z)
    (hsize : i.size = 1) (hby : i.bytes = bytes) (hzs : z.cells.size = 1)
    (v : Value) (n : Nat) (xs : List Value) (hs : a.eval s = v) (hown : w.ownsRow base e 1 v n xs) (hbase : base ≤ w.heap.size)
    (u : Value) (hu : u.oneCell' = true) (te : TypeId) (hx : a.eval x = .slice (some ⟨w.heap.size, 0, none⟩) 1 1) (h63 : n + 1 ≤ maxLen) (hbytes : (n + 1) * bytes ≤ 140737488355328)
    (h : ∀ v' w', w'.ownsRow base e 1 v' (n + 1) (xs ++ [u]) → Below base w w' → wpList P ops Q rest (a.put o.dst v') w') : wpList P ops Q (o :: rest) a (w.alloc (.cells #[u] te)) := by
  refine wpList_append_own (w.alloc (.cells #[u] te)) hgd s x t ho base e i z 1 bytes ht hi hz hsize hby hzs (by decide) v n xs hs (hown.alloc _) ⟨w.heap.size, 0, none⟩ 1 1 [u] hx rfl ?_ ?_ h63 hbytes ?_ ?_
  · intro j x hj
    cases j with
    | zero =>
      obtain rfl : u = x := by simpa using hj
      rw [Go.WideShapes.add_plain]; simp
    | succ j => simp at hj
  · intro x hx
    obtain rfl : x = u := by simpa using hx
    exact hu
  · simp; omega
  · intro v' w' h1 h2 _
    refine h v' w' h1 ?_
    refine ((Below.refl base w).alloc hbase _).grown h2 (by simp; omega) (fun k hk => (hown.lt k hk).1)

theorem belowN {B : Nat} {a w : World} (h : Below B a w) (q : Nat) : Below B a (w.drewN q) := ⟨h.os, h.tape, h.output, h.size, h.block⟩
theorem nextB {a b c : World} (h : Below a.heap.size a b) (k : Below b.heap.size b c) : Below a.heap.size a c := h.trans (k.mono h.size)

end Go.Proofs.YtdcnpaodcjfdbaaGreatDoor

/- Words for rows of words and of numbers (no type of words is named), that came in or that a call made. -/
namespace Go.Proofs.YtdcnpaodcjfdbaaGreatDoor
open Go.RowKit
set_option linter.unusedVariables false

theorem hidb {p : Prop} (h : p) : Hid p := h
/-- A word of 64 bits. -/
def wv (x : Nat) : Value := .int .u64 (x : Int)
def iv (x : Int) : Value := .int .i64 x
/-- How many elements a slice has. -/
def lenOf : Value → Nat
  | .slice _ n _ => n
  | _ => 0

/-- An element of a row of words, and the cell that holds it. -/
theorem Sl.word {w : World} {B n : Nat} {A : Option Addr} {ws : List Nat} {j : Nat} (h : Sl w B A n (ws.map wv)) (hj : j < n) : ∃ b off x, A = some ⟨b, off, none⟩ ∧ ws[j]? = some x ∧ w.cell? ⟨b, off + j, none⟩ = some (.int .u64 (x : Int)) := by
  obtain ⟨b, off, u, e, _, hu, hcell⟩ := h.at_ hj
  rw [List.getElem?_map] at hu
  cases hx : ws[j]? with
  | none => rw [hx] at hu; cases hu
  | some x =>
    rw [hx] at hu
    obtain rfl : u = wv x := by simpa using hu.symm
    exact ⟨b, off, x, e, rfl, hcell⟩
theorem Sl.int_ {w : World} {B n : Nat} {A : Option Addr} {zs : List Int} {j : Nat} (h : Sl w B A n (zs.map iv)) (hj : j < n) : ∃ b off x, A = some ⟨b, off, none⟩ ∧ zs[j]? = some x ∧ w.cell? ⟨b, off + j, none⟩ = some (.int .i64 x) := by
  obtain ⟨b, off, u, e, _, hu, hcell⟩ := h.at_ hj
  rw [List.getElem?_map] at hu
  cases hx : zs[j]? with
  | none => rw [hx] at hu; cases hu
  | some x =>
    rw [hx] at hu
    obtain rfl : u = iv x := by simpa using hu.symm
    exact ⟨b, off, x, e, rfl, hcell⟩

theorem info_int : (Tryz.prog.info? 3).map (fun i => (i.zero, i.size, i.bytes)) = some (some (.int .i64 0), 1, 8) := by kernel_rfl

/-- A slice that a call made: its elements. -/
def OwnInts (w : World) (l : List Int) (e : Ending) (w' : World) : Prop := ∃ A c, e = .returned (.slice A l.length c) ∧ w'.ownsRow w.heap.size 3 1 (.slice A l.length c) l.length (l.map iv) ∧ Below w.heap.size w w'

/-- A slice of numbers that a call made, and an error's number. -/
def OwnRead (w : World) (l : List Int) (no : Int) (e : Ending) (w' : World) : Prop := ∃ A c, e = .returned (.tuple #[.slice A l.length c, .int .i64 no]) ∧ w'.ownsRow w.heap.size 3 1 (.slice A l.length c) l.length (l.map iv) ∧ Below w.heap.size w w'

theorem own_form {w : World} {base : Nat} {e : TypeId} {v : Value} {n : Nat} {xs : List Value} (h : w.ownsRow base e 1 v n xs) : ∃ A c, v = .slice A n c := by
  rcases h.2 with ⟨rfl, h0⟩ | ⟨g, cap, cur, rfl, _⟩
  · exact ⟨none, 0, by rw [h0]⟩
  · exact ⟨_, _, rfl⟩
theorem ownsRow_empty (w : World) (e : TypeId) : (w.alloc (.cells #[] e)).ownsRow w.heap.size e 1 (.slice (some ⟨w.heap.size, 0, none⟩) 0 0) 0 [] :=
  World.ownsRow_made w #[] 0 (Nat.le_refl _) (by unfold maxLen; omega) rfl

/-- A slice of words that a call answers: its elements. -/
def ResWords (w : World) (l : List Nat) (e : Ending) (w' : World) : Prop := ∃ A c, e = .returned (.slice A l.length c) ∧ l.length ≤ c ∧ c ≤ 9223372036854775807 ∧ (A = none → c = 0) ∧ Sl w' w'.heap.size A l.length (l.map wv) ∧ Below w.heap.size w w'
/-- How much a row of the call's own has room for. -/
theorem own_caps {w : World} {base : Nat} {e : TypeId} {A : Option Addr} {n c : Nat} {xs : List Value} (h : w.ownsRow base e 1 (.slice A n c) n xs) : n ≤ c ∧ c ≤ 9223372036854775807 ∧ (A = none → c = 0) := by
  rcases h.2 with ⟨h1, h0⟩ | ⟨g, cap, cur, h1, _, _, hnc, hcm, _⟩
  · injection h1 with h2 h3 h4
    exact ⟨by omega, by omega, fun _ => h4⟩
  · injection h1 with h2 h3 h4
    subst h4
    exact ⟨hnc, by unfold maxLen at hcm; omega, fun h => by rw [h] at h2; cases h2⟩

/-- append of a whole row onto an empty one that the call has just laid: a copy of its own. -/
theorem wpList_copy {P : Program} (w : World) {ops : Array Oper} {rest : List Oper} {o : Oper} {a : Act} {Q : Exit → Act → World → Prop} (hgd : o.guard = none) (s x : Operand) (t : TypeId)
    (ho : o.op = .call { callee := .builtin .append, args := #[s, x], argTypes := #[t, t] })
    (e : TypeId) (i : TypeInfo) (z : Value) (bytes : Nat) (ht : P.underlying t = some (.slice e)) (hi : P.info? e = some i) (hz : i.zero = some z)
    (hsize : i.size = 1) (hby : i.bytes = bytes) (hzs : z.cells.size = 1)
    (A : Option Addr) (n c : Nat) (xs : List Value) (hs : a.eval s = .slice (some ⟨w.heap.size, 0, none⟩) 0 0) (hx : a.eval x = .slice A n c) (hsl : Sl w w.heap.size A n xs) (hA : A = none → c = 0)
    (hone : ∀ u ∈ xs, u.oneCell' = true) (h63 : n ≤ maxLen) (hbytes : n * bytes ≤ 140737488355328)
    (h : ∀ A' c' w', w'.ownsRow w.heap.size e 1 (.slice A' n c') n xs → Below w.heap.size w w' → wpList P ops Q rest (a.put o.dst (.slice A' n c')) w') : wpList P ops Q (o :: rest) a (w.alloc (.cells #[] e)) := by
  have hl : xs.length = n := hsl.1
  have hem := ownsRow_empty w e
  have hgb : ∀ k, (Value.slice (some ⟨w.heap.size, 0, none⟩) 0 0).ownBlock = some k → w.heap.size ≤ k := fun k hk => (hem.lt k hk).1
  cases A with
  | none =>
    have hn : n = 0 := by
      refine Nat.eq_zero_of_not_pos fun c => ?_
      obtain ⟨b, off, e', _⟩ := hsl.2 c
      cases e'
    subst hn
    obtain rfl : c = 0 := hA rfl
    obtain rfl : xs = [] := List.eq_nil_of_length_eq_zero hl
    refine wpList_append_own_none hgd s x t ho w.heap.size e i 1 ht hi _ 0 [] hs hem hx ?_
    exact h _ _ _ hem ((Below.refl _ _).alloc (Nat.le_refl _) _)
  | some p =>
    refine wpList_append_own (w.alloc (.cells #[] e)) hgd s x t ho w.heap.size e i z 1 bytes ht hi hz hsize hby hzs (by decide) _ 0 [] hs hem p n c xs hx (by rw [hl, Nat.mul_one]) ?_ hone (by omega) (by rw [Nat.zero_add]; exact hbytes) (by simp) ?_
    · intro j u hu
      have hj : j < n := by have := (List.getElem?_eq_some_iff.1 hu).1; omega
      obtain ⟨b, off, e', hb, hcells⟩ := hsl.2 (by omega)
      obtain rfl : p = ⟨b, off, none⟩ := by injection e'
      rw [Go.WideShapes.add_plain, World.cell?_alloc_lt w _ _ hb, hcells j hj, hu]
    · intro v' w' h1 h2 _
      rw [Nat.zero_add, List.nil_append] at h1
      obtain ⟨A', c', rfl⟩ := own_form h1
      exact h A' c' w' h1 (((Below.refl _ _).alloc (Nat.le_refl _) _).grown h2 (by simp) (fun k hk => hgb k hk))

end Go.Proofs.YtdcnpaodcjfdbaaGreatDoor

/- Reading arguments with depth: numbers, texts, rows of numbers, rows of what has a reader, structs of one-cell fields. No program is named here. -/
namespace Go.Proofs.YtdcnpaodcjfdbaaGreatDoor
open Go.RowKit Go.ChangeShapes Go.WideShapes

/-- The slice value '.slice A n c' has the elements l, of s cells each; R reads an element's cells. -/
def RowOf {E : Type} (R : List Value → E → Prop) (s : Nat) (w : World) (B : Nat) (A : Option Addr) (n : Nat) (l : List E) : Prop :=
  l.length = n ∧ (0 < n → ∃ b off, A = some ⟨b, off, none⟩ ∧ b < B ∧ ∀ j y, l[j]? = some y → ∃ cs, cs.length = s ∧ (∀ k, k < s → w.cell? ⟨b, off + j * s + k, none⟩ = cs[k]?) ∧ R cs y)

theorem RowOf.at_ {E : Type} {R : List Value → E → Prop} {s : Nat} {w : World} {B : Nat} {A : Option Addr} {n : Nat} {l : List E} (h : RowOf R s w B A n l) {j : Nat} (hj : j < n) :
    ∃ b off y cs, A = some ⟨b, off, none⟩ ∧ b < B ∧ l[j]? = some y ∧ cs.length = s ∧ (∀ k, k < s → w.cell? ⟨b, off + j * s + k, none⟩ = cs[k]?) ∧ R cs y := by
  obtain ⟨b, off, e, hb, hc⟩ := h.2 (by omega)
  have hl : j < l.length := by have := h.1; omega
  obtain ⟨cs, h1, h2, h3⟩ := hc j l[j] (List.getElem?_eq_getElem hl)
  exact ⟨b, off, l[j], cs, e, hb, List.getElem?_eq_getElem hl, h1, h2, h3⟩

theorem rows_of {E : Type} {C : Nat → E → Prop} : ∀ n, (∀ i, i < n → ∃ y, C i y) → ∃ l : List E, l.length = n ∧ ∀ i y, l[i]? = some y → C i y
  | 0, _ => ⟨[], rfl, fun i y h => by simp at h⟩
  | n + 1, each => by
    obtain ⟨l, h1, h2⟩ := rows_of n (fun i hi => each i (by omega))
    obtain ⟨y, h3⟩ := each n (by omega)
    refine ⟨l ++ [y], by simp [h1], fun i z hz => ?_⟩
    by_cases hi : i < n
    · rw [List.getElem?_append_left (by omega)] at hz; exact h2 i z hz
    · have hin : i = n := by
        have := (List.getElem?_eq_some_iff.1 hz).1
        simp at this; omega
      subst hin
      rw [List.getElem?_append_right (by omega)] at hz
      simp [h1] at hz
      subst hz
      exact h3

section
variable {H : Type} {enc : TypeId × Value → H} {P : Program} {W : World} {sp : Nat → Bool} {hd : Bool}

theorem read_ints {t e : TypeId} {k : IntKind} {fuel : Nat} {cs : List Value} {x : DataW H × List MemPlace} (ht : P.underlying t = some (.slice e)) (he : P.underlying e = some (.int k)) (hc : P.cellsOf e = 1)
    (h : DataW.trod enc P W 0 sp hd fuel t cs = some x) :
    ∃ (A : Option Addr) (len cap : Nat) (zs : List Int), cs = [.slice A len cap] ∧ len ≤ maxLen ∧ Sl W W.heap.size A len (zs.map (Value.int k)) ∧ ∀ z ∈ zs, (Lit.int k z).wf = true := by
  rcases open_ints ht he hc h with ⟨rfl, _⟩ | ⟨a, len, cap, zs, rfl, _, hl, hm, hz, _, hcell, hwf⟩
  · exact ⟨none, 0, 0, [], rfl, Nat.zero_le _, Sl.nil_, fun z hz => by cases hz⟩
  · have hln : len ≤ zs.length := by rw [hz]; split <;> omega
    refine ⟨some a, len, cap, zs.take len, rfl, by omega, ?_, fun z hz' => hwf z (List.mem_of_mem_take hz')⟩
    refine ⟨by rw [List.length_map, List.length_take]; omega, fun hn => ?_⟩
    obtain ⟨b, off, spot⟩ := a
    have h0 := hcell 0 (by omega)
    have hspot : spot = none := by simpa [Addr.add] using World.cell?_spot h0
    subst hspot
    refine ⟨b, off, rfl, World.block_lt_of_cell? _ _ h0, fun j hj => ?_⟩
    rw [← Go.WideShapes.add_plain, hcell j (by omega)]
    rw [List.getElem?_map, List.getElem?_take_of_lt hj, List.getElem?_eq_getElem (by omega), List.getD_eq_getElem?_getD, List.getElem?_eq_getElem (by omega)]
    rfl

theorem read_row {E : Type} (R : List Value → E → Prop) (s : Nat) {t e : TypeId} {fuel : Nat} {cs : List Value} {x : DataW H × List MemPlace} (ht : P.underlying t = some (.slice e)) (hs : P.cellsOf e = s) (h0 : 0 < s)
    (hr : ∀ fuel cs x, DataW.trod enc P W 0 sp hd fuel e cs = some x → ∃ y, R cs y)
    (h : DataW.trod enc P W 0 sp hd fuel t cs = some x) :
    ∃ (A : Option Addr) (len cap : Nat) (l : List E), cs = [.slice A len cap] ∧ len ≤ maxLen ∧ RowOf R s W W.heap.size A len l := by
  subst hs
  rcases Go.Deep.open_slice ht h with ⟨rfl, _⟩ | ⟨a, len, cap, m, n, D, Pl, rfl, _, hl, hm, hmm, _, hel⟩
  · exact ⟨none, 0, 0, [], rfl, Nat.zero_le _, rfl, fun h => absurd h (by omega)⟩
  · have hlm : len ≤ m := by rw [hmm]; split <;> omega
    have each : ∀ i, i < len → ∃ cs' y, W.cells? 0 (a.add (i * P.cellsOf e)) (P.cellsOf e) = some cs' ∧ R cs' y := by
      intro i hi
      obtain ⟨cs', h1, h2⟩ := hel i (by omega)
      obtain ⟨y, hy⟩ := hr _ _ _ h2
      exact ⟨cs', y, h1, hy⟩
    obtain ⟨l, hll, hlr⟩ := rows_of (C := fun i y => ∃ cs', W.cells? 0 (a.add (i * P.cellsOf e)) (P.cellsOf e) = some cs' ∧ R cs' y) len (fun i hi => by
      obtain ⟨cs', y, h1, h2⟩ := each i hi
      exact ⟨y, cs', h1, h2⟩)
    refine ⟨some a, len, cap, l, rfl, by omega, hll, fun hn => ?_⟩
    obtain ⟨cs0, y0, h3, _⟩ := each 0 hn
    obtain ⟨_, g2, g3⟩ := World.cells?_some h3
    obtain ⟨c0, hc0⟩ : ∃ c0, cs0[0]? = some c0 := ⟨_, List.getElem?_eq_getElem (by omega)⟩
    have g4 : W.cell? a = some c0 := by
      have := g3 0 h0
      rw [Nat.zero_mul] at this
      have e1 : (a.add 0).add 0 = a := by simp [Addr.add]
      rw [e1] at this
      rw [this]; exact hc0
    obtain ⟨b, off, spot⟩ := a
    have hspot : spot = none := by simpa using World.cell?_spot g4
    subst hspot
    refine ⟨b, off, rfl, World.block_lt_of_cell? _ _ g4, fun j y hy => ?_⟩
    obtain ⟨cs', h5, h6⟩ := hlr j y hy
    obtain ⟨_, h7, h8⟩ := World.cells?_some h5
    refine ⟨cs', h7, fun k hk => ?_, h6⟩
    have := h8 k hk
    rwa [Go.WideShapes.add_plain, Go.WideShapes.add_plain] at this

/-- A struct's field that is one cell. -/
theorem read_field {fs : Array Field} {t : TypeId} {fuel : Nat} {cs : List Value} {x : DataW H × List MemPlace} (ht : P.underlying t = some (.struct fs)) (h : DataW.trod enc P W 0 sp hd fuel t cs = some x) :
    cs.length = P.cellsOf t ∧ ∀ (i : Nat) (f : Field), fs[i]? = some f → P.cellsOf f.type = 1 → f.offset < cs.length → ∃ c n y, cs[f.offset]? = some c ∧ DataW.trod enc P W 0 sp hd n f.type [c] = some y := by
  obtain ⟨xs, n, _, _, hl, hxl, hf⟩ := DataW.trod_struct ht h
  refine ⟨hl, fun i f hi hc ho => ?_⟩
  have h1 := hf i f hi
  have hil : i < xs.length := by
    rw [hxl]
    exact (Array.getElem?_eq_some_iff.1 hi).1
  rw [hc, List.getElem?_eq_getElem hil] at h1
  have e : (cs.drop f.offset).take 1 = [cs[f.offset]] := by
    rw [List.drop_eq_getElem_cons ho]; rfl
  rw [e] at h1
  exact ⟨_, n, _, List.getElem?_eq_getElem ho, h1⟩
end

end Go.Proofs.YtdcnpaodcjfdbaaGreatDoor

/- What a call's arguments are: numbers in their range, and rows of numbers, of words and of bytes that came in. -/
namespace Go.Proofs.YtdcnpaodcjfdbaaGreatDoor
open Go.RowKit
set_option linter.unusedVariables false

def in64 (z : Int) : Prop := -9223372036854775808 ≤ z ∧ z ≤ 9223372036854775807
theorem wf_in64 {z : Int} (h : (Lit.int .i64 z).wf = true) : in64 z := by
  have h1 : IntKind.i64.min = -9223372036854775808 := rfl
  have h2 : IntKind.i64.max = 9223372036854775807 := rfl
  simp only [Lit.wf, Bool.and_eq_true, decide_eq_true_eq] at h
  exact ⟨by omega, by omega⟩
theorem wf_word {z : Int} (h : (Lit.int .u64 z).wf = true) : 0 ≤ z ∧ z ≤ 18446744073709551615 := by
  have h1 : IntKind.u64.min = 0 := rfl
  have h2 : IntKind.u64.max = 18446744073709551615 := rfl
  simp only [Lit.wf, Bool.and_eq_true, decide_eq_true_eq] at h
  omega

/-- A row of words, as natural numbers. -/
theorem words_nat (zs : List Int) (h : ∀ z ∈ zs, (Lit.int .u64 z).wf = true) : (zs.map Int.toNat).map wv = zs.map (Value.int .u64) ∧ ∀ x ∈ zs.map Int.toNat, x < 18446744073709551616 := by
  constructor
  · rw [List.map_map]
    apply List.map_congr_left
    intro z hz
    have := wf_word (h z hz)
    show Value.int .u64 ((z.toNat : Nat) : Int) = _
    rw [Int.toNat_of_nonneg this.1]
  · intro x hx
    obtain ⟨z, hz, rfl⟩ := List.mem_map.1 hx
    have := wf_word (h z hz)
    omega

theorem lt_of_cell {w : World} {p : Addr} {v : Value} (h : w.cell? p = some v) : p.block < w.heap.size := by
  refine Nat.not_le.1 fun c => ?_
  unfold World.cell? at h
  rw [Array.getElem?_eq_none c] at h
  simp at h
theorem Sl.of_arg {w : World} {k : IntKind} {x : Addr} {len cap : Nat} {zs : List Int} (hl : len ≤ cap) (hz : zs.length = cap) (hc : ∀ i, i < zs.length → w.cell? (x.add i) = some (.int k (zs.getD i 0))) :
    Sl w w.heap.size (some x) len ((zs.take len).map (Value.int k)) := by
  by_cases h0 : cap = 0
  · obtain rfl : len = 0 := by omega
    rw [List.take_zero]; exact Sl.nil_
  · have h := lt_of_cell (hc 0 (by omega))
    have hb : x.block < w.heap.size := by simpa [Addr.add] using h
    exact Sl.of_row hl hz hb hc

/-- A row of numbers. -/
theorem arg_ints {w : World} {a : Option Addr} {len cap : Nat} {zs : List Int} (h : (a = none ∧ len = 0 ∧ cap = 0 ∧ zs = []) ∨
    ∃ x, a = some x ∧ len ≤ cap ∧ cap ≤ maxLen ∧ zs.length = cap ∧ (∀ i, i < zs.length → w.cell? (x.add i) = some (.int .i64 (zs.getD i 0))) ∧ ∀ n ∈ zs, (Lit.int .i64 n).wf = true) :
    Sl w w.heap.size a len ((zs.take len).map iv) ∧ len ≤ cap ∧ cap ≤ 9223372036854775807 ∧ (a = none → cap = 0) ∧ ∀ x ∈ zs.take len, in64 x := by
  rcases h with ⟨rfl, rfl, rfl, rfl⟩ | ⟨x, rfl, hl, hm, hz, hcell, hwz⟩
  · exact ⟨Sl.nil_, Nat.le_refl _, by omega, fun _ => rfl, fun x hx => by simp at hx⟩
  · unfold maxLen at hm
    exact ⟨Sl.of_arg hl hz hcell, hl, by omega, fun h => (by cases h), fun y hy => wf_in64 (hwz y (List.mem_of_mem_take hy))⟩
/-- A row of words. -/
theorem arg_words {w : World} {a : Option Addr} {len cap : Nat} {zs : List Int} (h : (a = none ∧ len = 0 ∧ cap = 0 ∧ zs = []) ∨
    ∃ x, a = some x ∧ len ≤ cap ∧ cap ≤ maxLen ∧ zs.length = cap ∧ (∀ i, i < zs.length → w.cell? (x.add i) = some (.int .u64 (zs.getD i 0))) ∧ ∀ n ∈ zs, (Lit.int .u64 n).wf = true) :
    ∃ ws : List Nat, Sl w w.heap.size a len (ws.map wv) ∧ len ≤ cap ∧ cap ≤ 9223372036854775807 ∧ (a = none → cap = 0) ∧ ∀ x ∈ ws, x < 18446744073709551616 := by
  rcases h with ⟨rfl, rfl, rfl, rfl⟩ | ⟨x, rfl, hl, hm, hz, hcell, hwz⟩
  · exact ⟨[], Sl.nil_, Nat.le_refl _, by omega, fun _ => rfl, fun x hx => by simp at hx⟩
  · unfold maxLen at hm
    obtain ⟨h1, h2⟩ := words_nat (zs.take len) (fun z hz => hwz z (List.mem_of_mem_take hz))
    exact ⟨(zs.take len).map Int.toNat, by rw [h1]; exact Sl.of_arg hl hz hcell, hl, by omega, fun h => (by cases h), h2⟩

end Go.Proofs.YtdcnpaodcjfdbaaGreatDoor

/- Words for rows of structs of any number of one-cell parts, that came in or that a call made. No program is named here. -/
namespace Go.Proofs.YtdcnpaodcjfdbaaGreatDoor
open Go.RowKit
set_option linter.unusedVariables false

section
variable {E : Type} {R : List Value → E → Prop} {s : Nat} {w w' : World} {B B' n : Nat} {A : Option Addr} {l : List E}
theorem RowOf.nil_ : RowOf R s w B A 0 ([] : List E) := ⟨rfl, fun h => absurd h (by omega)⟩
theorem RowOf.keep (h : RowOf R s w B A n l) (hk : ∀ p : Addr, p.block < B → w'.cell? p = w.cell? p) : RowOf R s w' B A n l :=
  ⟨h.1, fun hn => by
    obtain ⟨b, off, e, hb, hc⟩ := h.2 hn
    refine ⟨b, off, e, hb, fun j y hj => ?_⟩
    obtain ⟨cs, h1, h2, h3⟩ := hc j y hj
    exact ⟨cs, h1, fun k hk2 => (hk ⟨b, _, none⟩ hb).trans (h2 k hk2), h3⟩⟩
theorem RowOf.more (h : RowOf R s w B A n l) (hB : B ≤ B') : RowOf R s w B' A n l :=
  ⟨h.1, fun hn => by
    obtain ⟨b, off, e, hb, hc⟩ := h.2 hn
    exact ⟨b, off, e, by omega, hc⟩⟩
theorem RowOf.below (h : RowOf R s w B A n l) (hb : Below B w w') : RowOf R s w' B A n l := h.keep fun _ hp => hb.cell hp
theorem RowOf.drewN (h : RowOf R s w B A n l) (k : Nat) : RowOf R s (w.drewN k) B A n l := h
theorem RowOf.alloc (h : RowOf R s w B A n l) (hB : B ≤ w.heap.size) (o : Obj) : RowOf R s (w.alloc o) B A n l := h.keep fun p hp => World.cell?_alloc_lt w o p (by omega)
theorem RowOf.setCell (h : RowOf R s w B A n l) {p : Addr} (hB : B ≤ p.block) (u : Value) : RowOf R s (w.setCell p u) B A n l :=
  h.keep fun q hq => World.cell?_setCell_other w p q u (fun e => by subst e; omega)
end

theorem lt_of_cell' {w : World} {p : Addr} {v : Value} (h : w.cell? p = some v) : p.block < w.heap.size := by
  refine Nat.not_le.1 fun c => ?_
  unfold World.cell? at h
  rw [Array.getElem?_eq_none c] at h
  simp at h
/-- The cells of structs, one behind the other. -/
def cellsAll {E : Type} (f : E → List Value) (l : List E) : List Value := l.flatMap f
section
variable {E : Type} {f : E → List Value} {s : Nat}
theorem cellsAll_length (hf : ∀ y, (f y).length = s) : ∀ l : List E, (cellsAll f l).length = l.length * s
  | [] => by simp [cellsAll]
  | y :: l => by
    have ih := cellsAll_length hf l
    have e : cellsAll f (y :: l) = f y ++ cellsAll f l := rfl
    rw [e, List.length_append, ih, hf, List.length_cons, Nat.add_mul]; omega
theorem cellsAll_append (a b : List E) : cellsAll f (a ++ b) = cellsAll f a ++ cellsAll f b := by unfold cellsAll; rw [List.flatMap_append]
theorem cellsAll_one (y : E) : cellsAll f [y] = f y := by simp [cellsAll]
theorem cellsAll_at (hf : ∀ y, (f y).length = s) : ∀ (l : List E) (j : Nat) (y : E), l[j]? = some y → ∀ k, k < s → (cellsAll f l)[j * s + k]? = (f y)[k]?
  | [], j, y, h, _, _ => by simp at h
  | x :: l, 0, y, h, k, hk => by
    obtain rfl : x = y := by simpa using h
    have e : cellsAll f (x :: l) = f x ++ cellsAll f l := rfl
    rw [e, Nat.zero_mul, Nat.zero_add, List.getElem?_append_left (by rw [hf]; exact hk)]
  | x :: l, j + 1, y, h, k, hk => by
    have ih := cellsAll_at hf l j y (by simpa using h) k hk
    have e : cellsAll f (x :: l) = f x ++ cellsAll f l := rfl
    have e2 : (j + 1) * s + k = s + (j * s + k) := by rw [Nat.add_mul]; omega
    rw [e, e2, List.getElem?_append_right (by rw [hf]; omega), hf, show s + (j * s + k) - s = j * s + k by omega]
    exact ih
/-- A row of the call's own. -/
theorem RowOf.of_own {w : World} {base : Nat} {e : TypeId} {A : Option Addr} {n c : Nat} {l : List E} (hf : ∀ y, (f y).length = s) (h : w.ownsRow base e s (.slice A n c) n (cellsAll f l)) (hl : l.length = n) :
    RowOf (fun cs y => cs = f y) s w w.heap.size A n l := by
  refine ⟨hl, fun hn => ?_⟩
  rcases h.2 with ⟨_, h0⟩ | ⟨g, cap, cur, hv, _, hg, hnc, _, hcs, htake⟩
  · omega
  · have hA : A = some ⟨g, 0, none⟩ := by injection hv
    subst hA
    have hglt : g < w.heap.size := (Array.getElem?_eq_some_iff.1 hg).1
    have key : ∀ i u, (cellsAll f l)[i]? = some u → w.cell? ⟨g, i, none⟩ = some u := fun i u hu => by
      rw [cell_of_row w g i cur e (0, 0) hg]
      rw [← htake, List.getElem?_take] at hu
      split at hu
      · simpa using hu
      · cases hu
    refine ⟨g, 0, rfl, hglt, fun j y hj => ⟨f y, hf y, fun k hk => ?_, rfl⟩⟩
    have h1 := cellsAll_at hf l j y hj k hk
    rw [Nat.zero_add]
    obtain ⟨u, hu⟩ : ∃ u, (f y)[k]? = some u := ⟨_, List.getElem?_eq_getElem (by rw [hf]; exact hk)⟩
    rw [hu] at h1 ⊢
    exact key _ _ h1
end

/-- append of one struct, that the call has just laid into a block of its own, onto a row of the call's own. -/
theorem wpList_append_struct {P : Program} (w : World) {ops : Array Oper} {rest : List Oper} {o : Oper} {a : Act} {Q : Exit → Act → World → Prop} (hgd : o.guard = none) (s x : Operand) (t : TypeId)
    (ho : o.op = .call { callee := .builtin .append, args := #[s, x], argTypes := #[t, t] })
    (base : Nat) (e : TypeId) (i : TypeInfo) (z : Value) (size bytes : Nat) (ht : P.underlying t = some (.slice e)) (hi : P.info? e = some i) (hz : i.zero = some z)
    (hsize : i.size = size) (hby : i.bytes = bytes) (hzs : z.cells.size = size) (hsz : 0 < size)
    (v : Value) (n : Nat) (xs : List Value) (hs : a.eval s = v) (hown : w.ownsRow base e size v n xs) (hbase : base ≤ w.heap.size)
    (cs : Array Value) (hcs : cs.size = size) (hone : ∀ u ∈ cs.toList, u.oneCell' = true) (te : TypeId) (hx : a.eval x = .slice (some ⟨w.heap.size, 0, none⟩) 1 1) (h63 : n + 1 ≤ maxLen) (hbytes : (n + 1) * bytes ≤ 140737488355328)
    (h : ∀ v' w', w'.ownsRow base e size v' (n + 1) (xs ++ cs.toList) → Below base w w' → wpList P ops Q rest (a.put o.dst v') w') : wpList P ops Q (o :: rest) a (w.alloc (.cells cs te)) := by
  refine wpList_append_own (w.alloc (.cells cs te)) hgd s x t ho base e i z size bytes ht hi hz hsize hby hzs hsz v n xs hs (hown.alloc _) ⟨w.heap.size, 0, none⟩ 1 1 cs.toList hx (by rw [Array.length_toList, hcs, Nat.one_mul]) ?_ hone h63 hbytes ?_ ?_
  · intro j u hj
    rw [Go.WideShapes.add_plain]
    have hg : (w.alloc (.cells cs te)).heap[w.heap.size]? = some (.cells cs te (0, 0)) := by
      show (w.heap.push _)[w.heap.size]? = _
      simp
    rw [cell_of_row _ _ _ cs te (0, 0) hg]
    simpa using hj
  · simp; omega
  · intro v' w' h1 h2 _
    refine h v' w' h1 ?_
    refine ((Below.refl base w).alloc hbase _).grown h2 (by simp; omega) (fun k hk => (hown.lt k hk).1)

/-- append of a whole row, that came in or that a call made, nil and empty ones too, onto a row of the call's own. -/
theorem wpList_append_row {P : Program} (w : World) {ops : Array Oper} {rest : List Oper} {o : Oper} {a : Act} {Q : Exit → Act → World → Prop} (hgd : o.guard = none) (s x : Operand) (t : TypeId)
    (ho : o.op = .call { callee := .builtin .append, args := #[s, x], argTypes := #[t, t] })
    (base : Nat) (e : TypeId) (i : TypeInfo) (z : Value) (size bytes : Nat) (ht : P.underlying t = some (.slice e)) (hi : P.info? e = some i) (hz : i.zero = some z)
    (hsize : i.size = size) (hby : i.bytes = bytes) (hzs : z.cells.size = size) (hsz : 0 < size)
    (v : Value) (n : Nat) (xs : List Value) (hs : a.eval s = v) (hown : w.ownsRow base e size v n xs) (hbase : base ≤ w.heap.size)
    (A : Option Addr) (m c : Nat) (news : List Value) (hx : a.eval x = .slice A m c) (hl : news.length = m * size) (hA : A = none → m = 0 ∧ c = 0)
    (hnews : ∀ ad, A = some ad → ∀ j u, news[j]? = some u → w.cell? (ad.add j) = some u) (hone : ∀ u ∈ news, u.oneCell' = true) (h63 : n + m ≤ maxLen) (hbytes : (n + m) * bytes ≤ 140737488355328)
    (h : ∀ A' c' w', w'.ownsRow base e size (.slice A' (n + m) c') (n + m) (xs ++ news) → w.grownBy w' v.ownBlock → wpList P ops Q rest (a.put o.dst (.slice A' (n + m) c')) w') : wpList P ops Q (o :: rest) a w := by
  have form : ∀ {w : World} {v : Value} {n : Nat} {xs : List Value}, w.ownsRow base e size v n xs → ∃ A c, v = .slice A n c := fun {w v n xs} h => by
    rcases h.2 with ⟨rfl, h0⟩ | ⟨g, cap, cur, rfl, _⟩
    · exact ⟨none, 0, by rw [h0]⟩
    · exact ⟨_, _, rfl⟩
  cases A with
  | none =>
    obtain ⟨rfl, rfl⟩ := hA rfl
    obtain rfl : news = [] := List.eq_nil_of_length_eq_zero (by rw [hl, Nat.zero_mul])
    refine wpList_append_own_none hgd s x t ho base e i size ht hi _ n xs hs hown hx ?_
    obtain ⟨A', c', rfl⟩ := form hown
    have := h A' c' w (by rw [List.append_nil]; exact hown) ⟨rfl, rfl, rfl, Nat.le_refl _, fun _ _ _ => rfl⟩
    rw [Nat.add_zero] at this
    exact this
  | some ad =>
    refine wpList_append_own w hgd s x t ho base e i z size bytes ht hi hz hsize hby hzs hsz v n xs hs hown ad m c news hx hl (hnews ad rfl) hone h63 hbytes hbase ?_
    intro v' w' h1 h2 _
    obtain ⟨A', c', rfl⟩ := form h1
    exact h A' c' w' h1 h2
theorem own_empty (w : World) (base : Nat) (e : TypeId) (size : Nat) (h : base ≤ w.heap.size) : (w.alloc (.cells #[] e)).ownsRow base e size (.slice (some ⟨w.heap.size, 0, none⟩) 0 0) 0 [] :=
  World.ownsRow_made w #[] 0 h (by unfold maxLen; omega) (by simp)

/-- The cells of a block that was just laid; that were kept; behind a draw. -/
def CellsAt (w : World) (A : Option Addr) (l : List Value) : Prop := ∀ ad, A = some ad → ∀ (j : Nat) (u : Value), l[j]? = some u → w.cell? (ad.add j) = some u
theorem cells_new (w : World) (l : List Value) (t : TypeId) : CellsAt (w.alloc (.cells l.toArray t)) (some ⟨w.heap.size, 0, none⟩) l := fun ad e j u hj => by
  injection e with e
  subst e
  rw [Go.WideShapes.add_plain, World.cell?_alloc_new]
  simpa using hj
theorem add_block (ad : Addr) (j : Nat) : (ad.add j).block = ad.block := by
  unfold Addr.add; split <;> rfl
theorem CellsAt.drew {w : World} {A : Option Addr} {l : List Value} (h : CellsAt w A l) : CellsAt w.drew A l := h
theorem CellsAt.alloc {w : World} {A : Option Addr} {l : List Value} (h : CellsAt w A l) (o : Obj) : CellsAt (w.alloc o) A l := fun ad e j u hj => by
  have := h ad e j u hj
  rw [World.cell?_alloc_lt w o _ (lt_of_cell' this)]; exact this
theorem CellsAt.grown {w w' : World} {A : Option Addr} {l : List Value} {r : Option Nat} (h : CellsAt w A l) (hg : w.grownBy w' r) (hr : ∀ ad, A = some ad → some ad.block ≠ r) : CellsAt w' A l := fun ad e j u hj =>
  hg.cell (h ad e j u hj) (by rw [add_block]; exact hr ad e)
theorem CellsAt.below {w w' : World} {A : Option Addr} {l : List Value} {B : Nat} (h : CellsAt w A l) (hb : Below B w w') (hr : ∀ ad, A = some ad → ad.block < B) : CellsAt w' A l := fun ad e j u hj => by
  rw [hb.cell (by rw [add_block]; exact hr ad e)]; exact h ad e j u hj

end Go.Proofs.YtdcnpaodcjfdbaaGreatDoor

/- Steps of a region that draws its order: append onto a row of the call's own. No program is named here. -/
namespace Go.Proofs.YtdcnpaodcjfdbaaGreatDoor
open Go.RowKit
set_option linter.unusedVariables false

/-- append onto a row of the call's own, as one step of a region that draws: handed to go_region_law. -/
theorem step_append_own {P : Program} {ops : Array Oper} {o : Oper} {a : Act} {w : World} {K : Act → World → Prop} {Q : Exit → Act → World → Prop} {E : Prop}
    (hg : o.guard = none) (s x : Operand) (t : TypeId) (hop : o.op = Op.call { callee := Callee.builtin Builtin.append, args := #[s, x], argTypes := #[t, t] })
    (base : Nat) (e : TypeId) (i : TypeInfo) (z : Value) (size bytes : Nat) (ht : P.underlying t = some (.slice e)) (hi : P.info? e = some i) (hz : i.zero = some z)
    (hsize : i.size = size) (hby : i.bytes = bytes) (hzs : z.cells.size = size) (hsz : 0 < size)
    (v : Value) (n : Nat) (xs : List Value) (hs : a.eval s = v) (hown : w.ownsRow base e size v n xs)
    (ad : Addr) (m c : Nat) (news : List Value) (hx : a.eval x = .slice (some ad) m c) (hl : news.length = m * size) (hnews : ∀ j u, news[j]? = some u → w.cell? (ad.add j) = some u) (h1 : ∀ u ∈ news, u.oneCell' = true)
    (h63 : n + m ≤ maxLen) (hbytes : (n + m) * bytes ≤ 140737488355328) (hbase : base ≤ w.heap.size)
    (hK : ∀ A' c' w', w'.ownsRow base e size (.slice A' (n + m) c') (n + m) (xs ++ news) → w.grownBy w' v.ownBlock → K (a.put o.dst (.slice A' (n + m) c')) w') :
    if Region.wanted o (yielded ops a.tmps) = true then Oper.wp P o a w K Q else E := by
  have hw : Region.wanted o (yielded ops a.tmps) = true := by simp [Region.wanted, hg]
  rw [if_pos hw]
  obtain ⟨v', w', hrun, r1, r2, _⟩ := run_append_own (P := P) w base t o.type e i z size bytes ht hi hz hsize hby hzs hsz v n xs hown ad m c news hl hnews h1 h63 hbytes hbase
  obtain ⟨A', c', rfl⟩ : ∃ A c, v' = .slice A (n + m) c := by
    rcases r1.2 with ⟨rfl, h0⟩ | ⟨g, cap, cur, rfl, _⟩
    · exact ⟨none, 0, by rw [h0]⟩
    · exact ⟨_, _, rfl⟩
  unfold Oper.wp
  simp [execOp, hop, resolve, invoke, builtin, hs, hx, hrun, Result.andThen]
  exact hK A' c' w' r1 r2

/-- append of a whole row, nil and empty ones too, onto a row of the call's own, as one step of a region that draws. -/
theorem step_append_row {P : Program} {ops : Array Oper} {o : Oper} {a : Act} {w : World} {K : Act → World → Prop} {Q : Exit → Act → World → Prop} {E : Prop}
    (hg : o.guard = none) (s x : Operand) (t : TypeId) (hop : o.op = Op.call { callee := Callee.builtin Builtin.append, args := #[s, x], argTypes := #[t, t] })
    (base : Nat) (e : TypeId) (i : TypeInfo) (z : Value) (size bytes : Nat) (ht : P.underlying t = some (.slice e)) (hi : P.info? e = some i) (hz : i.zero = some z)
    (hsize : i.size = size) (hby : i.bytes = bytes) (hzs : z.cells.size = size) (hsz : 0 < size)
    (v : Value) (n : Nat) (xs : List Value) (hs : a.eval s = v) (hown : w.ownsRow base e size v n xs) (hbase : base ≤ w.heap.size)
    (A : Option Addr) (m c : Nat) (news : List Value) (hx : a.eval x = .slice A m c) (hl : news.length = m * size) (hA : A = none → m = 0 ∧ c = 0)
    (hnews : CellsAt w A news) (h1 : ∀ u ∈ news, u.oneCell' = true) (h63 : n + m ≤ maxLen) (hbytes : (n + m) * bytes ≤ 140737488355328)
    (hK : ∀ A' c' w', w'.ownsRow base e size (.slice A' (n + m) c') (n + m) (xs ++ news) → w.grownBy w' v.ownBlock → K (a.put o.dst (.slice A' (n + m) c')) w') :
    if Region.wanted o (yielded ops a.tmps) = true then Oper.wp P o a w K Q else E := by
  have hw : Region.wanted o (yielded ops a.tmps) = true := by simp [Region.wanted, hg]
  cases A with
  | some ad => exact step_append_own hg s x t hop base e i z size bytes ht hi hz hsize hby hzs hsz v n xs hs hown ad m c news hx hl (hnews ad rfl) h1 h63 hbytes hbase hK
  | none =>
    obtain ⟨rfl, rfl⟩ := hA rfl
    obtain rfl : news = [] := List.eq_nil_of_length_eq_zero (by rw [hl, Nat.zero_mul])
    rw [if_pos hw]
    obtain ⟨A', c', rfl⟩ : ∃ A c, v = .slice A n c := by
      rcases hown.2 with ⟨rfl, h0⟩ | ⟨g, cap, cur, rfl, _⟩
      · exact ⟨none, 0, by rw [h0]⟩
      · exact ⟨_, _, rfl⟩
    have hrun := run_append_owned_none (P := P) (w := w) base t o.type e i size ht hi _ n xs hown
    unfold Oper.wp
    simp [execOp, hop, resolve, invoke, builtin, hs, hx, hrun, Result.andThen]
    have := hK A' c' w (by rw [List.append_nil]; exact hown) ⟨rfl, rfl, rfl, Nat.le_refl _, fun _ _ _ => rfl⟩
    rw [Nat.add_zero] at this
    exact this

theorem own_ge {b n c q B : Nat} (h : (Value.slice (some ⟨b, 0, none⟩) n c).ownBlock = some q) (hb : B ≤ b) : B ≤ q := by
  have e : (Value.slice (some ⟨b, 0, none⟩) n c).ownBlock = some b := rfl
  rw [e] at h
  injection h with h
  omega
theorem own_ne {w : World} {base size n m : Nat} {e : TypeId} {v : Value} {xs : List Value} {b : Nat} (h : w.ownsRow base e size v n xs) (hb : w.heap.size ≤ b) : some b ≠ v.ownBlock := fun hq => by
  have := (h.lt b hq.symm).2
  omega

theorem own_off {b b0 n c : Nat} (h : b ≠ b0) : ∀ ad : Addr, some (⟨b, 0, none⟩ : Addr) = some ad → some ad.block ≠ (Value.slice (some ⟨b0, 0, none⟩) n c).ownBlock := fun ad e hq => by
  injection e with e
  subst e
  have e2 : (Value.slice (some ⟨b0, 0, none⟩) n c).ownBlock = some b0 := rfl
  rw [e2] at hq
  injection hq with hq
  exact h hq
theorem cells_new' (w : World) (l : List Value) (t : TypeId) (b : Nat) (hb : b = w.heap.size) : CellsAt (w.alloc (.cells l.toArray t)) (some ⟨b, 0, none⟩) l := by
  subst hb
  exact cells_new w l t

theorem own_empty' (w : World) (base : Nat) (e : TypeId) (size b : Nat) (hb : b = w.heap.size) (h : base ≤ w.heap.size) : (w.alloc (.cells #[] e)).ownsRow base e size (.slice (some ⟨b, 0, none⟩) 0 0) 0 [] := by
  subst hb
  exact own_empty w base e size h

end Go.Proofs.YtdcnpaodcjfdbaaGreatDoor

/- Words for rows of runs of pages (two numbers each), that came in or that a call made. -/
namespace Go.Proofs.YtdcnpaodcjfdbaaGreatDoor
open Go.RowKit
set_option linter.unusedVariables false

/-- The slice value '.slice A n c' has the runs rs. -/
def Rn (w : World) (B : Nat) (A : Option Addr) (n : Nat) (rs : List (Int × Int)) : Prop :=
  rs.length = n ∧ (0 < n → ∃ b off, A = some ⟨b, off, none⟩ ∧ b < B ∧ ∀ j r, rs[j]? = some r → w.cell? ⟨b, off + j * 2, none⟩ = some (iv r.1) ∧ w.cell? ⟨b, off + j * 2 + 1, none⟩ = some (iv r.2))
/-- The cells of runs. -/
def rcells (rs : List (Int × Int)) : List Value := rs.flatMap fun r => [iv r.1, iv r.2]
theorem rcells_length (rs : List (Int × Int)) : (rcells rs).length = rs.length * 2 := by
  unfold rcells
  induction rs with
  | nil => rfl
  | cons r l ih => rw [List.flatMap_cons, List.length_append, ih]; simp; omega
theorem rcells_append (a b : List (Int × Int)) : rcells (a ++ b) = rcells a ++ rcells b := by unfold rcells; rw [List.flatMap_append]
theorem rcells_at : ∀ (rs : List (Int × Int)) (j : Nat) (r : Int × Int), rs[j]? = some r → (rcells rs)[j * 2]? = some (iv r.1) ∧ (rcells rs)[j * 2 + 1]? = some (iv r.2)
  | [], j, r, h => by simp at h
  | x :: l, 0, r, h => by
    obtain rfl : x = r := by simpa using h
    exact ⟨rfl, rfl⟩
  | x :: l, j + 1, r, h => by
    have ih := rcells_at l j r (by simpa using h)
    have e : rcells (x :: l) = [iv x.1, iv x.2] ++ rcells l := rfl
    rw [e, show (j + 1) * 2 = 2 + j * 2 by omega, List.getElem?_append_right (by simp), List.getElem?_append_right (by simp; omega)]
    rw [show 2 + j * 2 - [iv x.1, iv x.2].length = j * 2 by simp, show 2 + j * 2 + 1 - [iv x.1, iv x.2].length = j * 2 + 1 by simp; omega]
    exact ih

section
variable {w w' : World} {B B' n : Nat} {A : Option Addr} {rs : List (Int × Int)}
theorem Rn.nil_ : Rn w B A 0 [] := ⟨rfl, fun h => absurd h (by omega)⟩
theorem Rn.at_ {k : Nat} (h : Rn w B A n rs) (hk : k < n) : ∃ b off s l, A = some ⟨b, off, none⟩ ∧ b < B ∧ rs[k]? = some (s, l) ∧ w.cell? ⟨b, off + k * 2, none⟩ = some (.int .i64 s) ∧ w.cell? ⟨b, off + k * 2 + 1, none⟩ = some (.int .i64 l) := by
  obtain ⟨b, off, e, hb, hc⟩ := h.2 (by omega)
  have hl : k < rs.length := by have := h.1; omega
  obtain ⟨h1, h2⟩ := hc k rs[k] (List.getElem?_eq_getElem hl)
  exact ⟨b, off, rs[k].1, rs[k].2, e, hb, List.getElem?_eq_getElem hl, h1, h2⟩
theorem Rn.keep (h : Rn w B A n rs) (hk : ∀ p : Addr, p.block < B → w'.cell? p = w.cell? p) : Rn w' B A n rs :=
  ⟨h.1, fun hn => by
    obtain ⟨b, off, e, hb, hc⟩ := h.2 hn
    exact ⟨b, off, e, hb, fun j r hj => ⟨(hk ⟨b, _, none⟩ hb).trans (hc j r hj).1, (hk ⟨b, _, none⟩ hb).trans (hc j r hj).2⟩⟩⟩
theorem Rn.more (h : Rn w B A n rs) (hB : B ≤ B') : Rn w B' A n rs :=
  ⟨h.1, fun hn => by
    obtain ⟨b, off, e, hb, hc⟩ := h.2 hn
    exact ⟨b, off, e, by omega, hc⟩⟩
theorem Rn.below (h : Rn w B A n rs) (hb : Below B w w') : Rn w' B A n rs := h.keep fun _ hp => hb.cell hp
theorem Rn.drewN (h : Rn w B A n rs) (k : Nat) : Rn (w.drewN k) B A n rs := h
theorem Rn.alloc (h : Rn w B A n rs) (hB : B ≤ w.heap.size) (o : Obj) : Rn (w.alloc o) B A n rs := h.keep fun p hp => World.cell?_alloc_lt w o p (by omega)
theorem Rn.setCell (h : Rn w B A n rs) {p : Addr} (hB : B ≤ p.block) (u : Value) : Rn (w.setCell p u) B A n rs :=
  h.keep fun q hq => World.cell?_setCell_other w p q u (fun e => by subst e; omega)
/-- A row of the call's own. -/
theorem Rn.of_own {base : Nat} {e : TypeId} {c : Nat} (h : w.ownsRow base e 2 (.slice A n c) n (rcells rs)) (hl : rs.length = n) : Rn w w.heap.size A n rs := by
  refine ⟨hl, fun hn => ?_⟩
  rcases h.2 with ⟨_, h0⟩ | ⟨g, cap, cur, hv, _, hg, hnc, _, hcs, htake⟩
  · omega
  · have hA : A = some ⟨g, 0, none⟩ := by injection hv
    subst hA
    have hglt : g < w.heap.size := (Array.getElem?_eq_some_iff.1 hg).1
    have key : ∀ i u, (rcells rs)[i]? = some u → w.cell? ⟨g, i, none⟩ = some u := fun i u hu => by
      rw [cell_of_row w g i cur e (0, 0) hg]
      rw [← htake, List.getElem?_take] at hu
      split at hu
      · simpa using hu
      · cases hu
    refine ⟨g, 0, rfl, hglt, fun j r hj => ?_⟩
    obtain ⟨h1, h2⟩ := rcells_at rs j r hj
    rw [Nat.zero_add]
    exact ⟨key _ _ h1, key _ _ h2⟩
/-- A row of structs that came in. -/
theorem Rn.of_row {l : List (Int × Int)} (h : RowOf (fun cs r => cs = [iv r.1, iv r.2]) 2 w B A n l) : Rn w B A n l :=
  ⟨h.1, fun hn => by
    obtain ⟨b, off, e, hb, hc⟩ := h.2 hn
    refine ⟨b, off, e, hb, fun j r hj => ?_⟩
    obtain ⟨cs, _, h2, rfl⟩ := hc j r hj
    exact ⟨h2 0 (by omega), h2 1 (by omega)⟩⟩
end

theorem own_form2 {w : World} {base : Nat} {e : TypeId} {s : Nat} {v : Value} {n : Nat} {xs : List Value} (h : w.ownsRow base e s v n xs) : ∃ A c, v = .slice A n c := by
  rcases h.2 with ⟨rfl, h0⟩ | ⟨g, cap, cur, rfl, _⟩
  · exact ⟨none, 0, by rw [h0]⟩
  · exact ⟨_, _, rfl⟩

/-- append of one struct of two cells, that the call has just laid into a block of its own, onto a row of the call's own. -/
theorem wpList_append_two {P : Program} (w : World) {ops : Array Oper} {rest : List Oper} {o : Oper} {a : Act} {Q : Exit → Act → World → Prop} (hgd : o.guard = none) (s x : Operand) (t : TypeId)
    (ho : o.op = .call { callee := .builtin .append, args := #[s, x], argTypes := #[t, t] })
    (base : Nat) (e : TypeId) (i : TypeInfo) (z : Value) (bytes : Nat) (ht : P.underlying t = some (.slice e)) (hi : P.info? e = some i) (hz : i.zero = some z)
    (hsize : i.size = 2) (hby : i.bytes = bytes) (hzs : z.cells.size = 2)
    (v : Value) (n : Nat) (xs : List Value) (hs : a.eval s = v) (hown : w.ownsRow base e 2 v n xs) (hbase : base ≤ w.heap.size)
    (u1 u2 : Value) (hu1 : u1.oneCell' = true) (hu2 : u2.oneCell' = true) (te : TypeId) (hx : a.eval x = .slice (some ⟨w.heap.size, 0, none⟩) 1 1) (h63 : n + 1 ≤ maxLen) (hbytes : (n + 1) * bytes ≤ 140737488355328)
    (h : ∀ v' w', w'.ownsRow base e 2 v' (n + 1) (xs ++ [u1, u2]) → Below base w w' → wpList P ops Q rest (a.put o.dst v') w') : wpList P ops Q (o :: rest) a (w.alloc (.cells #[u1, u2] te)) := by
  refine wpList_append_own (w.alloc (.cells #[u1, u2] te)) hgd s x t ho base e i z 2 bytes ht hi hz hsize hby hzs (by decide) v n xs hs (hown.alloc _) ⟨w.heap.size, 0, none⟩ 1 1 [u1, u2] hx rfl ?_ ?_ h63 hbytes ?_ ?_
  · intro j x hj
    match j, hj with
    | 0, hj =>
      obtain rfl : u1 = x := by simpa using hj
      rw [Go.WideShapes.add_plain]; simp
    | 1, hj =>
      obtain rfl : u2 = x := by simpa using hj
      rw [Go.WideShapes.add_plain]; simp
    | j + 2, hj => simp at hj
  · intro x hx
    rcases List.mem_cons.1 hx with rfl | hx
    · exact hu1
    · rw [List.mem_singleton.1 hx]; exact hu2
  · simp; omega
  · intro v' w' h1 h2 _
    refine h v' w' h1 ?_
    refine ((Below.refl base w).alloc hbase _).grown h2 (by simp; omega) (fun k hk => (hown.lt k hk).1)

end Go.Proofs.YtdcnpaodcjfdbaaGreatDoor

/- Reading rows of runs, and the acts that the statements of layers 5 and 6 take. -/
namespace Go.Proofs.YtdcnpaodcjfdbaaGreatDoor
open Go.RowKit
set_option linter.unusedVariables false

section
variable {H : Type} {enc : TypeId × Value → H} {P : Program} {W : World} {sp : Nat → Bool} {hd : Bool}
/-- A struct's field of some cells. -/
theorem read_fieldN (k : Nat) {fs : Array Field} {t : TypeId} {fuel : Nat} {cs : List Value} {x : DataW H × List MemPlace} (ht : P.underlying t = some (.struct fs)) (h : DataW.trod enc P W 0 sp hd fuel t cs = some x) :
    ∀ (i : Nat) (f : Field), fs[i]? = some f → P.cellsOf f.type = k → f.offset + k ≤ cs.length → ∃ n y, DataW.trod enc P W 0 sp hd n f.type ((cs.drop f.offset).take k) = some y := by
  obtain ⟨xs, n, _, _, hl, hxl, hf⟩ := DataW.trod_struct ht h
  intro i f hi hc ho
  have h1 := hf i f hi
  have hil : i < xs.length := by
    rw [hxl]
    exact (Array.getElem?_eq_some_iff.1 hi).1
  rw [hc, List.getElem?_eq_getElem hil] at h1
  exact ⟨_, _, h1⟩
end

section
variable {H : Type} {enc : TypeId × Value → H} {W : World} {sp : Nat → Bool} {hd : Bool}
theorem rr_int : Tryz.prog.cellsOf 3 = 1 := by kernel_rfl

/-- A run. -/
def RunCells (cs : List Value) (r : Int × Int) : Prop := cs = [iv r.1, iv r.2] ∧ in64 r.1 ∧ in64 r.2
theorem Rn.of_runs {w : World} {B n : Nat} {A : Option Addr} {l : List (Int × Int)} (h : RowOf RunCells 2 w B A n l) : Rn w B A n l ∧ ∀ r ∈ l, in64 r.1 ∧ in64 r.2 := by
  constructor
  · refine ⟨h.1, fun hn => ?_⟩
    obtain ⟨b, off, e, hb, hc⟩ := h.2 hn
    refine ⟨b, off, e, hb, fun j r hj => ?_⟩
    obtain ⟨cs, _, h2, rfl, _⟩ := hc j r hj
    exact ⟨h2 0 (by omega), h2 1 (by omega)⟩
  · intro r hr
    obtain ⟨j, hj, rfl⟩ := List.getElem_of_mem hr
    obtain ⟨b, off, y, cs, _, _, hy, _, _, hR⟩ := h.at_ (j := j) (by have := h.1; omega)
    rw [List.getElem?_eq_getElem hj] at hy
    injection hy with hy
    rw [hy]; exact hR.2
end

end Go.Proofs.YtdcnpaodcjfdbaaGreatDoor

/- Laws for rows of structs that are known whole (a block of cells): copy, clear, and append, as steps of a walk and of a region that draws; and the worlds behind them. No program is named here. -/
namespace Go.Proofs.YtdcnpaodcjfdbaaGreatDoor
open Go.RowKit
set_option linter.unusedVariables false

/-- A block of cells, known whole. -/
def Rw (w : World) (g : Nat) (e : TypeId) (L : List Value) : Prop := w.heap[g]? = some (.cells L.toArray e (0, 0))
section
variable {w w' w'' : World} {g : Nat} {e : TypeId} {L : List Value}
theorem Rw.lt (h : Rw w g e L) : g < w.heap.size := (Array.getElem?_eq_some_iff.1 h).1
theorem Rw.cell (h : Rw w g e L) (j : Nat) : w.cell? ⟨g, j, none⟩ = L[j]? := by unfold Rw at h; simp [World.cell?, h]
theorem Rw.free (h : Rw w g e L) (j : Nat) : w.frozen? ⟨g, j, none⟩ = false := by unfold Rw at h; simp [World.frozen?, h]
theorem Rw.shape (h : Rw w g e L) : w.shape? g = some (e, L.length) := by unfold Rw at h; simp [World.shape?, h]
theorem Rw.keep (h : Rw w g e L) (hk : w'.heap[g]? = w.heap[g]?) : Rw w' g e L := hk.trans h
theorem Rw.alloc (h : Rw w g e L) (o : Obj) : Rw (w.alloc o) g e L := h.keep (Below.heap_alloc _ _ _ h.lt)
theorem Rw.drew (h : Rw w g e L) : Rw w.drew g e L := h
theorem Rw.drewN (h : Rw w g e L) {q : Nat} : Rw (w.drewN q) g e L := h
theorem Rw.below {B : Nat} (h : Rw w g e L) (hb : Below B w w') (hB : g < B) : Rw w' g e L := h.keep (hb.block g hB)
theorem Rw.grown {r : Option Nat} (h : Rw w g e L) (hb : w.grownBy w' r) (hr : some g ≠ r) : Rw w' g e L := h.keep (hb.block g h.lt hr)
theorem Rw.set (h : Rw w g e L) (cs : List Value) : Rw (w.setRow g cs.toArray) g e cs := setRow_heap w g _ _ e _ h
/-- The cells from a place on. -/
theorem Rw.cells (h : Rw w g e L) (off : Nat) (cs : List Value) (hc : ∀ (j : Nat) (u : Value), cs[j]? = some u → L[off + j]? = some u) : CellsAt w (some ⟨g, off, none⟩) cs := fun ad ea j u hj => by
  injection ea with ea
  subst ea
  rw [Go.WideShapes.add_plain, h.cell]; exact hc j u hj
theorem grownSelf (r : Option Nat) (w : World) : w.grownBy w r := ⟨rfl, rfl, rfl, Nat.le_refl _, fun _ _ _ => rfl⟩
theorem grownTrans {r : Option Nat} (h : w.grownBy w' r) (k : w'.grownBy w'' r) : w.grownBy w'' r :=
  ⟨k.os.trans h.os, k.tape.trans h.tape, k.output.trans h.output, Nat.le_trans h.size k.size, fun i hi hr => (k.block i (by have := h.size; omega) hr).trans (h.block i hi hr)⟩
/-- First new blocks alone, then also writes into one of these. -/
theorem grownNew {r : Option Nat} {b : Nat} (h : w.grownBy w' r) (hb : w.heap.size ≤ b) (k : w'.grownBy w'' (some b)) : w.grownBy w'' r :=
  ⟨k.os.trans h.os, k.tape.trans h.tape, k.output.trans h.output, Nat.le_trans h.size k.size, fun i hi hr => (k.block i (by have := h.size; omega) (fun e => by injection e with e; omega)).trans (h.block i hi hr)⟩
theorem grownDrew {r : Option Nat} (h : w.grownBy w' r) : w.grownBy w'.drew r := ⟨h.os, h.tape, h.output, h.size, h.block⟩
theorem grownDrewN {r : Option Nat} (h : w.grownBy w' r) (q : Nat) : w.grownBy (w'.drewN q) r := ⟨h.os, h.tape, h.output, h.size, h.block⟩
theorem grownAny {r r' : Option Nat} (h : w.grownBy w' r) (hr : ∀ k, r = some k → r' = some k) : w.grownBy w' r' :=
  ⟨h.os, h.tape, h.output, h.size, fun i hi hn => h.block i hi (fun e => hn (hr i e.symm).symm)⟩
theorem grownNone {r : Option Nat} (h : w.grownBy w' none) : w.grownBy w' r := grownAny h (fun k e => by cases e)
theorem grownBelow (h : Below w.heap.size w w') (r : Option Nat) : w.grownBy w' r := ⟨h.os, h.tape, h.output, h.size, fun k hk _ => h.block k hk⟩
theorem belowGrown (h : w.grownBy w' none) : Below w.heap.size w w' := ⟨h.os, h.tape, h.output, h.size, fun k hk => h.block k hk (by simp)⟩
theorem grownSet (w : World) (g : Nat) (cs : Array Value) : w.grownBy (w.setRow g cs) (some g) :=
  ⟨rfl, rfl, rfl, by simp [World.setRow], fun k _ hr => setRow_other w g k cs (fun e => hr (by rw [e]))⟩
end
theorem CellsAt.grownBy {w w' : World} {A : Option Addr} {l : List Value} {r : Option Nat} (h : CellsAt w A l) (hg : w.grownBy w' r) (hr : ∀ ad, A = some ad → some ad.block ≠ r) : CellsAt w' A l := h.grown hg hr

/-- A row of the call's own is a block known whole. -/
theorem own_whole {w : World} {base : Nat} {e : TypeId} {s g n c : Nat} {xs : List Value} (h : w.ownsRow base e s (.slice (some ⟨g, 0, none⟩) n c) n xs) :
    ∃ L : List Value, Rw w g e L ∧ base ≤ g ∧ n ≤ c ∧ c ≤ maxLen ∧ L.length = c * s ∧ xs = L.take (n * s) := by
  rcases h.2 with ⟨h1, _⟩ | ⟨g', cap, cur, h1, h2, h3, h4, h5, h6, h7⟩
  · cases h1
  · injection h1 with e1 e2 e3
    injection e1 with e1
    injection e1 with e1
    subst e1
    subst e3
    exact ⟨cur.toList, by unfold Rw; simpa using h3, h2, h4, h5, by simpa using h6, h7.symm⟩
theorem own_of_whole {w : World} {base : Nat} {e : TypeId} {s g n c : Nat} {L : List Value} (h : Rw w g e L) (h1 : base ≤ g) (h2 : n ≤ c) (h3 : c ≤ maxLen) (h4 : L.length = c * s) :
    w.ownsRow base e s (.slice (some ⟨g, 0, none⟩) n c) n (L.take (n * s)) := by
  refine ⟨?_, .inr ⟨g, c, L.toArray, rfl, h1, h, h2, h3, by simpa using h4, rfl⟩⟩
  rw [List.length_take, h4]
  exact Nat.min_eq_left (Nat.mul_le_mul_right s h2)

section
variable {P : Program}
theorem run_copy_rowK (w : World) (dT sT ty elem : TypeId) (k g o dLen dCap : Nat) (a : Addr) (sLen sCap : Nat) (cur : Array Value) (t : TypeId) (cs : List Value)
    (hu : P.underlying dT = some (.slice elem)) (hs : (P.info? elem).map (·.size) = some k)
    (hg : w.heap[g]? = some (.cells cur t (0, 0))) (hn : cs.length = Nat.min sLen dLen * k)
    (hsrc : ∀ j v, cs[j]? = some v → w.cell? (a.add j) = some v) (hfit : o + cs.length ≤ cur.size) (h1 : ∀ v ∈ cs, v.oneCell' = true) :
    (Builtin.copy_ #[dT, sT] ty #[.slice (some ⟨g, o, none⟩) dLen dCap, .slice (some a) sLen sCap]).run P w =
      .ok (goInt (Nat.min sLen dLen)) (w.setRow g (cur.toList.take o ++ cs ++ cur.toList.drop (o + cs.length)).toArray) := by
  have hl := run_loadCells_list (P := P) w a cs hsrc
  have hst := run_storeCells_at P g o t cs 0 cur w hg (by simpa using hfit) h1
  cases hq : P.info? elem with
  | none => simp [hq] at hs
  | some i =>
    have hi : i.size = k := by simpa [hq] using hs
    simp [Builtin.copy_, run_underlying hu, Builtin.lenOf, Builtin.firstCells, sizeOf, typeInfo, hq, hi, ← hn, hl, hst]
theorem run_copy_noneK (w : World) (dT sT ty elem : TypeId) (k : Nat) (d a : Option Addr) (dLen dCap sLen sCap : Nat) (hu : P.underlying dT = some (.slice elem)) (hs : (P.info? elem).map (·.size) = some k) (hn : Nat.min sLen dLen = 0) :
    (Builtin.copy_ #[dT, sT] ty #[.slice d dLen dCap, .slice a sLen sCap]).run P w = .ok (goInt 0) w := by
  cases hq : P.info? elem with
  | none => simp [hq] at hs
  | some i =>
    cases a with
    | none => cases d <;> simp [Builtin.copy_, run_underlying hu, Builtin.lenOf, Builtin.firstCells, sizeOf, typeInfo, hq, hn, storeCells]
    | some a => cases d <;> simp [Builtin.copy_, run_underlying hu, Builtin.lenOf, Builtin.firstCells, sizeOf, typeInfo, hq, hn, loadCells, loadCellsFrom, storeCells]
theorem run_copy_any (w : World) (dT sT ty elem : TypeId) (k : Nat) (hk : 0 < k) (hu : P.underlying dT = some (.slice elem)) (hsz : (P.info? elem).map (·.size) = some k)
    (dp sp : Option Addr) (dLen dCap sLen sCap : Nat) (g off : Nat) (cur : List Value) (t : TypeId) (hg : Rw w g t cur) (cs : List Value) (hn : cs.length = Nat.min sLen dLen * k)
    (hpos : 0 < Nat.min sLen dLen → dp = some ⟨g, off, none⟩ ∧ ∃ ad, sp = some ad ∧ CellsAt w (some ad) cs) (hfit : off + cs.length ≤ cur.length) (h1 : ∀ v ∈ cs, v.oneCell' = true) :
    ∃ w', (Builtin.copy_ #[dT, sT] ty #[.slice dp dLen dCap, .slice sp sLen sCap]).run P w = .ok (goInt (Nat.min sLen dLen)) w' ∧ Rw w' g t (splice cur off cs) ∧ w.grownBy w' (some g) := by
  by_cases h0 : Nat.min sLen dLen = 0
  · obtain rfl : cs = [] := List.eq_nil_of_length_eq_zero (by rw [hn, h0, Nat.zero_mul])
    refine ⟨w, ?_, ?_, grownSelf _ _⟩
    · rw [h0]; exact run_copy_noneK w dT sT ty elem k dp sp dLen dCap sLen sCap hu hsz h0
    · simpa [splice] using hg
  · obtain ⟨rfl, ad, rfl, hsrc⟩ := hpos (by omega)
    refine ⟨_, run_copy_rowK w dT sT ty elem k g off dLen dCap ad sLen sCap cur.toArray t cs hu hsz hg hn (hsrc ad rfl) (by simpa using hfit) h1, ?_, grownSet _ _ _⟩
    have := hg.set (splice cur off cs)
    simpa [splice] using this
theorem wpList_copyK {w : World} {ops : Array Oper} {rest : List Oper} {o : Oper} {a : Act} {Q : Exit → Act → World → Prop} (hgd : o.guard = none) (d s : Operand) (dT sT : TypeId)
    (ho : o.op = .call { callee := .builtin .copy, args := #[d, s], argTypes := #[dT, sT] }) (elem : TypeId) (k : Nat) (hk : 0 < k) (hu : P.underlying dT = some (.slice elem)) (hsz : (P.info? elem).map (·.size) = some k)
    (dp sp : Option Addr) (dLen dCap sLen sCap : Nat) (hd : a.eval d = .slice dp dLen dCap) (hs : a.eval s = .slice sp sLen sCap)
    (g off : Nat) (cur : List Value) (t : TypeId) (hg : Rw w g t cur) (cs : List Value) (hn : cs.length = Nat.min sLen dLen * k)
    (hpos : 0 < Nat.min sLen dLen → dp = some ⟨g, off, none⟩ ∧ ∃ ad, sp = some ad ∧ CellsAt w (some ad) cs) (hfit : off + cs.length ≤ cur.length) (h1 : ∀ v ∈ cs, v.oneCell' = true)
    (h : ∀ w', Hid (Rw w' g t (splice cur off cs)) → Hid (w.grownBy w' (some g)) → wpList P ops Q rest (a.put o.dst (goInt (Nat.min sLen dLen))) w') : wpList P ops Q (o :: rest) a w := by
  refine wpList_plain hgd fun K hK => ?_
  obtain ⟨w', hrun, r1, r2⟩ := run_copy_any (P := P) w dT sT o.type elem k hk hu hsz dp sp dLen dCap sLen sCap g off cur t hg cs hn hpos hfit h1
  unfold Oper.wp
  simp [execOp, ho, resolve, invoke, builtin, hd, hs, hrun, Result.andThen]
  exact hK _ _ (h w' r1 r2)
theorem step_copyK {w : World} {ops : Array Oper} {o : Oper} {a : Act} {K : Act → World → Prop} {Q : Exit → Act → World → Prop} {E : Prop} (hgd : o.guard = none) (d s : Operand) (dT sT : TypeId)
    (ho : o.op = .call { callee := .builtin .copy, args := #[d, s], argTypes := #[dT, sT] }) (elem : TypeId) (k : Nat) (hk : 0 < k) (hu : P.underlying dT = some (.slice elem)) (hsz : (P.info? elem).map (·.size) = some k)
    (dp sp : Option Addr) (dLen dCap sLen sCap : Nat) (hd : a.eval d = .slice dp dLen dCap) (hs : a.eval s = .slice sp sLen sCap)
    (g off : Nat) (cur : List Value) (t : TypeId) (hg : Rw w g t cur) (cs : List Value) (hn : cs.length = Nat.min sLen dLen * k)
    (hpos : 0 < Nat.min sLen dLen → dp = some ⟨g, off, none⟩ ∧ ∃ ad, sp = some ad ∧ CellsAt w (some ad) cs) (hfit : off + cs.length ≤ cur.length) (h1 : ∀ v ∈ cs, v.oneCell' = true)
    (h : ∀ w', Hid (Rw w' g t (splice cur off cs)) → Hid (w.grownBy w' (some g)) → K (a.put o.dst (goInt (Nat.min sLen dLen))) w') : if Region.wanted o (yielded ops a.tmps) = true then Oper.wp P o a w K Q else E := by
  have hw : Region.wanted o (yielded ops a.tmps) = true := by simp [Region.wanted, hgd]
  rw [if_pos hw]
  obtain ⟨w', hrun, r1, r2⟩ := run_copy_any (P := P) w dT sT o.type elem k hk hu hsz dp sp dLen dCap sLen sCap g off cur t hg cs hn hpos hfit h1
  unfold Oper.wp
  simp [execOp, ho, resolve, invoke, builtin, hd, hs, hrun, Result.andThen]
  exact h w' r1 r2

/-- clear. -/
theorem run_clear_any (w : World) (t e ty : TypeId) (z : Value) (ht : P.underlying t = some (.slice e)) (hv : ∀ w, (zeroValue e).run P w = .ok z w) (dp : Option Addr) (g o n c : Nat) (cur : List Value) (u : TypeId) (hg : Rw w g u cur)
    (h1 : ∀ v ∈ (Builtin.zeroCells z.cells n).toList, v.oneCell' = true) (hpos : 0 < n → dp = some ⟨g, o, none⟩ ∧ o + (Builtin.zeroCells z.cells n).size ≤ cur.length) :
    ∃ w' L, (Builtin.clear_ #[t] ty #[.slice dp n c]).run P w = .ok (.tuple #[]) w' ∧ Rw w' g u L ∧ L.length = cur.length ∧ L.take o = cur.take o ∧ (n = 0 → w' = w) ∧ w.grownBy w' (some g) := by
  by_cases h0 : n = 0
  · subst h0
    refine ⟨w, cur, ?_, hg, rfl, rfl, fun _ => rfl, grownSelf _ _⟩
    cases dp <;> simp [Builtin.clear_, run_underlying ht]
  · obtain ⟨rfl, hfit⟩ := hpos (by omega)
    obtain ⟨m, rfl⟩ : ∃ m, n = m + 1 := ⟨n - 1, by omega⟩
    generalize hz : (Builtin.zeroCells z.cells (m + 1)) = Z at h1 hfit
    have hst := run_storeCells_at P g o u Z.toList 0 cur.toArray w hg (by simpa using hfit) h1
    simp only [Nat.add_zero] at hst
    refine ⟨w.setRow g (cur.take o ++ Z.toList ++ cur.drop (o + Z.toList.length)).toArray, cur.take o ++ Z.toList ++ cur.drop (o + Z.toList.length), ?_, ?_, ?_, ?_, fun h => absurd h h0, grownSet _ _ _⟩
    · simp only [Builtin.clear_]
      simp [run_underlying ht, hv, hz]
      rw [hst]
      simp [Result.andThen]
    · exact hg.set _
    · simp; omega
    · have : o ≤ cur.length := by omega
      rw [List.append_assoc, List.take_append_of_le_length (by simp; omega), List.take_take, Nat.min_self]
theorem wpList_clearK {w : World} {ops : Array Oper} {rest : List Oper} {o : Oper} {a : Act} {Q : Exit → Act → World → Prop} (hgd : o.guard = none) (d : Operand) (t : TypeId)
    (ho : o.op = .call { callee := .builtin .clear, args := #[d], argTypes := #[t] }) (e : TypeId) (z : Value) (ht : P.underlying t = some (.slice e)) (hv : ∀ w, (zeroValue e).run P w = .ok z w)
    (dp : Option Addr) (g off n c : Nat) (hd : a.eval d = .slice dp n c) (cur : List Value) (u : TypeId) (hg : Rw w g u cur)
    (h1 : ∀ v ∈ (Builtin.zeroCells z.cells n).toList, v.oneCell' = true) (hpos : 0 < n → dp = some ⟨g, off, none⟩ ∧ off + (Builtin.zeroCells z.cells n).size ≤ cur.length)
    (h : ∀ w' L, Hid (Rw w' g u L ∧ L.length = cur.length ∧ L.take off = cur.take off) → Hid (w.grownBy w' (some g)) → wpList P ops Q rest (a.put o.dst (.tuple #[])) w') : wpList P ops Q (o :: rest) a w := by
  refine wpList_plain hgd fun K hK => ?_
  obtain ⟨w', L, hrun, r1, r2, r3, _, r4⟩ := run_clear_any (P := P) w t e o.type z ht hv dp g off n c cur u hg h1 hpos
  unfold Oper.wp
  simp [execOp, ho, resolve, invoke, builtin, hd, hrun, Result.andThen]
  exact hK _ _ (h w' L ⟨r1, r2, r3⟩ r4)

/-- append of nothing. -/
theorem run_append_nothing (w : World) (t ty e : TypeId) (i : TypeInfo) (ht : P.underlying t = some (.slice e)) (hi : P.info? e = some i) (g off n c : Nat) (hnc : n ≤ c) (A : Option Addr) (d : Nat) :
    (Builtin.append_ #[t, t] ty #[.slice (some ⟨g, off, none⟩) n c, .slice A 0 d]).run P w = .ok (.slice (some ⟨g, off, none⟩) n c) w := by
  cases A <;> simp [Builtin.append_, run_underlying ht, sizeOf, typeInfo, hi, Builtin.lenOf, hnc, Builtin.firstCells, loadCells, loadCellsFrom, storeCells]
theorem wpList_append_nothing {w : World} {ops : Array Oper} {rest : List Oper} {o : Oper} {a : Act} {Q : Exit → Act → World → Prop} (hgd : o.guard = none) (s x : Operand) (t : TypeId)
    (ho : o.op = .call { callee := .builtin .append, args := #[s, x], argTypes := #[t, t] }) (e : TypeId) (i : TypeInfo) (ht : P.underlying t = some (.slice e)) (hi : P.info? e = some i)
    (g off n c : Nat) (hs : a.eval s = .slice (some ⟨g, off, none⟩) n c) (hnc : n ≤ c) (A : Option Addr) (d : Nat) (hx : a.eval x = .slice A 0 d)
    (h : wpList P ops Q rest (a.put o.dst (.slice (some ⟨g, off, none⟩) n c)) w) : wpList P ops Q (o :: rest) a w := by
  refine wpList_plain hgd fun K hK => ?_
  have hrun := run_append_nothing (P := P) w t o.type e i ht hi g off n c hnc A d
  unfold Oper.wp
  simp [execOp, ho, resolve, invoke, builtin, hs, hx, hrun, Result.andThen]
  exact hK _ _ h
/-- append onto a part of a row that is known whole: in place, where there is room; else a new row. -/
theorem run_append_whole (w : World) (base : Nat) (t ty e : TypeId) (i : TypeInfo) (z : Value) (size bytes : Nat) (ht : P.underlying t = some (.slice e)) (hi : P.info? e = some i) (hz : i.zero = some z)
    (hsize : i.size = size) (hby : i.bytes = bytes) (hzs : z.cells.size = size) (hsz : 0 < size) (g n c : Nat) (L : List Value) (hg : Rw w g e L) (hbg : base ≤ g) (hnc : n ≤ c) (hcm : c ≤ maxLen) (hLl : L.length = c * size)
    (ad : Addr) (m d : Nat) (news : List Value) (hl : news.length = m * size) (hnews : CellsAt w (some ad) news) (h1 : ∀ u ∈ news, u.oneCell' = true) (h63 : n + m ≤ maxLen) (hbytes : (n + m) * bytes ≤ 140737488355328) :
    ∃ A' c' w', (Builtin.append_ #[t, t] ty #[.slice (some ⟨g, 0, none⟩) n c, .slice (some ad) m d]).run P w = .ok (.slice A' (n + m) c') w' ∧ w'.ownsRow base e size (.slice A' (n + m) c') (n + m) (L.take (n * size) ++ news) ∧
      (∀ b, A' = some b → b.block = g ∨ w.heap.size ≤ b.block) ∧ w.grownBy w' (some g) := by
  subst hsize
  subst hby
  have hlt := hg.lt
  have hnl : n * i.size ≤ L.length := by rw [hLl]; exact Nat.mul_le_mul_right _ hnc
  by_cases hr : n + m ≤ c
  · have hfit : n * i.size + news.length ≤ L.length := by rw [hl, hLl, ← Nat.add_mul]; exact Nat.mul_le_mul_right _ hr
    have hfc := run_firstCells_some (P := P) w i.size m ad m d news hl (hnews ad rfl)
    have hst := run_storeCells_at P g (n * i.size) e news 0 L.toArray w hg (by simpa using hfit) h1
    simp only [Nat.add_zero] at hst
    refine ⟨some ⟨g, 0, none⟩, c, w.setRow g (splice L (n * i.size) news).toArray, ?_, ?_, fun b e => Or.inl (by injection e with e; rw [← e]), grownSet _ _ _⟩
    · simp [Builtin.append_, run_underlying ht, sizeOf, typeInfo, hi, Builtin.lenOf, hr, hfc, Addr.add_lit, hst, splice]
    · have := own_of_whole (base := base) (s := i.size) (n := n + m) (c := c) (hg.set (splice L (n * i.size) news)) hbg hr hcm (by rw [length_splice _ _ _ hfit]; exact hLl)
      have e1 : (splice L (n * i.size) news).take ((n + m) * i.size) = L.take (n * i.size) ++ news := by
        unfold splice
        rw [← List.append_assoc]
        refine List.take_left' ?_
        rw [List.length_append, List.length_take, hl, Nat.min_eq_left hnl, Nat.add_mul]
      rwa [e1] at this
  · obtain ⟨v', w', hrun, r1, r2⟩ := run_append_arg_grows (P := P) w t ty e i z i.size i.bytes ht hi hz rfl rfl hzs hsz ⟨g, 0, none⟩ n c (L.take (n * i.size)) (by rw [List.length_take]; exact Nat.min_eq_left hnl)
      (fun j u hj => by
        rw [Go.WideShapes.add_plain, Nat.zero_add, hg.cell]
        rw [List.getElem?_take] at hj
        split at hj
        · exact hj
        · cases hj) ad m d news hl (hnews ad rfl) (by omega) h63 hbytes
    obtain ⟨A', c', rfl⟩ : ∃ A c, v' = .slice A (n + m) c := by
      rcases r1.2 with ⟨rfl, h0⟩ | ⟨g', cap, cur, rfl, _⟩
      · exact ⟨none, 0, by rw [h0]⟩
      · exact ⟨_, _, rfl⟩
    refine ⟨A', c', w', hrun, ⟨r1.1, ?_⟩, fun b eb => Or.inr ?_, grownNone r2⟩
    · rcases r1.2 with h | ⟨g', cap, cur, h, hb, r⟩
      · exact Or.inl h
      · exact Or.inr ⟨g', cap, cur, h, by omega, r⟩
    · subst eb
      exact (r1.lt b.block rfl).1
theorem wpList_append_whole {w : World} {ops : Array Oper} {rest : List Oper} {o : Oper} {a : Act} {Q : Exit → Act → World → Prop} (hgd : o.guard = none) (s x : Operand) (t : TypeId)
    (ho : o.op = .call { callee := .builtin .append, args := #[s, x], argTypes := #[t, t] })
    (base : Nat) (e : TypeId) (i : TypeInfo) (z : Value) (size bytes : Nat) (ht : P.underlying t = some (.slice e)) (hi : P.info? e = some i) (hz : i.zero = some z)
    (hsize : i.size = size) (hby : i.bytes = bytes) (hzs : z.cells.size = size) (hsz : 0 < size) (g n c : Nat) (hs : a.eval s = .slice (some ⟨g, 0, none⟩) n c) (L : List Value) (hg : Rw w g e L) (hbg : base ≤ g) (hnc : n ≤ c) (hcm : c ≤ maxLen) (hLl : L.length = c * size)
    (ad : Addr) (m d : Nat) (hx : a.eval x = .slice (some ad) m d) (news : List Value) (hl : news.length = m * size) (hnews : CellsAt w (some ad) news) (h1 : ∀ u ∈ news, u.oneCell' = true) (h63 : n + m ≤ maxLen) (hbytes : (n + m) * bytes ≤ 140737488355328)
    (h : ∀ A' c' w', Hid (w'.ownsRow base e size (.slice A' (n + m) c') (n + m) (L.take (n * size) ++ news)) → Hid (∀ b, A' = some b → b.block = g ∨ w.heap.size ≤ b.block) → Hid (w.grownBy w' (some g)) → wpList P ops Q rest (a.put o.dst (.slice A' (n + m) c')) w') :
    wpList P ops Q (o :: rest) a w := by
  refine wpList_plain hgd fun K hK => ?_
  obtain ⟨A', c', w', hrun, r1, r2, r3⟩ := run_append_whole (P := P) w base t o.type e i z size bytes ht hi hz hsize hby hzs hsz g n c L hg hbg hnc hcm hLl ad m d news hl hnews h1 h63 hbytes
  unfold Oper.wp
  simp [execOp, ho, resolve, invoke, builtin, hs, hx, hrun, Result.andThen]
  exact hK _ _ (h A' c' w' r1 r2 r3)
/-- append of noughts, as many as there is no room for: a new row. -/
theorem wpList_append_zeros {w : World} {ops : Array Oper} {rest : List Oper} {o : Oper} {a : Act} {Q : Exit → Act → World → Prop} (hgd : o.guard = none) (s x : Operand) (t tn : TypeId)
    (ho : o.op = .call { callee := .builtin .append, args := #[s, x], argTypes := #[t, tn] }) (e : TypeId) (i : TypeInfo) (z : Value) (size bytes : Nat) (ht : P.underlying t = some (.slice e)) (htn : P.underlying tn = some (.int .i64)) (hi : P.info? e = some i) (hz : i.zero = some z)
    (hsize : i.size = size) (hby : i.bytes = bytes) (hzs : z.cells.size = size) (hsz : 0 < size)
    (g n c : Nat) (hs : a.eval s = .slice (some ⟨g, 0, none⟩) n c) (olds : List Value) (hl : olds.length = n * size) (hold : CellsAt w (some ⟨g, 0, none⟩) olds) (m : Nat) (kn : Int) (hkn : kn = (m : Int)) (hx : a.eval x = .int .i64 kn) (h0 : 0 < m) (hroom : c < n + m) (h63 : n + m ≤ 4611686018427387904) (hbytes : (n + m) * bytes ≤ 140737488355328)
    (h : ∀ w' G L, Hid (Rw w' w.heap.size e L ∧ n + m ≤ G ∧ G ≤ maxLen ∧ L.length = G * size ∧ L.take (n * size) = olds) → Hid (w.grownBy w' none) → wpList P ops Q rest (a.put o.dst (.slice (some ⟨w.heap.size, 0, none⟩) (n + m) G)) w') : wpList P ops Q (o :: rest) a w := by
  refine wpList_plain hgd fun K hK => ?_
  subst hsize
  subst hby
  subst hkn
  have hf : (Builtin.firstCells i.size n (.slice (some ⟨g, 0, none⟩) n c)).run P w.drew = .ok olds.toArray w.drew := run_firstCells_some w.drew i.size n ⟨g, 0, none⟩ n c olds hl (fun j v hj => hold _ rfl j v hj)
  have hrun := Lib.run_append_grow_zeros (P := P) w t tn o.type e i z .i64 .i64 ht htn hi hz (some ⟨g, 0, none⟩) n c olds hf m h0 hsz hroom (by omega) (by
      have := Nat.mul_le_mul_right i.bytes (show m ≤ n + m by omega)
      omega) (growslice_fits hroom hbytes)
  have hge := grownCap_ge w (n + m) c e
  have hcm := grownCap_le_maxLen w (n + m) c e (by unfold maxLen; omega)
  obtain ⟨G, hG⟩ : ∃ G, grownCap w (n + m) c e = G := ⟨_, rfl⟩
  rw [hG] at hrun hge hcm
  unfold Oper.wp
  simp [execOp, ho, resolve, invoke, builtin, hs, hx, hrun, Result.andThen]
  refine hK _ _ (h _ G (olds ++ (Builtin.zeroCells z.cells m).toList ++ (Builtin.zeroCells z.cells (G - (n + m))).toList) ⟨?_, hge, hcm, ?_, ?_⟩ ?_)
  · unfold Rw
    show (w.heap.push _)[w.heap.size]? = _
    simp
  · simp only [List.length_append, Array.length_toList, size_zeroCells, hzs, hl]
    rw [← Nat.add_mul, ← Nat.add_mul]
    congr 1
    omega
  · rw [List.append_assoc, List.take_append_of_le_length (by omega), List.take_of_length_le (by omega)]
  · exact ⟨rfl, rfl, rfl, by simp, fun k hk _ => Below.heap_alloc w.drew _ k hk⟩
/-- Do two rows of the call's own share memory? No, where they are two blocks. -/
theorem run_overlaps_own (w : World) (tS tR e : TypeId) (ht : P.underlying tS = some (.slice e)) (size : Nat) (hz : ∀ w, (Go.sizeOf e).run P w = .ok size w)
    (g off g2 off2 la ca lb cb : Nat) (hne : g ≠ g2) (L L2 : List Value) (e1 e2 : TypeId) (h : Rw w g e1 L) (h2 : Rw w g2 e2 L2) (hpos : L2.length ≠ 0) :
    (Extern.SlicesOverlaps.overlaps #[tS, tS] #[tR] #[.slice (some ⟨g, off, none⟩) la ca, .slice (some ⟨g2, off2, none⟩) lb cb]).run P w = .ok (.bool false) w :=
  Lib.run_overlaps_apart w tS tR e ht size hz ⟨g, off, none⟩ ⟨g2, off2, none⟩ la ca lb cb hne e1 e2 L.length L2.length h.shape h2.shape hpos (h.free off) (h.free _)
end

theorem splice_at {α : Type} (A B V : List α) (h : V.length ≤ B.length) : splice (A ++ B) A.length V = A ++ (V ++ B.drop V.length) := by
  unfold splice
  rw [List.take_left, List.drop_append]
  congr 2
  rw [List.drop_of_length_le (by omega), List.nil_append]
  congr 1; omega

end Go.Proofs.YtdcnpaodcjfdbaaGreatDoor

/- Objects that own blocks: which ones (a set of numbers), and worlds in which all others are as they were. No program is named here. -/
namespace Go.Proofs.YtdcnpaodcjfdbaaGreatDoor
open Go.RowKit
set_option linter.unusedVariables false

/-- All blocks are as they were, but those of S, and new ones. -/
structure Kept (S : Nat → Prop) (w w' : World) : Prop where
  os : w'.os = w.os
  tape : w'.tape = w.tape
  output : w'.output = w.output
  size : w.heap.size ≤ w'.heap.size
  block : ∀ b, b < w.heap.size → ¬ S b → w'.heap[b]? = w.heap[b]?
/-- S, and all that has come since. -/
def more (S : Nat → Prop) (w w' : World) (b : Nat) : Prop := (S b ∨ w.heap.size ≤ b) ∧ b < w'.heap.size
section
variable {S S' : Nat → Prop} {w w' w'' : World}
theorem Kept.refl (S : Nat → Prop) (w : World) : Kept S w w := ⟨rfl, rfl, rfl, Nat.le_refl _, fun _ _ _ => rfl⟩
theorem Kept.of_below (h : Below w.heap.size w w') (S : Nat → Prop) : Kept S w w' := ⟨h.os, h.tape, h.output, h.size, fun b hb _ => h.block b hb⟩
theorem Kept.trans (h : Kept S w w') (k : Kept S' w' w'') (hs : ∀ b, b < w.heap.size → S' b → S b) : Kept S w w'' :=
  ⟨k.os.trans h.os, k.tape.trans h.tape, k.output.trans h.output, Nat.le_trans h.size k.size, fun b hb hn => (k.block b (Nat.lt_of_lt_of_le hb h.size) (fun c => hn (hs b hb c))).trans (h.block b hb hn)⟩
theorem Kept.set (h : Kept S w w') {a : Addr} (ha : S a.block ∨ w.heap.size ≤ a.block) (u : Value) : Kept S w (w'.setCell a u) :=
  ⟨h.os, h.tape, h.output, by simpa using h.size, fun b hb hn => (heap_setCell_other w' a b u (fun e => by
    subst e
    rcases ha with ha | ha
    · exact hn ha
    · omega)).trans (h.block b hb hn)⟩
theorem Kept.grown {r : Option Nat} (h : Kept S w w') (hg : w'.grownBy w'' r) (hr : ∀ k, r = some k → S k ∨ w.heap.size ≤ k) : Kept S w w'' :=
  ⟨hg.os.trans h.os, hg.tape.trans h.tape, hg.output.trans h.output, Nat.le_trans h.size hg.size, fun b hb hn => (hg.block b (Nat.lt_of_lt_of_le hb h.size) (fun e => by
    rcases hr b e.symm with c | c
    · exact hn c
    · omega)).trans (h.block b hb hn)⟩
theorem Kept.drew (h : Kept S w w') : Kept S w w'.drew := ⟨h.os, h.tape, h.output, h.size, h.block⟩
theorem Kept.drewN (h : Kept S w w') (q : Nat) : Kept S w (w'.drewN q) := ⟨h.os, h.tape, h.output, h.size, h.block⟩
/-- What is below all of S is as it was. -/
theorem Kept.below {B : Nat} (h : Kept S w w') (hB : B ≤ w.heap.size) (hs : ∀ b, S b → B ≤ b) : Below B w w' :=
  ⟨h.os, h.tape, h.output, h.size, fun b hb => h.block b (by omega) (fun c => by have := hs b c; omega)⟩
theorem Kept.cell (h : Kept S w w') {a : Addr} (ha : a.block < w.heap.size) (hn : ¬ S a.block) : w'.cell? a = w.cell? a := World.cell?_of_block (w := w) (h.block _ ha hn)
theorem more_old {b : Nat} (hb : b < w.heap.size) (h : more S w w' b) : S b := by
  rcases h.1 with h | h
  · exact h
  · omega
theorem more_lt {b : Nat} (h : more S w w' b) : b < w'.heap.size := h.2
theorem more_low {B : Nat} (hB : B ≤ w.heap.size) (hs : ∀ b, S b → B ≤ b) : ∀ b, more S w w' b → B ≤ b := fun b h => by
  rcases h.1 with h | h
  · exact hs b h
  · omega
/-- A row of which no block is of S. -/
theorem Sl.kept {B n : Nat} {A : Option Addr} {xs : List Value} (h : Sl w w.heap.size A n xs) (hk : Kept S w w') (ha : ∀ a, A = some a → ¬ S a.block) : Sl w' w'.heap.size A n xs :=
  ⟨h.1, fun hn => by
    obtain ⟨b, off, e, hb, hc⟩ := h.2 hn
    exact ⟨b, off, e, Nat.lt_of_lt_of_le hb hk.size, fun j hj => (hk.cell (a := ⟨b, off + j, none⟩) hb (show ¬ S b from ha ⟨b, off, none⟩ e)).trans (hc j hj)⟩⟩
end
theorem own_kept {S : Nat → Prop} {w w' : World} {base size n : Nat} {e : TypeId} {v : Value} {xs : List Value} (h : w.ownsRow base e size v n xs) (hk : Kept S w w') (ha : ∀ k, v.ownBlock = some k → ¬ S k) : w'.ownsRow base e size v n xs := by
  refine ⟨h.1, ?_⟩
  rcases h.2 with h2 | ⟨g, cap, cur, hv, hb, hg, r⟩
  · exact Or.inl h2
  · have hlt : g < w.heap.size := (Array.getElem?_eq_some_iff.1 hg).1
    exact Or.inr ⟨g, cap, cur, hv, hb, (hk.block g hlt (ha g (by rw [hv]; rfl))).trans hg, r⟩
theorem own_capsK {w : World} {base size n c : Nat} {A : Option Addr} {e : TypeId} {xs : List Value} (h : w.ownsRow base e size (.slice A n c) n xs) : n ≤ c ∧ c ≤ 9223372036854775807 ∧ (A = none → c = 0) := by
  rcases h.2 with ⟨h1, h2⟩ | ⟨g, cap, cur, h1, _, _, h4, h5, _⟩
  · injection h1 with e1 e2 e3
    subst e3
    exact ⟨by omega, by omega, fun _ => rfl⟩
  · injection h1 with e1 e2 e3
    subst e3
    unfold maxLen at h5
    exact ⟨h4, by omega, fun e => by rw [e] at e1; cases e1⟩
theorem own_lower {w : World} {base base' size n : Nat} {e : TypeId} {v : Value} {xs : List Value} (h : w.ownsRow base e size v n xs) (hb : base' ≤ base) : w.ownsRow base' e size v n xs := by
  refine ⟨h.1, ?_⟩
  rcases h.2 with h2 | ⟨g, cap, cur, hv, hg, r⟩
  · exact Or.inl h2
  · exact Or.inr ⟨g, cap, cur, hv, by omega, r⟩

end Go.Proofs.YtdcnpaodcjfdbaaGreatDoor
