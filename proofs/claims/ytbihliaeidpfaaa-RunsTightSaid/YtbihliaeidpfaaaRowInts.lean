/- Words for rows of words and of numbers (no type of words is named), that came in or that a call made. -/
import Derived.Test.YtbihliaeidpfaaaWords
import Derived.Test.YtbihliaeidpfaaaProg
import Derived.WalkKit
import Derived.ProofKit
import Derived.WalkLawsBesides
import Derived.WalkSpells
import Derived.Deep.QuietTactic
import Derived.BigQuiet
import Derived.Laws.AppendOwnNone
namespace Go.Proofs.Ytbihliaeidpfaaa
open Go.RowKit
set_option linter.unusedVariables false

theorem hidb {p : Prop} (h : p) : Hid p := h
/-- A word of 64 bits. -/
def wv (x : Nat) : Value := .int .u64 (x : Int)
def iv (x : Int) : Value := .int .i64 x
/-- How many elements a slice has. -/
def lenOf : Value → Nat
  | .slice _ n _ => n
  | _ => 0

/-- An element of a row of words, and the cell that holds it. -/
theorem Sl.word {w : World} {B n : Nat} {A : Option Addr} {ws : List Nat} {j : Nat} (h : Sl w B A n (ws.map wv)) (hj : j < n) : ∃ b off x, A = some ⟨b, off, none⟩ ∧ ws[j]? = some x ∧ w.cell? ⟨b, off + j, none⟩ = some (.int .u64 (x : Int)) := by
  obtain ⟨b, off, u, e, _, hu, hcell⟩ := h.at_ hj
  rw [List.getElem?_map] at hu
  cases hx : ws[j]? with
  | none => rw [hx] at hu; cases hu
  | some x =>
    rw [hx] at hu
    obtain rfl : u = wv x := by simpa using hu.symm
    exact ⟨b, off, x, e, rfl, hcell⟩
theorem Sl.int_ {w : World} {B n : Nat} {A : Option Addr} {zs : List Int} {j : Nat} (h : Sl w B A n (zs.map iv)) (hj : j < n) : ∃ b off x, A = some ⟨b, off, none⟩ ∧ zs[j]? = some x ∧ w.cell? ⟨b, off + j, none⟩ = some (.int .i64 x) := by
  obtain ⟨b, off, u, e, _, hu, hcell⟩ := h.at_ hj
  rw [List.getElem?_map] at hu
  cases hx : zs[j]? with
  | none => rw [hx] at hu; cases hu
  | some x =>
    rw [hx] at hu
    obtain rfl : u = iv x := by simpa using hu.symm
    exact ⟨b, off, x, e, rfl, hcell⟩

theorem info_int : (Try.prog.info? 3).map (fun i => (i.zero, i.size, i.bytes)) = some (some (.int .i64 0), 1, 8) := by kernel_rfl

/-- A slice that a call made: its elements. -/
def OwnInts (w : World) (l : List Int) (e : Ending) (w' : World) : Prop := ∃ A c, e = .returned (.slice A l.length c) ∧ w'.ownsRow w.heap.size 3 1 (.slice A l.length c) l.length (l.map iv) ∧ Below w.heap.size w w'

/-- A slice of numbers that a call made, and an error's number. -/
def OwnRead (w : World) (l : List Int) (no : Int) (e : Ending) (w' : World) : Prop := ∃ A c, e = .returned (.tuple #[.slice A l.length c, .int .i64 no]) ∧ w'.ownsRow w.heap.size 3 1 (.slice A l.length c) l.length (l.map iv) ∧ Below w.heap.size w w'

theorem own_form {w : World} {base : Nat} {e : TypeId} {v : Value} {n : Nat} {xs : List Value} (h : w.ownsRow base e 1 v n xs) : ∃ A c, v = .slice A n c := by
  rcases h.2 with ⟨rfl, h0⟩ | ⟨g, cap, cur, rfl, _⟩
  · exact ⟨none, 0, by rw [h0]⟩
  · exact ⟨_, _, rfl⟩
theorem ownsRow_empty (w : World) (e : TypeId) : (w.alloc (.cells #[] e)).ownsRow w.heap.size e 1 (.slice (some ⟨w.heap.size, 0, none⟩) 0 0) 0 [] :=
  World.ownsRow_made w #[] 0 (Nat.le_refl _) (by unfold maxLen; omega) rfl

/-- A slice of words that a call answers: its elements. -/
def ResWords (w : World) (l : List Nat) (e : Ending) (w' : World) : Prop := ∃ A c, e = .returned (.slice A l.length c) ∧ l.length ≤ c ∧ c ≤ 9223372036854775807 ∧ (A = none → c = 0) ∧ Sl w' w'.heap.size A l.length (l.map wv) ∧ Below w.heap.size w w'
/-- How much a row of the call's own has room for. -/
theorem own_caps {w : World} {base : Nat} {e : TypeId} {A : Option Addr} {n c : Nat} {xs : List Value} (h : w.ownsRow base e 1 (.slice A n c) n xs) : n ≤ c ∧ c ≤ 9223372036854775807 ∧ (A = none → c = 0) := by
  rcases h.2 with ⟨h1, h0⟩ | ⟨g, cap, cur, h1, _, _, hnc, hcm, _⟩
  · injection h1 with h2 h3 h4
    exact ⟨by omega, by omega, fun _ => h4⟩
  · injection h1 with h2 h3 h4
    subst h4
    exact ⟨hnc, by unfold maxLen at hcm; omega, fun h => by rw [h] at h2; cases h2⟩

/-- append of a whole row onto an empty one that the call has just laid: a copy of its own. -/
theorem wpList_copy {P : Program} (w : World) {ops : Array Oper} {rest : List Oper} {o : Oper} {a : Act} {Q : Exit → Act → World → Prop} (hgd : o.guard = none) (s x : Operand) (t : TypeId)
    (ho : o.op = .call { callee := .builtin .append, args := #[s, x], argTypes := #[t, t] })
    (e : TypeId) (i : TypeInfo) (z : Value) (bytes : Nat) (ht : P.underlying t = some (.slice e)) (hi : P.info? e = some i) (hz : i.zero = some z)
    (hsize : i.size = 1) (hby : i.bytes = bytes) (hzs : z.cells.size = 1)
    (A : Option Addr) (n c : Nat) (xs : List Value) (hs : a.eval s = .slice (some ⟨w.heap.size, 0, none⟩) 0 0) (hx : a.eval x = .slice A n c) (hsl : Sl w w.heap.size A n xs) (hA : A = none → c = 0)
    (hone : ∀ u ∈ xs, u.oneCell' = true) (h63 : n ≤ maxLen) (hbytes : n * bytes ≤ 140737488355328)
    (h : ∀ A' c' w', w'.ownsRow w.heap.size e 1 (.slice A' n c') n xs → Below w.heap.size w w' → wpList P ops Q rest (a.put o.dst (.slice A' n c')) w') : wpList P ops Q (o :: rest) a (w.alloc (.cells #[] e)) := by
  have hl : xs.length = n := hsl.1
  have hem := ownsRow_empty w e
  have hgb : ∀ k, (Value.slice (some ⟨w.heap.size, 0, none⟩) 0 0).ownBlock = some k → w.heap.size ≤ k := fun k hk => (hem.lt k hk).1
  cases A with
  | none =>
    have hn : n = 0 := by
      refine Nat.eq_zero_of_not_pos fun c => ?_
      obtain ⟨b, off, e', _⟩ := hsl.2 c
      cases e'
    subst hn
    obtain rfl : c = 0 := hA rfl
    obtain rfl : xs = [] := List.eq_nil_of_length_eq_zero hl
    refine wpList_append_own_none hgd s x t ho w.heap.size e i 1 ht hi _ 0 [] hs hem hx ?_
    exact h _ _ _ hem ((Below.refl _ _).alloc (Nat.le_refl _) _)
  | some p =>
    refine wpList_append_own (w.alloc (.cells #[] e)) hgd s x t ho w.heap.size e i z 1 bytes ht hi hz hsize hby hzs (by decide) _ 0 [] hs hem p n c xs hx (by rw [hl, Nat.mul_one]) ?_ hone (by omega) (by rw [Nat.zero_add]; exact hbytes) (by simp) ?_
    · intro j u hu
      have hj : j < n := by have := (List.getElem?_eq_some_iff.1 hu).1; omega
      obtain ⟨b, off, e', hb, hcells⟩ := hsl.2 (by omega)
      obtain rfl : p = ⟨b, off, none⟩ := by injection e'
      rw [Go.WideShapes.add_plain, World.cell?_alloc_lt w _ _ hb, hcells j hj, hu]
    · intro v' w' h1 h2 _
      rw [Nat.zero_add, List.nil_append] at h1
      obtain ⟨A', c', rfl⟩ := own_form h1
      exact h A' c' w' h1 (((Below.refl _ _).alloc (Nat.le_refl _) _).grown h2 (by simp) (fun k hk => hgb k hk))

end Go.Proofs.Ytbihliaeidpfaaa
