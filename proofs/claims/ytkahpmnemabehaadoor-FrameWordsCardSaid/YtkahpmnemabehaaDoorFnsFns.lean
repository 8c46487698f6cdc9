/- What Fns of layer 13 (fns) returns: the functions, in rows of their own. -/
import Derived.Test.YtkahpmnemabehaaDoorFnsTab
namespace Go.Proofs.YtkahpmnemabehaaDoor
open Go.RowKit
set_option linter.unusedVariables false

theorem info_fn : (Tryd.prog.info? 47).map (fun i => (i.zero, i.size, i.bytes)) = some (some (.agg #[.int .i64 0, .slice none 0 0]), 2, 32) := by kernel_rfl
/-- A row of functions that a call makes. -/
structure RowF (w wr : World) (v : Value) (ys : List FnV) : Prop where
  bel : Below w.heap.size w wr
  own : wr.ownsRow w.heap.size 47 2 v ys.length (cellsAll fcells ys)
  fns : ∀ y ∈ ys, wr.ownsRow w.heap.size 49 1 (.slice y.A y.n y.c) y.n (y.ws.map wv) ∧ Wd y.ws ∧ in64 y.sz
section
variable {w wr X w6 : World} {v : Value} {ys : List FnV} {y : FnV}
theorem RowF.below (h : RowF w wr v ys) (hb : Below wr.heap.size wr X) : RowF w X v ys :=
  ⟨h.bel.trans (hb.mono h.bel.size), own_same h.own fun k hk => hb.block k (h.own.lt k hk).2, fun y hy => ⟨own_same (h.fns y hy).1 fun k hk => hb.block k ((h.fns y hy).1.lt k hk).2, (h.fns y hy).2⟩⟩
theorem RowF.aside (h : RowF w X v ys) {base n s : Nat} {u : Value} {xs : List Value} (hu : X.ownsRow base 49 s u n xs) : ∀ k, v.ownBlock = some k → u.ownBlock ≠ some k := fun k hk e => by
  obtain ⟨c1, h1⟩ := own_type h.own k hk
  obtain ⟨c2, h2⟩ := own_type hu k e
  rw [h1] at h2
  injection h2 with h2
  injection h2 with _ h2 _
  revert h2; decide
theorem RowF.push (h : RowF w X v ys) {A6 : Option Addr} {c6 : Nat} (hy : X.ownsRow w.heap.size 49 1 (.slice y.A y.n y.c) y.n (y.ws.map wv) ∧ Wd y.ws ∧ in64 y.sz)
    (ho : w6.ownsRow w.heap.size 47 2 (.slice A6 (ys.length + 1) c6) (ys.length + 1) (cellsAll fcells ys ++ fcells y)) (hg : X.grownBy w6 v.ownBlock) : RowF w w6 (.slice A6 (ys.length + 1) c6) (ys ++ [y]) := by
  refine ⟨h.bel.grown hg h.bel.size (fun k hk => (h.own.lt k hk).1), by rw [List.length_append, cellsAll_append, cellsAll_one]; exact ho, fun z hz => ?_⟩
  have hz' : X.ownsRow w.heap.size 49 1 (.slice z.A z.n z.c) z.n (z.ws.map wv) ∧ Wd z.ws ∧ in64 z.sz := by
    rcases List.mem_append.1 hz with hz | hz
    · exact h.fns z hz
    · rw [List.mem_singleton.1 hz]; exact hy
  exact ⟨own_grown hz'.1 hg (h.aside hz'.1), hz'.2⟩
theorem RowF.row {A : Option Addr} {n c : Nat} (h : RowF w wr (.slice A n c) ys) (hn : ys.length = n) : FnRow wr w.heap.size wr.heap.size A n ys := by
  have ho := h.own
  rw [hn] at ho
  refine ⟨RowOf.of_own fcells_len ho hn, fun h0 a e => ?_, fun y hy => ?_⟩
  · subst e
    rcases ho.2 with ⟨_, h1⟩ | ⟨g, cap, cur, e1, e2, _⟩
    · omega
    · injection e1 with e1
      injection e1 with e1
      subst e1; exact e2
  · obtain ⟨h1, h2, h3⟩ := h.fns y hy
    obtain ⟨q1, q2, q3⟩ := own_caps h1
    refine ⟨Sl.of_own h1, fun h0 a e => ?_, q1, q2, q3, h2, h3⟩
    rw [e] at h1
    rcases h1.2 with ⟨_, h1⟩ | ⟨g, cap, cur, e1, e2, _⟩
    · omega
    · injection e1 with e1
      injection e1 with e1
      subst e1; exact e2
end
/-- The functions, in rows of the call's own. -/
def FnsRet (w : World) (l : Fns) (e : Ending) (w' : World) : Prop := ∃ A c ys, e = .returned (.slice A l.length c) ∧ RowF w w' (.slice A l.length c) ys ∧ vals ys = l

end Go.Proofs.YtkahpmnemabehaaDoor
