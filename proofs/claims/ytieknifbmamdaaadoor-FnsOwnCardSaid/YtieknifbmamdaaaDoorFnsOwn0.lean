/- Layer 13's statement FnsOwn: rows that are written into, beside a table. -/
import Derived.Test.YtieknifbmamdaaaDoorFnsJoins
namespace Go.Proofs.YtieknifbmamdaaaDoor
open Go.RowKit
set_option linter.unusedVariables false

/-- A row of functions that may be written into: its blocks lie from lo on, below hi; what its bitmaps hold is not told. -/
structure WrF (W : World) (lo hi : Nat) (v : Value) (ys : List FnV) : Prop where
  own : W.ownsRow lo 28 2 v ys.length (cellsAll fcells ys)
  lt : ∀ k, v.ownBlock = some k → k < hi
  fns : ∀ y ∈ ys, (∃ xs, W.ownsRow lo 46 1 (.slice y.A y.n y.c) y.n xs) ∧ ∀ k, (Value.slice y.A y.n y.c).ownBlock = some k → k < hi
section
variable {W W' : World} {lo hi : Nat} {v : Value} {ys : List FnV}
theorem WrF.keep (h : WrF W lo hi v ys) (hk : ∀ b, lo ≤ b → b < hi → W'.heap[b]? = W.heap[b]?) : WrF W' lo hi v ys :=
  ⟨own_same h.own fun k e => hk k (h.own.lt k e).1 (h.lt k e), h.lt, fun y hy => by
    obtain ⟨⟨xs, h1⟩, h2⟩ := h.fns y hy
    exact ⟨⟨xs, own_same h1 fun k e => hk k (h1.lt k e).1 (h2 k e)⟩, h2⟩⟩
theorem WrF.below (h : WrF W lo hi v ys) (hb : Below hi W W') : WrF W' lo hi v ys := h.keep fun b _ hl => hb.block b hl
theorem WrF.of {w : World} (h : RowF w W v ys) : WrF W w.heap.size W.heap.size v ys :=
  ⟨h.own, fun k e => (h.own.lt k e).2, fun y hy => ⟨⟨_, (h.fns y hy).1⟩, fun k e => ((h.fns y hy).1.lt k e).2⟩⟩
/-- A cell of a row of words is written. -/
theorem own_set_any {base n s : Nat} {e : TypeId} {u x : Value} {xs : List Value} (h : W.ownsRow base e s u n xs) (g k : Nat) : ∃ xs', (W.setCell ⟨g, k, none⟩ x).ownsRow base e s u n xs' := by
  rcases h.2 with ⟨rfl, h0⟩ | ⟨g', cap, cur, rfl, h1⟩
  · exact ⟨xs, own_same h fun k e => by cases e⟩
  · by_cases e : g' = g
    · subst e
      exact ⟨_, (h.stored k x).1⟩
    · refine ⟨xs, own_same h fun q hq => Below.heap_setCell _ _ _ _ ?_⟩
      have : g' = q := by injection hq
      subst this
      exact e
theorem WrF.set (h : WrF W lo hi v ys) {g : Nat} (hg : ∃ cur, W.heap[g]? = some (.cells cur 46 (0, 0))) (k : Nat) (x : Value) : WrF (W.setCell ⟨g, k, none⟩ x) lo hi v ys := by
  refine ⟨own_same h.own fun q hq => Below.heap_setCell _ _ _ _ (fun e => ?_), h.lt, fun y hy => ?_⟩
  · obtain ⟨c1, h1⟩ := hg
    obtain ⟨c2, h2⟩ := own_type h.own q hq
    have e : q = g := e
    rw [e, h1] at h2
    injection h2 with h2
    injection h2 with _ h2 _
    revert h2; decide
  · obtain ⟨⟨xs, h1⟩, h2⟩ := h.fns y hy
    exact ⟨own_set_any h1 g k, h2⟩
theorem WrF.at_ {A : Option Addr} {m c : Nat} (h : WrF W lo hi (.slice A m c) ys) (hm : ys.length = m) {i : Nat} (hi' : i < m) :
    ∃ b y, A = some ⟨b, 0, none⟩ ∧ ys[i]? = some y ∧ (lo ≤ b ∧ b < hi) ∧ W.cell? ⟨b, i * 2, none⟩ = some (.int .i64 y.sz) ∧ W.cell? ⟨b, i * 2 + 1, none⟩ = some (.slice y.A y.n y.c) ∧ (∀ j, W.frozen? ⟨b, j, none⟩ = false) ∧ (y.n ≤ y.c ∧ y.c ≤ 9223372036854775807) ∧
      (∀ k, k < y.n → ∃ g, y.A = some ⟨g, 0, none⟩ ∧ (lo ≤ g ∧ g < hi) ∧ (∃ cur, W.heap[g]? = some (.cells cur 46 (0, 0))) ∧ (∃ u, W.cell? ⟨g, k, none⟩ = some u) ∧ W.frozen? ⟨g, k, none⟩ = false) := by
  have ho := h.own
  rw [hm] at ho
  have hr := RowOf.of_own fcells_len ho hm
  obtain ⟨b, off, y, cs, e, hb, hy, _, hc, rfl⟩ := hr.at_ hi'
  obtain ⟨g, hg⟩ : ∃ g, A = some ⟨g, 0, none⟩ := by
    rcases ho.2 with ⟨_, h0⟩ | ⟨g, cap, cur, e, _⟩
    · omega
    · injection e with e; exact ⟨g, e⟩
  rw [e] at hg
  injection hg with hg
  injection hg with hg1 hg2
  subst hg1 hg2
  subst e
  have h0 := hc 0 (by omega)
  have h1 := hc 1 (by omega)
  rw [Nat.zero_add] at h0 h1
  obtain ⟨⟨xs, hx⟩, hx2⟩ := h.fns y (List.mem_of_getElem? hy)
  have hcap := own_caps hx
  refine ⟨b, y, rfl, hy, ⟨(ho.lt b rfl).1, h.lt b rfl⟩, h0, h1, ho.frozenAt, ⟨hcap.1, hcap.2.1⟩, fun k hk => ?_⟩
  obtain ⟨g, cap, hv, _, hglt⟩ := hx.form (by omega)
  have hA : y.A = some ⟨g, 0, none⟩ := by injection hv
  rw [hA] at hx hx2
  have hl : xs.length = y.n := by have := hx.1; omega
  refine ⟨g, hA, ⟨(hx.lt g rfl).1, hx2 g rfl⟩, own_type hx g rfl, ⟨xs[k]'(by omega), by rw [hx.cellAt k (by omega)]; exact List.getElem?_eq_getElem _⟩, hx.frozenAt k⟩
theorem cellsAll_set (ys : List FnV) (i : Nat) (y : FnV) (z : Int) (hy : ys[i]? = some y) : (cellsAll fcells ys).set (i * 2) (.int .i64 z) = cellsAll fcells (ys.set i { y with sz := z }) := by
  induction ys generalizing i with
  | nil => simp at hy
  | cons x l ih =>
    have e : cellsAll fcells (x :: l) = .int .i64 x.sz :: .slice x.A x.n x.c :: cellsAll fcells l := rfl
    cases i with
    | zero =>
      obtain rfl : x = y := by simpa using hy
      rw [e]; rfl
    | succ i =>
      rw [e, show (i + 1) * 2 = i * 2 + 1 + 1 by omega, List.set_cons_succ, List.set_cons_succ, ih i (by simpa using hy)]
      rfl
theorem WrF.setSz {b m c : Nat} (h : WrF W lo hi (.slice (some ⟨b, 0, none⟩) m c) ys) (hm : ys.length = m) {i : Nat} {y : FnV} (hy : ys[i]? = some y) (z : Int) :
    WrF (W.setCell ⟨b, i * 2, none⟩ (.int .i64 z)) lo hi (.slice (some ⟨b, 0, none⟩) m c) (ys.set i { y with sz := z }) := by
  refine ⟨?_, h.lt, fun q hq => ?_⟩
  · have ho := h.own
    rw [hm] at ho
    rw [List.length_set, hm, ← cellsAll_set ys i y z hy]
    exact (ho.stored (i * 2) _).1
  · have hq' : ∃ x ∈ ys, x.A = q.A ∧ x.n = q.n ∧ x.c = q.c := by
      rcases List.mem_or_eq_of_mem_set hq with hq | rfl
      · exact ⟨q, hq, rfl, rfl, rfl⟩
      · exact ⟨y, List.mem_of_getElem? hy, rfl, rfl, rfl⟩
    obtain ⟨x, hx, e1, e2, e3⟩ := hq'
    obtain ⟨⟨xs, h1⟩, h2⟩ := h.fns x hx
    rw [e1, e2, e3] at h1 h2
    refine ⟨⟨xs, own_same h1 fun k hk => Below.heap_setCell _ _ _ _ (fun e => ?_)⟩, h2⟩
    obtain ⟨c1, g1⟩ := own_type h.own b rfl
    obtain ⟨c2, g2⟩ := own_type h1 k hk
    have e : k = b := e
    rw [e, g1] at g2
    injection g2 with g2
    injection g2 with _ g2 _
    revert g2; decide
end
/-- The law's state: the table, and both rows. -/
structure OwnSt (w W : World) (b lo hi : Nat) (O : Fns) (vo : Value) (yo : List FnV) (vg : Value) (yg : List FnV) : Prop where
  bel : Below w.heap.size w W
  tb : TbIs W lo hi b O
  own : WrF W w.heap.size lo vo yo
  got : WrF W hi W.heap.size vg yg
  l0 : w.heap.size ≤ lo
  l1 : lo ≤ hi
  l2 : hi ≤ W.heap.size
section
variable {w W W' : World} {b lo hi : Nat} {O : Fns} {vo vg : Value} {yo yg : List FnV}
theorem OwnSt.below (h : OwnSt w W b lo hi O vo yo vg yg) (hb : Below W.heap.size W W') : OwnSt w W' b lo hi O vo yo vg yg := by
  have hz := hb.size
  have h2 := h.l2
  have h1 := h.l1
  refine ⟨h.bel.trans (hb.mono h.bel.size), h.tb.below (hb.mono h2), h.own.below (hb.mono (by omega)), ?_, h.l0, h.l1, by omega⟩
  have := h.got.below hb
  exact ⟨this.own, fun k e => Nat.lt_of_lt_of_le (this.lt k e) hz, fun y hy => ⟨(this.fns y hy).1, fun k e => Nat.lt_of_lt_of_le ((this.fns y hy).2 k e) hz⟩⟩
theorem OwnSt.drewN (h : OwnSt w W b lo hi O vo yo vg yg) (q : Nat) : OwnSt w (W.drewN q) b lo hi O vo yo vg yg := h.below (belowN (Below.refl _ _) q)
theorem OwnSt.s13 (h : OwnSt w W b lo hi O vo yo vg yg) : S13 w W (some ⟨b, 0, none⟩) O := ⟨h.bel, lo, hi, h.tb.o, h.l2, h.l0⟩
theorem wr_size {hi' : Nat} {v : Value} {ys : List FnV} {lo' : Nat} (h : WrF W lo' hi' v ys) (e : hi' = W'.heap.size) (hk : WrF W' lo' hi' v ys) : WrF W' lo' W'.heap.size v ys := by subst e; exact hk
theorem OwnSt.setWord (h : OwnSt w W b lo hi O vo yo vg yg) {g : Nat} (hg : ∃ cur, W.heap[g]? = some (.cells cur 46 (0, 0))) (hl : (w.heap.size ≤ g ∧ g < lo) ∨ hi ≤ g) (k : Nat) (x : Value) :
    OwnSt w (W.setCell ⟨g, k, none⟩ x) b lo hi O vo yo vg yg := by
  have hz : (W.setCell ⟨g, k, none⟩ x).heap.size = W.heap.size := by simp
  refine ⟨h.bel.setCell (p := ⟨g, k, none⟩) (by show _ ≤ g; have := h.l0; have := h.l1; omega) _, h.tb.keep fun q h1 h2 => Below.heap_setCell _ _ _ _ (by show q ≠ g; omega), h.own.set hg k x, ?_, h.l0, h.l1, by rw [hz]; exact h.l2⟩
  rw [hz]; exact h.got.set hg k x
theorem OwnSt.setSz {r m c : Nat} (h : OwnSt w W b lo hi O (.slice (some ⟨r, 0, none⟩) m c) yo vg yg) (hm : yo.length = m) {i : Nat} {y : FnV} (hy : yo[i]? = some y) (z : Int) :
    OwnSt w (W.setCell ⟨r, i * 2, none⟩ (.int .i64 z)) b lo hi O (.slice (some ⟨r, 0, none⟩) m c) (yo.set i { y with sz := z }) vg yg := by
  have hz : (W.setCell ⟨r, i * 2, none⟩ (.int .i64 z)).heap.size = W.heap.size := by simp
  have h1 := (h.own.own.lt r rfl).1
  have h2 := h.own.lt r rfl
  have h3 := h.l1
  refine ⟨h.bel.setCell (p := ⟨r, i * 2, none⟩) h1 _, h.tb.keep fun q h1 h2 => Below.heap_setCell _ _ _ _ (by show q ≠ r; omega), h.own.setSz hm hy z, ?_, h.l0, h.l1, by rw [hz]; exact h.l2⟩
  rw [hz]; exact h.got.keep fun q h1 h2 => Below.heap_setCell _ _ _ _ (by show q ≠ r; omega)
theorem OwnSt.oat {r m c i : Nat} {y : FnV} (h : OwnSt w W b lo hi O (.slice (some ⟨r, 0, none⟩) m c) yo vg yg) (hm : yo.length = m) (hy : yo[i]? = some y) :
    W.cell? ⟨r, i * 2, none⟩ = some (.int .i64 y.sz) ∧ W.cell? ⟨r, i * 2 + 1, none⟩ = some (.slice y.A y.n y.c) ∧ (∀ j, W.frozen? ⟨r, j, none⟩ = false) ∧ (y.n ≤ y.c ∧ y.c ≤ 9223372036854775807) ∧
      (∀ k, k < y.n → ∃ g, y.A = some ⟨g, 0, none⟩ ∧ (∃ u, W.cell? ⟨g, k, none⟩ = some u) ∧ W.frozen? ⟨g, k, none⟩ = false ∧ ∀ x, OwnSt w (W.setCell ⟨g, k, none⟩ x) b lo hi O (.slice (some ⟨r, 0, none⟩) m c) yo vg yg) := by
  obtain ⟨b2, y2, e, hy2, _, h0, h1, h2, h3, h4⟩ := h.own.at_ hm (i := i) (by rw [← hm]; exact (List.getElem?_eq_some_iff.1 hy).1)
  injection e with e
  injection e with e
  subst e
  rw [hy] at hy2
  obtain rfl := Option.some.inj hy2
  refine ⟨h0, h1, h2, h3, fun k hk => ?_⟩
  obtain ⟨g, g1, g2, g3, g4, g5⟩ := h4 k hk
  exact ⟨g, g1, g4, g5, fun x => h.setWord g3 (Or.inl g2) k x⟩
theorem OwnSt.gat {r m c i : Nat} {y : FnV} (h : OwnSt w W b lo hi O vo yo (.slice (some ⟨r, 0, none⟩) m c) yg) (hm : yg.length = m) (hy : yg[i]? = some y) :
    W.cell? ⟨r, i * 2, none⟩ = some (.int .i64 y.sz) ∧ W.cell? ⟨r, i * 2 + 1, none⟩ = some (.slice y.A y.n y.c) ∧ (y.n ≤ y.c ∧ y.c ≤ 9223372036854775807) ∧
      (∀ k, k < y.n → ∃ g, y.A = some ⟨g, 0, none⟩ ∧ (∃ u, W.cell? ⟨g, k, none⟩ = some u) ∧ W.frozen? ⟨g, k, none⟩ = false ∧ ∀ x, OwnSt w (W.setCell ⟨g, k, none⟩ x) b lo hi O vo yo (.slice (some ⟨r, 0, none⟩) m c) yg) := by
  obtain ⟨b2, y2, e, hy2, _, h0, h1, h2, h3, h4⟩ := h.got.at_ hm (i := i) (by rw [← hm]; exact (List.getElem?_eq_some_iff.1 hy).1)
  injection e with e
  injection e with e
  subst e
  rw [hy] at hy2
  obtain rfl := Option.some.inj hy2
  refine ⟨h0, h1, h3, fun k hk => ?_⟩
  obtain ⟨g, g1, g2, g3, g4, g5⟩ := h4 k hk
  exact ⟨g, g1, g4, g5, fun x => h.setWord g3 (Or.inr g2.1) k x⟩
end
theorem Sl.cellsAtF {w : World} {B n : Nat} {A : Option Addr} {l : List Value} (h : Sl w B A n l) : CellsAt w A l := fun ad e j u hj => by
  have hjl := (List.getElem?_eq_some_iff.1 hj).1
  have hl : l.length = n := h.1
  obtain ⟨b, off, u', e2, _, hu, hc⟩ := h.at_ (k := j) (by omega)
  rw [e] at e2
  injection e2 with e2
  subst e2
  rw [hj] at hu
  obtain rfl := Option.some.inj hu
  rw [Go.WideShapes.add_plain]
  exact hc
theorem wv_one13 (l : List Nat) : ∀ u ∈ l.map wv, u.oneCell' = true := fun u hu => by
  obtain ⟨x, _, rfl⟩ := List.mem_map.1 hu; rfl
/-- Behind New and Fns. -/
theorem own_start {w W W2 W3 : World} {b n c c9 : Nat} {A A9 : Option Addr} {zs us : List FnV} {O : Fns} (h : RowF w W (.slice A n c) zs) (hb2 : Below W.heap.size W W2) (ht : TbIs W2 W.heap.size W2.heap.size b O) (hg : RowF W2 W3 (.slice A9 n c9) us) :
    OwnSt w W3 b W.heap.size W2.heap.size O (.slice A n c) zs (.slice A9 n c9) us := by
  have h3 := hg.bel
  refine ⟨(h.bel.trans (hb2.mono h.bel.size)).trans (h3.mono (Nat.le_trans h.bel.size hb2.size)), ht.below h3, ?_, WrF.of hg, h.bel.size, hb2.size, h3.size⟩
  exact ((WrF.of h).below hb2).below (h3.mono hb2.size)
end Go.Proofs.YtieknifbmamdaaaDoor
