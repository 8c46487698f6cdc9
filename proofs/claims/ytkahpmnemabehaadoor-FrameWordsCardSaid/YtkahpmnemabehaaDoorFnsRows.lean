/- Rows of functions (a size and a bitmap each), as they came in, and as a call makes them. -/
import Derived.Test.YtkahpmnemabehaaDoorRowWords
import Derived.Test.YtkahpmnemabehaaDoorFnsMath
namespace Go.Proofs.YtkahpmnemabehaaDoor
open Go.RowKit Go.ChangeShapes Go.WideShapes
set_option linter.unusedVariables false

/-- A function, and where its bitmap lies. -/
structure FnV where
  sz : Int
  A : Option Addr
  n : Nat
  c : Nat
  ws : List Nat
def FnV.v (y : FnV) : Int × List Nat := (y.sz, y.ws)
def fcells (y : FnV) : List Value := [.int .i64 y.sz, .slice y.A y.n y.c]
theorem fcells_len (y : FnV) : (fcells y).length = 2 := rfl
theorem fcells_one (ys : List FnV) : ∀ u ∈ cellsAll fcells ys, u.oneCell' = true := fun u hu => by
  obtain ⟨y, _, h⟩ := List.mem_flatMap.1 hu
  unfold fcells at h
  rcases List.mem_cons.1 h with rfl | h
  · rfl
  · obtain rfl := List.mem_singleton.1 h; rfl
/-- Its bitmap lies in a block from lo on, below hi. -/
structure FvOk (w : World) (lo hi : Nat) (y : FnV) : Prop where
  sl : Sl w hi y.A y.n (y.ws.map wv)
  low : 0 < y.n → ∀ a, y.A = some a → lo ≤ a.block
  nc : y.n ≤ y.c
  cm : y.c ≤ 9223372036854775807
  na : y.A = none → y.c = 0
  wd : Wd y.ws
  inn : in64 y.sz
section
variable {w w' : World} {lo hi lo' hi' : Nat} {y : FnV}
theorem FvOk.len (h : FvOk w lo hi y) : y.ws.length = y.n := by have := h.sl.1; simpa using this
theorem FvOk.keep (h : FvOk w lo hi y) (hk : ∀ b, lo ≤ b → b < hi → w'.heap[b]? = w.heap[b]?) : FvOk w' lo hi y :=
  ⟨⟨h.sl.1, fun hn => by
    obtain ⟨b, off, e, hb, hc⟩ := h.sl.2 hn
    refine ⟨b, off, e, hb, fun j hj => ?_⟩
    rw [← hc j hj]
    exact World.cell?_of_block (hk b (h.low hn _ e) hb)⟩, h.low, h.nc, h.cm, h.na, h.wd, h.inn⟩
theorem FvOk.below (h : FvOk w lo hi y) (hb : Below hi w w') : FvOk w' lo hi y := h.keep fun b _ hl => hb.block b hl
theorem FvOk.more (h : FvOk w lo hi y) (hl : lo' ≤ lo) (hh : hi ≤ hi') : FvOk w lo' hi' y := ⟨h.sl.more hh, fun hn a e => Nat.le_trans hl (h.low hn a e), h.nc, h.cm, h.na, h.wd, h.inn⟩
theorem FvOk.drewN (h : FvOk w lo hi y) (q : Nat) : FvOk (w.drewN q) lo hi y := h.keep fun _ _ _ => rfl
theorem FvOk.small (h : FvOk w lo hi y) : y.n ≤ 9223372036854775807 := Nat.le_trans h.nc h.cm
end
/-- The slice value '.slice A n c' has these functions. -/
structure FnRow (w : World) (lo hi : Nat) (A : Option Addr) (n : Nat) (ys : List FnV) : Prop where
  row : RowOf (fun cs y => cs = fcells y) 2 w hi A n ys
  low : 0 < n → ∀ a, A = some a → lo ≤ a.block
  fns : ∀ y ∈ ys, FvOk w lo hi y
def vals (ys : List FnV) : Fns := ys.map FnV.v
theorem vals_length (ys : List FnV) : (vals ys).length = ys.length := by unfold vals; simp
theorem vals_at {ys : List FnV} {j : Nat} {y : FnV} (h : ys[j]? = some y) : (vals ys)[j]? = some (y.sz, y.ws) := by unfold vals; rw [List.getElem?_map, h]; rfl
section
variable {w w' : World} {lo hi lo' hi' n : Nat} {A : Option Addr} {ys : List FnV}
theorem FnRow.len (h : FnRow w lo hi A n ys) : ys.length = n := h.row.1
theorem FnRow.at_ (h : FnRow w lo hi A n ys) {j : Nat} (hj : j < n) : ∃ b off y, A = some ⟨b, off, none⟩ ∧ b < hi ∧ ys[j]? = some y ∧ w.cell? ⟨b, off + j * 2, none⟩ = some (.int .i64 y.sz) ∧ w.cell? ⟨b, off + j * 2 + 1, none⟩ = some (.slice y.A y.n y.c) ∧ FvOk w lo hi y := by
  obtain ⟨b, off, y, cs, e, hb, hy, _, hc, rfl⟩ := RowOf.at_ h.row hj
  exact ⟨b, off, y, e, hb, hy, hc 0 (by omega), hc 1 (by omega), h.fns y (List.mem_of_getElem? hy)⟩
theorem FnRow.keep (h : FnRow w lo hi A n ys) (hk : ∀ b, lo ≤ b → b < hi → w'.heap[b]? = w.heap[b]?) : FnRow w' lo hi A n ys :=
  ⟨⟨h.row.1, fun hn => by
    obtain ⟨b, off, e, hb, hc⟩ := h.row.2 hn
    refine ⟨b, off, e, hb, fun j y hj => ?_⟩
    obtain ⟨cs, c1, c2, c3⟩ := hc j y hj
    exact ⟨cs, c1, fun k hk2 => (World.cell?_of_block (hk b (h.low hn _ e) hb)).trans (c2 k hk2), c3⟩⟩, h.low, fun y hy => (h.fns y hy).keep hk⟩
theorem FnRow.below (h : FnRow w lo hi A n ys) (hb : Below hi w w') : FnRow w' lo hi A n ys := h.keep fun b _ hl => hb.block b hl
theorem FnRow.more (h : FnRow w lo hi A n ys) (hl : lo' ≤ lo) (hh : hi ≤ hi') : FnRow w lo' hi' A n ys := ⟨RowOf.more h.row hh, fun hn a e => Nat.le_trans hl (h.low hn a e), fun y hy => (h.fns y hy).more hl hh⟩
theorem FnRow.drewN (h : FnRow w lo hi A n ys) (q : Nat) : FnRow (w.drewN q) lo hi A n ys := h.keep fun _ _ _ => rfl
theorem FnRow.wds (h : FnRow w lo hi A n ys) : ∀ f ∈ vals ys, Wd f.2 := fun f hf => by
  obtain ⟨y, hy, rfl⟩ := List.mem_map.1 hf
  exact (h.fns y hy).wd
theorem FnRow.nil_ : FnRow w lo hi A 0 [] := ⟨RowOf.nil_, fun h => absurd h (by omega), fun y hy => by cases hy⟩
end

/-- Read out of what came in. -/
theorem fr_cells : Tryd.prog.cellsOf 47 = 2 := by kernel_rfl
theorem fr_int : Tryd.prog.cellsOf 3 = 1 := by kernel_rfl
theorem fr_words : Tryd.prog.cellsOf 22 = 1 := by kernel_rfl
theorem fr_u64 : Tryd.prog.cellsOf 49 = 1 := by kernel_rfl
section
variable {H : Type} {enc : TypeId × Value → H} {P : Program} {W : World} {sp : Nat → Bool} {hd : Bool}
theorem read_intsC {t e : TypeId} {k : IntKind} {fuel : Nat} {cs : List Value} {x : DataW H × List MemPlace} (ht : P.underlying t = some (.slice e)) (he : P.underlying e = some (.int k)) (hc : P.cellsOf e = 1)
    (h : DataW.trod enc P W 0 sp hd fuel t cs = some x) :
    ∃ (A : Option Addr) (len cap : Nat) (zs : List Int), cs = [.slice A len cap] ∧ len ≤ cap ∧ cap ≤ maxLen ∧ (A = none → cap = 0) ∧ Sl W W.heap.size A len (zs.map (Value.int k)) ∧ ∀ z ∈ zs, (Lit.int k z).wf = true := by
  rcases open_ints ht he hc h with ⟨rfl, _⟩ | ⟨a, len, cap, zs, rfl, _, hl, hm, hz, _, hcell, hwf⟩
  · exact ⟨none, 0, 0, [], rfl, Nat.le_refl _, Nat.zero_le _, fun _ => rfl, Sl.nil_, fun z hz => by cases hz⟩
  · have hln : len ≤ zs.length := by rw [hz]; split <;> omega
    refine ⟨some a, len, cap, zs.take len, rfl, hl, hm, fun e => (by cases e), ?_, fun z hz' => hwf z (List.mem_of_mem_take hz')⟩
    refine ⟨by rw [List.length_map, List.length_take]; omega, fun hn => ?_⟩
    obtain ⟨b, off, spot⟩ := a
    have h0 := hcell 0 (by omega)
    have hspot : spot = none := by simpa [Addr.add] using World.cell?_spot h0
    subst hspot
    refine ⟨b, off, rfl, World.block_lt_of_cell? _ _ h0, fun j hj => ?_⟩
    rw [← Go.WideShapes.add_plain, hcell j (by omega)]
    rw [List.getElem?_map, List.getElem?_take_of_lt hj, List.getElem?_eq_getElem (by omega), List.getD_eq_getElem?_getD, List.getElem?_eq_getElem (by omega)]
    rfl
def FnIs (W : World) (cs : List Value) (y : FnV) : Prop := cs = fcells y ∧ FvOk W 0 W.heap.size y
theorem read_fn (fuel : Nat) (cs : List Value) (x : DataW H × List MemPlace) (h : DataW.trod enc Tryd.prog W 0 sp hd fuel 47 cs = some x) : ∃ y, FnIs W cs y := by
  obtain ⟨hl, hf⟩ := read_field Tryd.underlying47 h
  rw [fr_cells] at hl
  obtain ⟨c0, n0, y0, g0, t0⟩ := hf 0 _ rfl fr_int (by rw [hl]; decide)
  obtain ⟨c1, n1, y1, g1, t1⟩ := hf 1 _ rfl fr_words (by rw [hl]; decide)
  obtain ⟨z0, e0, _, w0⟩ := DataW.trod_int Tryd.underlying3 t0
  obtain ⟨A, len, cap, zs, e1, hlc, hcm, hna, hsl, hwf⟩ := read_intsC Tryd.underlying22 Tryd.underlying49 fr_u64 t1
  simp only [List.cons.injEq, and_true] at e0 e1
  subst e0 e1
  obtain ⟨hwn, hw64⟩ := words_nat zs hwf
  unfold maxLen at hcm
  refine ⟨⟨z0, A, len, cap, zs.map Int.toNat⟩, ?_, ⟨by show Sl W _ A len ((zs.map Int.toNat).map wv); rw [hwn]; exact hsl, fun _ _ _ => Nat.zero_le _, hlc, by show cap ≤ _; omega, hna, hw64, wf_in64 w0⟩⟩
  unfold fcells
  match cs, hl with
  | [a0, a1], _ => simp_all
theorem read_fns {v : Value} {d : DataW H} {ps : List MemPlace} (h : DataW.Trod enc Tryd.prog W 0 sp hd 23 v d ps) :
    ∃ (A : Option Addr) (len cap : Nat) (ys : List FnV), v.cells.toList = [.slice A len cap] ∧ len ≤ maxLen ∧ FnRow W 0 W.heap.size A len ys := by
  obtain ⟨fuel, hf⟩ := h
  obtain ⟨A, len, cap, l, e, hm, hr⟩ := read_row (FnIs W) 2 Tryd.underlying23 fr_cells (by decide) (fun fuel cs x h => read_fn fuel cs x h) hf
  refine ⟨A, len, cap, l, e, hm, ⟨hr.1, fun hn => ?_⟩, fun _ _ _ => Nat.zero_le _, fun y hy => ?_⟩
  · obtain ⟨b, off, e, hb, hc⟩ := hr.2 hn
    refine ⟨b, off, e, hb, fun j y hj => ?_⟩
    obtain ⟨cs, c1, c2, c3⟩ := hc j y hj
    exact ⟨cs, c1, c2, c3.1⟩
  · obtain ⟨j, hj, rfl⟩ := List.getElem_of_mem hy
    obtain ⟨b, off, y, cs, _, _, h1, _, _, hR⟩ := hr.at_ (j := j) (by have := hr.1; omega)
    rw [List.getElem?_eq_getElem hj] at h1
    injection h1 with h1
    rw [h1]; exact hR.2
end

end Go.Proofs.YtkahpmnemabehaaDoor
