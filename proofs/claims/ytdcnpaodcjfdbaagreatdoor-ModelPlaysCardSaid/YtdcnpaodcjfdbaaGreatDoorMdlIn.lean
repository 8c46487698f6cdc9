/- Several texts in one: MdlRead, MdlReadM, MdlWant. -/
import Derived.Test.YtdcnpaodcjfdbaaGreatDoorMdlBase
import Derived.Test.YtdcnpaodcjfdbaaGreatDoorSltLaws
/- Layer 19: what comes in: frames without addresses, acts on them. -/
namespace Go.Proofs.YtdcnpaodcjfdbaaGreatDoor
open Go.RowKit Go.ChangeShapes Go.WideShapes
set_option linter.unusedVariables false

section
variable {H : Type} {enc : TypeId × Value → H} {P : Program} {W : World} {sp : Nat → Bool} {hd : Bool}
/-- A row, and how much room it has. -/
theorem read_rowC {E : Type} (R : List Value → E → Prop) (s : Nat) {t e : TypeId} {fuel : Nat} {cs : List Value} {x : DataW H × List MemPlace} (ht : P.underlying t = some (.slice e)) (hs : P.cellsOf e = s) (h0 : 0 < s)
    (hr : ∀ fuel cs x, DataW.trod enc P W 0 sp hd fuel e cs = some x → ∃ y, R cs y)
    (h : DataW.trod enc P W 0 sp hd fuel t cs = some x) :
    ∃ (A : Option Addr) (len cap : Nat) (l : List E), cs = [.slice A len cap] ∧ len ≤ cap ∧ cap ≤ maxLen ∧ (A = none → cap = 0) ∧ RowOf R s W W.heap.size A len l := by
  have hrow := read_row R s ht hs h0 hr h
  rcases Go.Deep.open_slice ht h with ⟨rfl, _⟩ | ⟨a, len, cap, m, n, D, Pl, rfl, _, hl, hm, _⟩
  · exact ⟨none, 0, 0, [], rfl, Nat.le_refl _, Nat.zero_le _, fun _ => rfl, rfl, fun h => absurd h (by omega)⟩
  · obtain ⟨A', len', cap', l, e1, _, hR⟩ := hrow
    simp only [List.cons.injEq, Value.slice.injEq, and_true] at e1
    obtain ⟨rfl, rfl, rfl⟩ := e1
    exact ⟨_, _, _, l, rfl, hl, hm, fun e => (by cases e), hR⟩
end

section
variable {H : Type} {enc : TypeId × Value → H} {W : World} {sp : Nat → Bool} {hd : Bool}
theorem af_cells : Tryz.prog.cellsOf 59 = 2 := by kernel_rfl
theorem af_vals : Tryz.prog.cellsOf 57 = 1 := by kernel_rfl
/-- A frame that came in. -/
def AfIs (W : World) (cs : List Value) (z : AfS) : Prop := cs = afcells z ∧ AfOk W W.heap.size z ∧ (z.A = none → z.c = 0)
theorem read_afr (fuel : Nat) (cs : List Value) (x : DataW H × List MemPlace) (h : DataW.trod enc Tryz.prog W 0 sp hd fuel 59 cs = some x) : ∃ z, AfIs W cs z := by
  obtain ⟨hl, hf⟩ := read_field Tryz.underlying59 h
  rw [af_cells] at hl
  obtain ⟨c0, n0, y0, g0, t0⟩ := hf 0 _ rfl vl_int (by rw [hl]; decide)
  obtain ⟨c1, n1, y1, g1, t1⟩ := hf 1 _ rfl af_vals (by rw [hl]; decide)
  obtain ⟨z0, e0, _, w0⟩ := DataW.trod_int Tryz.underlying3 t0
  obtain ⟨A, len, cap, vs, e1, hlc, hcm, hna, hr⟩ := read_rowC VlIs 4 Tryz.underlying57 vl_cells (by decide) (fun fuel cs x h => read_valF fuel cs x h) t1
  simp only [List.cons.injEq, and_true] at e0 e1
  subst e0 e1
  unfold maxLen at hcm
  refine ⟨⟨z0, A, len, cap, vs⟩, ?_, ⟨⟨hr.1, fun hn => ?_⟩, wf_in64 w0, hlc, by show cap ≤ _; omega, fun v hv => ?_⟩, hna⟩
  · unfold afcells
    match cs, hl with
    | [a0, a1], _ => simp_all
  · obtain ⟨b, off, e, hb, hc⟩ := hr.2 hn
    refine ⟨b, off, e, hb, fun j y hj => ?_⟩
    obtain ⟨cs, c1, c2, c3⟩ := hc j y hj
    exact ⟨cs, c1, c2, c3.1⟩
  · replace hv : v ∈ vs := hv
    obtain ⟨j, hj, rfl⟩ := List.getElem_of_mem hv
    obtain ⟨b, off, y, cs, _, _, h1, _, _, hR⟩ := hr.at_ (j := j) (by have := hr.1; omega)
    rw [List.getElem?_eq_getElem hj] at h1
    injection h1 with h1
    rw [h1]; exact ⟨hR.2.1, hR.2.2.1, hR.2.2.2.1, hR.2.2.2.2⟩
/-- Frames that came in. -/
theorem read_afs {v : Value} {d : DataW H} {ps : List MemPlace} (h : DataW.Trod enc Tryz.prog W 0 sp hd 23 v d ps) :
    ∃ (A : Option Addr) (len cap : Nat) (zs : List AfS), v.cells.toList = [.slice A len cap] ∧ len ≤ cap ∧ cap ≤ maxLen ∧ (A = none → cap = 0) ∧ AfRow W W.heap.size A len zs ∧ ∀ z ∈ zs, z.A = none → z.c = 0 := by
  obtain ⟨fuel, hf⟩ := h
  obtain ⟨A, len, cap, l, e, hlc, hcm, hna, hr⟩ := read_rowC (AfIs W) 2 Tryz.underlying23 af_cells (by decide) (fun fuel cs x h => read_afr fuel cs x h) hf
  have hall : ∀ z ∈ l, AfOk W W.heap.size z ∧ (z.A = none → z.c = 0) := fun z hz => by
    obtain ⟨j, hj, rfl⟩ := List.getElem_of_mem hz
    obtain ⟨b, off, y, cs, _, _, h1, _, _, hR⟩ := hr.at_ (j := j) (by have := hr.1; omega)
    rw [List.getElem?_eq_getElem hj] at h1
    injection h1 with h1
    rw [h1]; exact hR.2
  refine ⟨A, len, cap, l, e, hlc, hcm, hna, ⟨⟨hr.1, fun hn => ?_⟩, fun z hz => (hall z hz).1⟩, fun z hz => (hall z hz).2⟩
  obtain ⟨b, off, e, hb, hc⟩ := hr.2 hn
  refine ⟨b, off, e, hb, fun j y hj => ?_⟩
  obtain ⟨cs, c1, c2, c3⟩ := hc j y hj
  exact ⟨cs, c1, c2, c3.1⟩

/-- An act. -/
structure A19 where
  kind : Int
  f : Int
  d : Int
  i : Int
  v : VlV
  bits : Nat
  op : Nat
  A : Option Addr
  n : Nat
  c : Nat
  zs : List Int
def a19cells (a : A19) : List Value := [.int .i64 a.kind, .int .i64 a.f, .int .i64 a.d, .int .i64 a.i, .int .u8 a.v.kind, .int .u64 a.v.bits, .int .i64 a.v.depth, .int .i64 a.v.slot, .int .u64 a.bits, .int .u8 a.op, .slice a.A a.n a.c]
structure A19Ok (w : World) (B : Nat) (a : A19) : Prop where
  kind : in64 a.kind
  f : in64 a.f
  d : in64 a.d
  i : in64 a.i
  v : VIn a.v
  bits : a.bits < 18446744073709551616
  op : a.op < 256
  row : Sl w B a.A a.n (a.zs.map iv)
  zin : ∀ z ∈ a.zs, in64 z
  cap : a.n ≤ a.c
  max : a.c ≤ 9223372036854775807
  nil : a.A = none → a.c = 0
theorem A19Ok.below {w w' : World} {B : Nat} {a : A19} (h : A19Ok w B a) (hb : Below B w w') : A19Ok w' B a := ⟨h.kind, h.f, h.d, h.i, h.v, h.bits, h.op, h.row.below hb, h.zin, h.cap, h.max, h.nil⟩
theorem A19Ok.more {w : World} {B B' : Nat} {a : A19} (h : A19Ok w B a) (hB : B ≤ B') : A19Ok w B' a := ⟨h.kind, h.f, h.d, h.i, h.v, h.bits, h.op, h.row.more hB, h.zin, h.cap, h.max, h.nil⟩
theorem A19Ok.step {w w' : World} {a : A19} (h : A19Ok w w.heap.size a) (hb : Below w.heap.size w w') : A19Ok w' w'.heap.size a := (h.below hb).more hb.size
theorem a19_cells : Tryz.prog.cellsOf 37 = 11 := by kernel_rfl
theorem ints_cells : Tryz.prog.cellsOf 35 = 1 := by kernel_rfl
def A19Is (W : World) (cs : List Value) (a : A19) : Prop := cs = a19cells a ∧ A19Ok W W.heap.size a
theorem read_a19 (fuel : Nat) (cs : List Value) (x : DataW H × List MemPlace) (hf0 : DataW.trod enc Tryz.prog W 0 sp hd fuel 37 cs = some x) : ∃ a, A19Is W cs a := by
  obtain ⟨hl, hf⟩ := read_field Tryz.underlying37 hf0
  rw [a19_cells] at hl
  obtain ⟨c0, n0, y0, g0, t0⟩ := hf 0 _ rfl vl_int (by rw [hl]; decide)
  obtain ⟨c1, n1, y1, g1, t1⟩ := hf 1 _ rfl vl_int (by rw [hl]; decide)
  obtain ⟨c2, n2, y2, g2, t2⟩ := hf 2 _ rfl vl_int (by rw [hl]; decide)
  obtain ⟨c3, n3, y3, g3, t3⟩ := hf 3 _ rfl vl_int (by rw [hl]; decide)
  obtain ⟨n4, y4, t4⟩ := read_fieldN 4 Tryz.underlying37 hf0 4 _ rfl vl_cells (by rw [hl]; decide)
  obtain ⟨c5, n5, y5, g5, t5⟩ := hf 5 _ rfl vl_u64 (by rw [hl]; decide)
  obtain ⟨c6, n6, y6, g6, t6⟩ := hf 6 _ rfl vl_u8 (by rw [hl]; decide)
  obtain ⟨c7, n7, y7, g7, t7⟩ := hf 7 _ rfl ints_cells (by rw [hl]; decide)
  obtain ⟨z0, e0, _, w0⟩ := DataW.trod_int Tryz.underlying3 t0
  obtain ⟨z1, e1, _, w1⟩ := DataW.trod_int Tryz.underlying3 t1
  obtain ⟨z2, e2, _, w2⟩ := DataW.trod_int Tryz.underlying3 t2
  obtain ⟨z3, e3, _, w3⟩ := DataW.trod_int Tryz.underlying3 t3
  obtain ⟨v, hv, hok⟩ := read_valF _ _ _ t4
  obtain ⟨z5, e5, _, w5⟩ := DataW.trod_int Tryz.underlying32 t5
  obtain ⟨z6, e6, _, w6⟩ := DataW.trod_int Tryz.underlying5 t6
  obtain ⟨A, len, cap, zs, e7, hlc, hcm, hna, hsl, hwf⟩ := read_intsC Tryz.underlying35 Tryz.underlying3 vl_int t7
  simp only [List.cons.injEq, and_true] at e0 e1 e2 e3 e5 e6 e7
  subst e0 e1 e2 e3 e5 e6 e7
  unfold maxLen at hcm
  have k5 := wf_word w5
  have k6 := wf_u8 w6
  refine ⟨⟨z0, z1, z2, z3, v, z5.toNat, z6.toNat, A, len, cap, zs⟩, ?_, ⟨wf_in64 w0, wf_in64 w1, wf_in64 w2, wf_in64 w3, ⟨hok.1, hok.2.1, hok.2.2.1, hok.2.2.2⟩, by show z5.toNat < _; omega, by show z6.toNat < _; omega, hsl, fun z hz => wf_in64 (hwf z hz), hlc, by show cap ≤ _; omega, hna⟩⟩
  unfold a19cells
  simp only
  rw [Int.toNat_of_nonneg k5.1, Int.toNat_of_nonneg k6.1]
  unfold vlcells at hv
  match cs, hl with
  | [a0, a1, a2, a3, a4, a5, a6, a7, a8, a9, a10], _ => simp_all
/-- Acts that came in. -/
theorem read_acts19 {v : Value} {d : DataW H} {ps : List MemPlace} (h : DataW.Trod enc Tryz.prog W 0 sp hd 24 v d ps) :
    ∃ (A : Option Addr) (len cap : Nat) (l : List A19), v.cells.toList = [.slice A len cap] ∧ len ≤ cap ∧ cap ≤ maxLen ∧ RowOf (fun cs a => cs = a19cells a) 11 W W.heap.size A len l ∧ ∀ a ∈ l, A19Ok W W.heap.size a := by
  obtain ⟨fuel, hf⟩ := h
  obtain ⟨A, len, cap, l, e, hlc, hcm, _, hr⟩ := read_rowC (A19Is W) 11 Tryz.underlying24 a19_cells (by decide) (fun fuel cs x h => read_a19 fuel cs x h) hf
  refine ⟨A, len, cap, l, e, hlc, hcm, ⟨hr.1, fun hn => ?_⟩, fun a ha => ?_⟩
  · obtain ⟨b, off, e, hb, hc⟩ := hr.2 hn
    refine ⟨b, off, e, hb, fun j y hj => ?_⟩
    obtain ⟨cs, c1, c2, c3⟩ := hc j y hj
    exact ⟨cs, c1, c2, c3.1⟩
  · obtain ⟨j, hj, rfl⟩ := List.getElem_of_mem ha
    obtain ⟨b, off, y, cs, _, _, h1, _, _, hR⟩ := hr.at_ (j := j) (by have := hr.1; omega)
    rw [List.getElem?_eq_getElem hj] at h1
    injection h1 with h1
    rw [h1]; exact hR.2
/-- One act. -/
theorem read_act19 {v : Value} {d : DataW H} {ps : List MemPlace} (h : DataW.Trod enc Tryz.prog W 0 sp hd 37 v d ps) : ∃ a, v.cells.toList = a19cells a ∧ A19Ok W W.heap.size a := by
  obtain ⟨fuel, hf⟩ := h
  exact read_a19 fuel _ _ hf
end
end Go.Proofs.YtdcnpaodcjfdbaaGreatDoor

/- Layer 19: what comes in, in the form that a proof's opening takes. -/
namespace Go.Proofs.YtdcnpaodcjfdbaaGreatDoor
open Go.RowKit Go.ChangeShapes Go.WideShapes
set_option linter.unusedVariables false

section
variable {H : Type} {enc : TypeId × Value → H} {W : World} {sp : Nat → Bool} {hd : Bool}
theorem read_afsM {v : Value} {d : DataW H} {ps : List MemPlace} (h : DataW.Trod enc Tryz.prog W 0 sp hd 23 v d ps) :
    ∃ (A : Option Addr) (len cap : Nat) (zs : List AfS), v.cells.toList = [.slice A len cap] ∧ len ≤ maxLen ∧ (len ≤ cap ∧ cap ≤ maxLen ∧ AfRow W W.heap.size A len zs) := by
  obtain ⟨A, len, cap, zs, e, h1, h2, _, h3, _⟩ := read_afs h
  exact ⟨A, len, cap, zs, e, Nat.le_trans h1 h2, h1, h2, h3⟩
theorem read_acts19M {v : Value} {d : DataW H} {ps : List MemPlace} (h : DataW.Trod enc Tryz.prog W 0 sp hd 24 v d ps) :
    ∃ (A : Option Addr) (len cap : Nat) (l : List A19), v.cells.toList = [.slice A len cap] ∧ len ≤ maxLen ∧ (RowOf (fun cs a => cs = a19cells a) 11 W W.heap.size A len l ∧ ∀ a ∈ l, A19Ok W W.heap.size a) := by
  obtain ⟨A, len, cap, zs, e, h1, h2, h3, h4⟩ := read_acts19 h
  exact ⟨A, len, cap, zs, e, Nat.le_trans h1 h2, h3, h4⟩
theorem read_act19M {v : Value} {d : DataW H} {ps : List MemPlace} (h : DataW.Trod enc Tryz.prog W 0 sp hd 37 v d ps) :
    ∃ a : A19, v.cells.toList = [.int .i64 a.kind, .int .i64 a.f, .int .i64 a.d, .int .i64 a.i, .int .u8 a.v.kind, .int .u64 a.v.bits, .int .i64 a.v.depth, .int .i64 a.v.slot, .int .u64 a.bits, .int .u8 a.op, .slice a.A a.n a.c] ∧ A19Ok W W.heap.size a := read_act19 h
theorem read_val19 {v : Value} {d : DataW H} {ps : List MemPlace} (h : DataW.Trod enc Tryz.prog W 0 sp hd 34 v d ps) :
    ∃ u : VlV, v.cells.toList = [.int .u8 u.kind, .int .u64 u.bits, .int .i64 u.depth, .int .i64 u.slot] ∧ VIn u := by
  obtain ⟨fuel, hf⟩ := h
  obtain ⟨u, h1, h2⟩ := read_valF _ _ _ hf
  exact ⟨u, h1, h2.1, h2.2.1, h2.2.2.1, h2.2.2.2⟩
end
end Go.Proofs.YtdcnpaodcjfdbaaGreatDoor

/- What an act of layer 19's statements comes to, by the document. -/
namespace Go.Proofs.YtdcnpaodcjfdbaaGreatDoor
open Go.RowKit
set_option linter.unusedVariables false

/-- What an act comes to: the row, a value, the error's number. -/
def mdWant (l : Fns) (L : Afs) (a : A19) : Afs × VlV × Int :=
  if a.kind = 0 then ((mdCall l L a.f).1, vl0, (mdCall l L a.f).2) else if a.kind = 1 then ((mdReturn l L).1, vl0, (mdReturn l L).2) else if a.kind = 2 then ((mdSet l L a.d a.i a.v).1, vl0, (mdSet l L a.d a.i a.v).2)
  else if a.kind = 3 then (L, (mdGet l L a.d a.i).1, (mdGet l L a.d a.i).2) else if a.kind = 4 then (L, (mdLoad l L a.d a.i).1, (mdLoad l L a.d a.i).2)
  else if a.kind = 5 then ((mdWrite l L a.d a.i a.bits).1, vl0, (mdWrite l L a.d a.i a.bits).2) else ((mdCalc l L a.op a.d a.zs).1, vl0, (mdCalc l L a.op a.d a.zs).2)
/-- A row, a value, an error's number. -/
def ResWt (w : World) (r : Afs × VlV × Int) (e : Ending) (w' : World) : Prop := ∃ A n c zs, e = .returned (.tuple #[.slice A n c, vlC r.2.1, .int .i64 r.2.2]) ∧ AfRow w' w'.heap.size A n zs ∧ afvals zs = r.1 ∧ n ≤ c ∧ c ≤ 9223372036854775807 ∧ Below w.heap.size w w'
/-- The blocks of an act's call: the act, the result's value, the value. -/
structure WtSt (w : World) (W : World) : Prop where
  bel : Below w.heap.size w W
  rc : W.cell? ⟨w.heap.size + 1, 0, none⟩ = some (.int .u8 0) ∧ W.cell? ⟨w.heap.size + 1, 1, none⟩ = some (.int .u64 0) ∧ W.cell? ⟨w.heap.size + 1, 2, none⟩ = some (.int .i64 0) ∧ W.cell? ⟨w.heap.size + 1, 3, none⟩ = some (.int .i64 0)
  vc : W.cell? ⟨w.heap.size + 1 + 1, 0, none⟩ = some (.int .u8 0) ∧ W.cell? ⟨w.heap.size + 1 + 1, 1, none⟩ = some (.int .u64 0) ∧ W.cell? ⟨w.heap.size + 1 + 1, 2, none⟩ = some (.int .i64 0) ∧ W.cell? ⟨w.heap.size + 1 + 1, 3, none⟩ = some (.int .i64 0)
  rf : W.frozen? ⟨w.heap.size + 1, 0, none⟩ = false ∧ W.frozen? ⟨w.heap.size + 1, 1, none⟩ = false ∧ W.frozen? ⟨w.heap.size + 1, 2, none⟩ = false ∧ W.frozen? ⟨w.heap.size + 1, 3, none⟩ = false
  vf : W.frozen? ⟨w.heap.size + 1 + 1, 0, none⟩ = false ∧ W.frozen? ⟨w.heap.size + 1 + 1, 1, none⟩ = false ∧ W.frozen? ⟨w.heap.size + 1 + 1, 2, none⟩ = false ∧ W.frozen? ⟨w.heap.size + 1 + 1, 3, none⟩ = false
  big : w.heap.size + 3 ≤ W.heap.size
theorem WtSt.step {w W W' : World} (h : WtSt w W) (hb : Below W.heap.size W W') : WtSt w W' := by
  have hz := h.big
  have c1 : ∀ k, W'.cell? ⟨w.heap.size + 1, k, none⟩ = W.cell? ⟨w.heap.size + 1, k, none⟩ := fun k => hb.cell (by show w.heap.size + 1 < _; omega)
  have c2 : ∀ k, W'.cell? ⟨w.heap.size + 1 + 1, k, none⟩ = W.cell? ⟨w.heap.size + 1 + 1, k, none⟩ := fun k => hb.cell (by show w.heap.size + 1 + 1 < _; omega)
  have f1 : ∀ k, W'.frozen? ⟨w.heap.size + 1, k, none⟩ = W.frozen? ⟨w.heap.size + 1, k, none⟩ := fun k => hb.frozen (by show w.heap.size + 1 < _; omega)
  have f2 : ∀ k, W'.frozen? ⟨w.heap.size + 1 + 1, k, none⟩ = W.frozen? ⟨w.heap.size + 1 + 1, k, none⟩ := fun k => hb.frozen (by show w.heap.size + 1 + 1 < _; omega)
  exact ⟨belF_tr h.bel hb, by rw [c1, c1, c1, c1]; exact h.rc, by rw [c2, c2, c2, c2]; exact h.vc, by rw [f1, f1, f1, f1]; exact h.rf, by rw [f2, f2, f2, f2]; exact h.vf, by have := hb.size; omega⟩
theorem WtSt.made (w : World) (o : Obj) : WtSt w (((w.alloc o).alloc (.cells #[.int .u8 0, .int .u64 0, .int .i64 0, .int .i64 0] 34)).alloc (.cells #[.int .u8 0, .int .u64 0, .int .i64 0, .int .i64 0] 34)) := by
  have e1 : (w.alloc o).heap.size = w.heap.size + 1 := by simp
  have e2 : ((w.alloc o).alloc (.cells #[.int .u8 0, .int .u64 0, .int .i64 0, .int .i64 0] 34)).heap.size = w.heap.size + 1 + 1 := by simp
  have h1 := (new_val (w.alloc o)).out _ (belF_al (Below.refl _ _) (.cells #[.int .u8 0, .int .u64 0, .int .i64 0, .int .i64 0] 34))
  have h2 := (new_val ((w.alloc o).alloc (.cells #[.int .u8 0, .int .u64 0, .int .i64 0, .int .i64 0] 34))).out _ (Below.refl _ _)
  rw [e1] at h1
  rw [e2] at h2
  exact ⟨belF_al (belF_al (belF_al (Below.refl _ _) _) _) _, h1.1, h2.1, h1.2, h2.2, by simp⟩
theorem cell_idem (w : World) (p : Addr) (u : Value) (h : w.cell? p = some u) (q : Addr) : (w.setCell p u).cell? q = w.cell? q := by
  by_cases e : q = p
  · subst e; rw [World.cell?_setCell_same w _ _ h, h]
  · exact World.cell?_setCell_other w _ _ _ (fun x => e (by first | exact x | exact x.symm))
theorem four_idem (w : World) (b : Nat) (u0 u1 u2 u3 : Value) (h0 : w.cell? ⟨b, 0, none⟩ = some u0) (h1 : w.cell? ⟨b, 1, none⟩ = some u1) (h2 : w.cell? ⟨b, 2, none⟩ = some u2) (h3 : w.cell? ⟨b, 3, none⟩ = some u3) (q : Addr) :
    ((((w.setCell ⟨b, 0, none⟩ u0).setCell ⟨b, 1, none⟩ u1).setCell ⟨b, 2, none⟩ u2).setCell ⟨b, 3, none⟩ u3).cell? q = w.cell? q := by
  have e0 := cell_idem w ⟨b, 0, none⟩ u0 h0
  generalize w.setCell ⟨b, 0, none⟩ u0 = W0 at e0 ⊢
  have e1 := cell_idem W0 ⟨b, 1, none⟩ u1 (by rw [e0]; exact h1)
  generalize W0.setCell ⟨b, 1, none⟩ u1 = W1 at e1 ⊢
  have e2 := cell_idem W1 ⟨b, 2, none⟩ u2 (by rw [e1, e0]; exact h2)
  generalize W1.setCell ⟨b, 2, none⟩ u2 = W2 at e2 ⊢
  rw [cell_idem W2 ⟨b, 3, none⟩ u3 (by rw [e2, e1, e0]; exact h3), e2, e1, e0]
theorem four_other (w : World) (b b' k : Nat) (u0 u1 u2 u3 : Value) (h : b ≠ b') :
    ((((w.setCell ⟨b, 0, none⟩ u0).setCell ⟨b, 1, none⟩ u1).setCell ⟨b, 2, none⟩ u2).setCell ⟨b, 3, none⟩ u3).cell? ⟨b', k, none⟩ = w.cell? ⟨b', k, none⟩ := by
  have o : ∀ (w : World) (i : Nat) (v : Value), (w.setCell ⟨b, i, none⟩ v).cell? ⟨b', k, none⟩ = w.cell? ⟨b', k, none⟩ := fun w i v => World.cell?_setCell_other w _ _ _ (fun e => h (by injection e))
  rw [o, o, o, o]
theorem AfRow.keepC {w w' : World} {B n : Nat} {A : Option Addr} {zs : List AfS} (h : AfRow w B A n zs) (hk : ∀ p : Addr, w'.cell? p = w.cell? p) : AfRow w' B A n zs :=
  ⟨RowOf.keep h.row (fun p _ => hk p), fun z hz => ⟨RowOf.keep (h.each z hz).vals (fun p _ => hk p), (h.each z hz).fn, (h.each z hz).cap, (h.each z hz).max, (h.each z hz).vin⟩⟩
theorem AfRow.idem4 {w : World} {n : Nat} {A : Option Addr} {zs : List AfS} (h : AfRow w w.heap.size A n zs) (b : Nat) (u0 u1 u2 u3 : Value) (h0 : w.cell? ⟨b, 0, none⟩ = some u0) (h1 : w.cell? ⟨b, 1, none⟩ = some u1) (h2 : w.cell? ⟨b, 2, none⟩ = some u2) (h3 : w.cell? ⟨b, 3, none⟩ = some u3) :
    AfRow ((((w.setCell ⟨b, 0, none⟩ u0).setCell ⟨b, 1, none⟩ u1).setCell ⟨b, 2, none⟩ u2).setCell ⟨b, 3, none⟩ u3).drew ((((w.setCell ⟨b, 0, none⟩ u0).setCell ⟨b, 1, none⟩ u1).setCell ⟨b, 2, none⟩ u2).setCell ⟨b, 3, none⟩ u3).drew.heap.size A n zs := by
  have hz : ((((w.setCell ⟨b, 0, none⟩ u0).setCell ⟨b, 1, none⟩ u1).setCell ⟨b, 2, none⟩ u2).setCell ⟨b, 3, none⟩ u3).heap.size = w.heap.size := by simp
  have hq := four_idem w b u0 u1 u2 u3 h0 h1 h2 h3
  generalize ((((w.setCell ⟨b, 0, none⟩ u0).setCell ⟨b, 1, none⟩ u1).setCell ⟨b, 2, none⟩ u2).setCell ⟨b, 3, none⟩ u3) = S at hz hq ⊢
  have h5 : AfRow S w.heap.size A n zs := h.keepC hq
  rw [← hz] at h5
  exact h5.keepC (w' := S.drew) (fun p => rfl)
section
variable {w : World} {A : Option Addr} {n c : Nat} {zs : List AfS} {A2 : Option Addr} {n2 c2 lo' hi' : Nat} {ys : List FnV}
set_option maxRecDepth 100000 in
set_option maxHeartbeats 4000000 in
theorem ref_want0 (hs : AfRow w w.heap.size A n zs) (hn : n ≤ 1000000) (hc : n ≤ c ∧ c ≤ 9223372036854775807) (hr : FnRow w lo' hi' A2 n2 ys) (hhi : hi' ≤ w.heap.size) (hn2 : n2 ≤ 1000) (hl : ∀ x ∈ vals ys, 0 ≤ x.1 ∧ x.1 ≤ 1000) (a : A19) (ha : A19Ok w w.heap.size a) (hm : a.n ≤ 1000) (hkd : a.kind = 0) :
    Calls Tryz.prog 13 #[.slice A2 n2 c2, .slice A n c, .agg (a19cells a).toArray] w (ResWt w (mdWant (vals ys) (afvals zs) a)) := by
  have HC : Hid (∀ X, X = ((w.alloc (.cells (a19cells a).toArray 37)).alloc (.cells #[.int .u8 0, .int .u64 0, .int .i64 0, .int .i64 0] 34)).alloc (.cells #[.int .u8 0, .int .u64 0, .int .i64 0, .int .i64 0] 34) → ∀ W, Below X.heap.size X W → ∀ k u, (a19cells a)[k]? = some u → W.cell? ⟨w.heap.size, k, none⟩ = some u) := hidb (fun X e W hb k u hu => by
    rw [hb.cell (by show w.heap.size < _; rw [e]; simp; omega), e, World.cell?_alloc_lt _ _ _ (by simp; omega), World.cell?_alloc_lt _ _ _ (by simp)]
    simpa using hu)
  obtain ⟨kind, f, d, i, ⟨vk, vb, vd, vi⟩, bits, op, A3, n3, c3, ks⟩ := a
  obtain ⟨_, hf, hd, hi, hv, hbits, hop, hk, hks, hk1, hk2, hk3⟩ := ha
  unfold a19cells at *
  simp only at *
  subst hkd
  obtain ⟨X, hX⟩ : ∃ X, X = ((w.alloc (.cells #[.int .i64 0, .int .i64 f, .int .i64 d, .int .i64 i, .int .u8 (vk : Int), .int .u64 (vb : Int), .int .i64 vd, .int .i64 vi, .int .u64 (bits : Int), .int .u8 (op : Int), .slice A3 n3 c3] 37)).alloc (.cells #[.int .u8 0, .int .u64 0, .int .i64 0, .int .i64 0] 34)).alloc (.cells #[.int .u8 0, .int .u64 0, .int .i64 0, .int .i64 0] 34) := ⟨_, rfl⟩
  have st0 : WtSt w X := by rw [hX]; exact WtSt.made _ _
  have hbX := st0.bel
  have hsX := hs.step hbX
  have hrX := hr.below (hbX.mono hhi)
  have hhX := Nat.le_trans hhi hbX.size
  have hkX := (hk.below hbX).more hbX.size
  have HST := hidb st0
  have HXX := hidb hX
  have cc : Calls Tryz.prog 30 #[.slice A2 n2 c2, .slice A n c, .int .i64 f] X (ResA X (mdCall (vals ys) (afvals zs) f)) := ref_mdcall (c := c) (c2 := c2) hsX hn hc hrX hhX hn2 hl f hf
  obtain ⟨r, hrr⟩ : ∃ r, mdCall (vals ys) (afvals zs) f = r := ⟨_, rfl⟩
  have hww : mdWant (vals ys) (afvals zs) ⟨0, f, d, i, ⟨vk, vb, vd, vi⟩, bits, op, A3, n3, c3, ks⟩ = (r.1, vl0, r.2) := by rw [← hrr]; unfold mdWant; simp
  rw [hrr] at cc
  rw [hww]
  have x1 := HC.out _ rfl X (by rw [hX]; exact Below.refl _ _) 1 _ rfl
  clear hs hr hl hsX hrX hkX hk hks HC st0 hbX hX hrr hww
  go_enter Tryz.func13, Tryz.ntmps13
  go_wp2_with (first | (go_at_call 30; rw [← HXX.out]; (with_reducible refine cc.mono ?_); rintro e w1 ⟨A4, n4, c4, zs4, rfl, r1, r2, r3, r4, hb1⟩; have R1 := hidb r1; have R2 := hidb r2; have ST := hidb (HST.out.step hb1); clear r1 r2 hb1; obtain ⟨v0, v1, v2, v3⟩ := ST.out.vc; obtain ⟨z0, z1, z2, z3⟩ := ST.out.rc; obtain ⟨f0, f1, f2, f3⟩ := ST.out.rf))
  go_region
  go_wp2
  obtain ⟨s0, s1, s2, s3⟩ := four_cellsV _ (w.heap.size + 1) (.int .u8 0) (.int .u64 0) (.int .i64 0) (.int .i64 0) _ _ _ _ z0 z1 z2 z3
  exact bodyPost_ret (v := .tuple #[.slice A4 n4 c4, .agg #[.int .u8 0, .int .u64 0, .int .i64 0, .int .i64 0], .int .i64 r.2]) (by simp [results, Tryz.results13, go_sem, s0, s1, s2, s3]) rfl ⟨A4, n4, c4, zs4, rfl, R1.out.idem4 _ _ _ _ _ z0 z1 z2 z3, R2.out, r3, r4, belF_dr (bel_set4 ST.out.bel (by omega) _ _ _ _)⟩
set_option maxRecDepth 100000 in
set_option maxHeartbeats 4000000 in
theorem ref_want1 (hs : AfRow w w.heap.size A n zs) (hn : n ≤ 1000000) (hc : n ≤ c ∧ c ≤ 9223372036854775807) (hr : FnRow w lo' hi' A2 n2 ys) (hhi : hi' ≤ w.heap.size) (hn2 : n2 ≤ 1000) (hl : ∀ x ∈ vals ys, 0 ≤ x.1 ∧ x.1 ≤ 1000) (a : A19) (ha : A19Ok w w.heap.size a) (hm : a.n ≤ 1000) (hkd : a.kind = 1) :
    Calls Tryz.prog 13 #[.slice A2 n2 c2, .slice A n c, .agg (a19cells a).toArray] w (ResWt w (mdWant (vals ys) (afvals zs) a)) := by
  have HC : Hid (∀ X, X = ((w.alloc (.cells (a19cells a).toArray 37)).alloc (.cells #[.int .u8 0, .int .u64 0, .int .i64 0, .int .i64 0] 34)).alloc (.cells #[.int .u8 0, .int .u64 0, .int .i64 0, .int .i64 0] 34) → ∀ W, Below X.heap.size X W → ∀ k u, (a19cells a)[k]? = some u → W.cell? ⟨w.heap.size, k, none⟩ = some u) := hidb (fun X e W hb k u hu => by
    rw [hb.cell (by show w.heap.size < _; rw [e]; simp; omega), e, World.cell?_alloc_lt _ _ _ (by simp; omega), World.cell?_alloc_lt _ _ _ (by simp)]
    simpa using hu)
  obtain ⟨kind, f, d, i, ⟨vk, vb, vd, vi⟩, bits, op, A3, n3, c3, ks⟩ := a
  obtain ⟨_, hf, hd, hi, hv, hbits, hop, hk, hks, hk1, hk2, hk3⟩ := ha
  unfold a19cells at *
  simp only at *
  subst hkd
  obtain ⟨X, hX⟩ : ∃ X, X = ((w.alloc (.cells #[.int .i64 1, .int .i64 f, .int .i64 d, .int .i64 i, .int .u8 (vk : Int), .int .u64 (vb : Int), .int .i64 vd, .int .i64 vi, .int .u64 (bits : Int), .int .u8 (op : Int), .slice A3 n3 c3] 37)).alloc (.cells #[.int .u8 0, .int .u64 0, .int .i64 0, .int .i64 0] 34)).alloc (.cells #[.int .u8 0, .int .u64 0, .int .i64 0, .int .i64 0] 34) := ⟨_, rfl⟩
  have st0 : WtSt w X := by rw [hX]; exact WtSt.made _ _
  have hbX := st0.bel
  have hsX := hs.step hbX
  have hrX := hr.below (hbX.mono hhi)
  have hhX := Nat.le_trans hhi hbX.size
  have hkX := (hk.below hbX).more hbX.size
  have HST := hidb st0
  have HXX := hidb hX
  have cc : Calls Tryz.prog 31 #[.slice A2 n2 c2, .slice A n c] X (ResA X (mdReturn (vals ys) (afvals zs))) := ref_mdreturn (c := c) (c2 := c2) hsX hn hc hrX hhX hn2 hl 
  obtain ⟨r, hrr⟩ : ∃ r, mdReturn (vals ys) (afvals zs) = r := ⟨_, rfl⟩
  have hww : mdWant (vals ys) (afvals zs) ⟨1, f, d, i, ⟨vk, vb, vd, vi⟩, bits, op, A3, n3, c3, ks⟩ = (r.1, vl0, r.2) := by rw [← hrr]; unfold mdWant; simp
  rw [hrr] at cc
  rw [hww]
  clear hs hr hl hsX hrX hkX hk hks HC st0 hbX hX hrr hww
  go_enter Tryz.func13, Tryz.ntmps13
  go_wp2_with (first | (go_at_call 31; rw [← HXX.out]; (with_reducible refine cc.mono ?_); rintro e w1 ⟨A4, n4, c4, zs4, rfl, r1, r2, r3, r4, hb1⟩; have R1 := hidb r1; have R2 := hidb r2; have ST := hidb (HST.out.step hb1); clear r1 r2 hb1; obtain ⟨v0, v1, v2, v3⟩ := ST.out.vc; obtain ⟨z0, z1, z2, z3⟩ := ST.out.rc; obtain ⟨f0, f1, f2, f3⟩ := ST.out.rf))
  go_region
  go_wp2
  obtain ⟨s0, s1, s2, s3⟩ := four_cellsV _ (w.heap.size + 1) (.int .u8 0) (.int .u64 0) (.int .i64 0) (.int .i64 0) _ _ _ _ z0 z1 z2 z3
  exact bodyPost_ret (v := .tuple #[.slice A4 n4 c4, .agg #[.int .u8 0, .int .u64 0, .int .i64 0, .int .i64 0], .int .i64 r.2]) (by simp [results, Tryz.results13, go_sem, s0, s1, s2, s3]) rfl ⟨A4, n4, c4, zs4, rfl, R1.out.idem4 _ _ _ _ _ z0 z1 z2 z3, R2.out, r3, r4, belF_dr (bel_set4 ST.out.bel (by omega) _ _ _ _)⟩
set_option maxRecDepth 100000 in
set_option maxHeartbeats 4000000 in
theorem ref_want2 (hs : AfRow w w.heap.size A n zs) (hn : n ≤ 1000000) (hc : n ≤ c ∧ c ≤ 9223372036854775807) (hr : FnRow w lo' hi' A2 n2 ys) (hhi : hi' ≤ w.heap.size) (hn2 : n2 ≤ 1000) (hl : ∀ x ∈ vals ys, 0 ≤ x.1 ∧ x.1 ≤ 1000) (a : A19) (ha : A19Ok w w.heap.size a) (hm : a.n ≤ 1000) (hkd : a.kind = 2) :
    Calls Tryz.prog 13 #[.slice A2 n2 c2, .slice A n c, .agg (a19cells a).toArray] w (ResWt w (mdWant (vals ys) (afvals zs) a)) := by
  have HC : Hid (∀ X, X = ((w.alloc (.cells (a19cells a).toArray 37)).alloc (.cells #[.int .u8 0, .int .u64 0, .int .i64 0, .int .i64 0] 34)).alloc (.cells #[.int .u8 0, .int .u64 0, .int .i64 0, .int .i64 0] 34) → ∀ W, Below X.heap.size X W → ∀ k u, (a19cells a)[k]? = some u → W.cell? ⟨w.heap.size, k, none⟩ = some u) := hidb (fun X e W hb k u hu => by
    rw [hb.cell (by show w.heap.size < _; rw [e]; simp; omega), e, World.cell?_alloc_lt _ _ _ (by simp; omega), World.cell?_alloc_lt _ _ _ (by simp)]
    simpa using hu)
  obtain ⟨kind, f, d, i, ⟨vk, vb, vd, vi⟩, bits, op, A3, n3, c3, ks⟩ := a
  obtain ⟨_, hf, hd, hi, hv, hbits, hop, hk, hks, hk1, hk2, hk3⟩ := ha
  unfold a19cells at *
  simp only at *
  subst hkd
  obtain ⟨X, hX⟩ : ∃ X, X = ((w.alloc (.cells #[.int .i64 2, .int .i64 f, .int .i64 d, .int .i64 i, .int .u8 (vk : Int), .int .u64 (vb : Int), .int .i64 vd, .int .i64 vi, .int .u64 (bits : Int), .int .u8 (op : Int), .slice A3 n3 c3] 37)).alloc (.cells #[.int .u8 0, .int .u64 0, .int .i64 0, .int .i64 0] 34)).alloc (.cells #[.int .u8 0, .int .u64 0, .int .i64 0, .int .i64 0] 34) := ⟨_, rfl⟩
  have st0 : WtSt w X := by rw [hX]; exact WtSt.made _ _
  have hbX := st0.bel
  have hsX := hs.step hbX
  have hrX := hr.below (hbX.mono hhi)
  have hhX := Nat.le_trans hhi hbX.size
  have hkX := (hk.below hbX).more hbX.size
  have HST := hidb st0
  have HXX := hidb hX
  have cc : Calls Tryz.prog 32 #[.slice A2 n2 c2, .slice A n c, .int .i64 d, .int .i64 i, .agg #[.int .u8 (vk : Int), .int .u64 (vb : Int), .int .i64 vd, .int .i64 vi]] X (ResA X (mdSet (vals ys) (afvals zs) d i ⟨vk, vb, vd, vi⟩)) := ref_mdset (c := c) (c2 := c2) hsX hn hc hrX hhX hn2 hl d i hd hi ⟨vk, vb, vd, vi⟩ hv
  obtain ⟨r, hrr⟩ : ∃ r, mdSet (vals ys) (afvals zs) d i ⟨vk, vb, vd, vi⟩ = r := ⟨_, rfl⟩
  have hww : mdWant (vals ys) (afvals zs) ⟨2, f, d, i, ⟨vk, vb, vd, vi⟩, bits, op, A3, n3, c3, ks⟩ = (r.1, vl0, r.2) := by rw [← hrr]; unfold mdWant; simp
  rw [hrr] at cc
  rw [hww]
  have x2 := HC.out _ rfl X (by rw [hX]; exact Below.refl _ _) 2 _ rfl
  have x3 := HC.out _ rfl X (by rw [hX]; exact Below.refl _ _) 3 _ rfl
  have x4 := HC.out _ rfl X (by rw [hX]; exact Below.refl _ _) 4 _ rfl
  have x5 := HC.out _ rfl X (by rw [hX]; exact Below.refl _ _) 5 _ rfl
  have x6 := HC.out _ rfl X (by rw [hX]; exact Below.refl _ _) 6 _ rfl
  have x7 := HC.out _ rfl X (by rw [hX]; exact Below.refl _ _) 7 _ rfl
  clear hs hr hl hsX hrX hkX hk hks HC st0 hbX hX hrr hww
  go_enter Tryz.func13, Tryz.ntmps13
  go_wp2_with (first | (go_at_call 32; rw [← HXX.out]; (with_reducible refine cc.mono ?_); rintro e w1 ⟨A4, n4, c4, zs4, rfl, r1, r2, r3, r4, hb1⟩; have R1 := hidb r1; have R2 := hidb r2; have ST := hidb (HST.out.step hb1); clear r1 r2 hb1; obtain ⟨v0, v1, v2, v3⟩ := ST.out.vc; obtain ⟨z0, z1, z2, z3⟩ := ST.out.rc; obtain ⟨f0, f1, f2, f3⟩ := ST.out.rf))
  go_region
  go_wp2
  obtain ⟨s0, s1, s2, s3⟩ := four_cellsV _ (w.heap.size + 1) (.int .u8 0) (.int .u64 0) (.int .i64 0) (.int .i64 0) _ _ _ _ z0 z1 z2 z3
  exact bodyPost_ret (v := .tuple #[.slice A4 n4 c4, .agg #[.int .u8 0, .int .u64 0, .int .i64 0, .int .i64 0], .int .i64 r.2]) (by simp [results, Tryz.results13, go_sem, s0, s1, s2, s3]) rfl ⟨A4, n4, c4, zs4, rfl, R1.out.idem4 _ _ _ _ _ z0 z1 z2 z3, R2.out, r3, r4, belF_dr (bel_set4 ST.out.bel (by omega) _ _ _ _)⟩
set_option maxRecDepth 100000 in
set_option maxHeartbeats 4000000 in
theorem ref_want5 (hs : AfRow w w.heap.size A n zs) (hn : n ≤ 1000000) (hc : n ≤ c ∧ c ≤ 9223372036854775807) (hr : FnRow w lo' hi' A2 n2 ys) (hhi : hi' ≤ w.heap.size) (hn2 : n2 ≤ 1000) (hl : ∀ x ∈ vals ys, 0 ≤ x.1 ∧ x.1 ≤ 1000) (a : A19) (ha : A19Ok w w.heap.size a) (hm : a.n ≤ 1000) (hkd : a.kind = 5) :
    Calls Tryz.prog 13 #[.slice A2 n2 c2, .slice A n c, .agg (a19cells a).toArray] w (ResWt w (mdWant (vals ys) (afvals zs) a)) := by
  have HC : Hid (∀ X, X = ((w.alloc (.cells (a19cells a).toArray 37)).alloc (.cells #[.int .u8 0, .int .u64 0, .int .i64 0, .int .i64 0] 34)).alloc (.cells #[.int .u8 0, .int .u64 0, .int .i64 0, .int .i64 0] 34) → ∀ W, Below X.heap.size X W → ∀ k u, (a19cells a)[k]? = some u → W.cell? ⟨w.heap.size, k, none⟩ = some u) := hidb (fun X e W hb k u hu => by
    rw [hb.cell (by show w.heap.size < _; rw [e]; simp; omega), e, World.cell?_alloc_lt _ _ _ (by simp; omega), World.cell?_alloc_lt _ _ _ (by simp)]
    simpa using hu)
  obtain ⟨kind, f, d, i, ⟨vk, vb, vd, vi⟩, bits, op, A3, n3, c3, ks⟩ := a
  obtain ⟨_, hf, hd, hi, hv, hbits, hop, hk, hks, hk1, hk2, hk3⟩ := ha
  unfold a19cells at *
  simp only at *
  subst hkd
  obtain ⟨X, hX⟩ : ∃ X, X = ((w.alloc (.cells #[.int .i64 5, .int .i64 f, .int .i64 d, .int .i64 i, .int .u8 (vk : Int), .int .u64 (vb : Int), .int .i64 vd, .int .i64 vi, .int .u64 (bits : Int), .int .u8 (op : Int), .slice A3 n3 c3] 37)).alloc (.cells #[.int .u8 0, .int .u64 0, .int .i64 0, .int .i64 0] 34)).alloc (.cells #[.int .u8 0, .int .u64 0, .int .i64 0, .int .i64 0] 34) := ⟨_, rfl⟩
  have st0 : WtSt w X := by rw [hX]; exact WtSt.made _ _
  have hbX := st0.bel
  have hsX := hs.step hbX
  have hrX := hr.below (hbX.mono hhi)
  have hhX := Nat.le_trans hhi hbX.size
  have hkX := (hk.below hbX).more hbX.size
  have HST := hidb st0
  have HXX := hidb hX
  have cc : Calls Tryz.prog 35 #[.slice A2 n2 c2, .slice A n c, .int .i64 d, .int .i64 i, .int .u64 (bits : Int)] X (ResA X (mdWrite (vals ys) (afvals zs) d i bits)) := ref_mdwrite (c := c) (c2 := c2) hsX hn hc hrX hhX hn2 hl d i hd hi bits hbits
  obtain ⟨r, hrr⟩ : ∃ r, mdWrite (vals ys) (afvals zs) d i bits = r := ⟨_, rfl⟩
  have hww : mdWant (vals ys) (afvals zs) ⟨5, f, d, i, ⟨vk, vb, vd, vi⟩, bits, op, A3, n3, c3, ks⟩ = (r.1, vl0, r.2) := by rw [← hrr]; unfold mdWant; simp
  rw [hrr] at cc
  rw [hww]
  have x2 := HC.out _ rfl X (by rw [hX]; exact Below.refl _ _) 2 _ rfl
  have x3 := HC.out _ rfl X (by rw [hX]; exact Below.refl _ _) 3 _ rfl
  have x8 := HC.out _ rfl X (by rw [hX]; exact Below.refl _ _) 8 _ rfl
  clear hs hr hl hsX hrX hkX hk hks HC st0 hbX hX hrr hww
  go_enter Tryz.func13, Tryz.ntmps13
  go_wp2_with (first | (go_at_call 35; rw [← HXX.out]; (with_reducible refine cc.mono ?_); rintro e w1 ⟨A4, n4, c4, zs4, rfl, r1, r2, r3, r4, hb1⟩; have R1 := hidb r1; have R2 := hidb r2; have ST := hidb (HST.out.step hb1); clear r1 r2 hb1; obtain ⟨v0, v1, v2, v3⟩ := ST.out.vc; obtain ⟨z0, z1, z2, z3⟩ := ST.out.rc; obtain ⟨f0, f1, f2, f3⟩ := ST.out.rf))
  go_region
  go_wp2
  obtain ⟨s0, s1, s2, s3⟩ := four_cellsV _ (w.heap.size + 1) (.int .u8 0) (.int .u64 0) (.int .i64 0) (.int .i64 0) _ _ _ _ z0 z1 z2 z3
  exact bodyPost_ret (v := .tuple #[.slice A4 n4 c4, .agg #[.int .u8 0, .int .u64 0, .int .i64 0, .int .i64 0], .int .i64 r.2]) (by simp [results, Tryz.results13, go_sem, s0, s1, s2, s3]) rfl ⟨A4, n4, c4, zs4, rfl, R1.out.idem4 _ _ _ _ _ z0 z1 z2 z3, R2.out, r3, r4, belF_dr (bel_set4 ST.out.bel (by omega) _ _ _ _)⟩
set_option maxRecDepth 100000 in
set_option maxHeartbeats 4000000 in
theorem ref_want6 (hs : AfRow w w.heap.size A n zs) (hn : n ≤ 1000000) (hc : n ≤ c ∧ c ≤ 9223372036854775807) (hr : FnRow w lo' hi' A2 n2 ys) (hhi : hi' ≤ w.heap.size) (hn2 : n2 ≤ 1000) (hl : ∀ x ∈ vals ys, 0 ≤ x.1 ∧ x.1 ≤ 1000) (a : A19) (ha : A19Ok w w.heap.size a) (hm : a.n ≤ 1000) (hkd : a.kind ≠ 0 ∧ a.kind ≠ 1 ∧ a.kind ≠ 2 ∧ a.kind ≠ 3 ∧ a.kind ≠ 4 ∧ a.kind ≠ 5) :
    Calls Tryz.prog 13 #[.slice A2 n2 c2, .slice A n c, .agg (a19cells a).toArray] w (ResWt w (mdWant (vals ys) (afvals zs) a)) := by
  have HC : Hid (∀ X, X = ((w.alloc (.cells (a19cells a).toArray 37)).alloc (.cells #[.int .u8 0, .int .u64 0, .int .i64 0, .int .i64 0] 34)).alloc (.cells #[.int .u8 0, .int .u64 0, .int .i64 0, .int .i64 0] 34) → ∀ W, Below X.heap.size X W → ∀ k u, (a19cells a)[k]? = some u → W.cell? ⟨w.heap.size, k, none⟩ = some u) := hidb (fun X e W hb k u hu => by
    rw [hb.cell (by show w.heap.size < _; rw [e]; simp; omega), e, World.cell?_alloc_lt _ _ _ (by simp; omega), World.cell?_alloc_lt _ _ _ (by simp)]
    simpa using hu)
  obtain ⟨kind, f, d, i, ⟨vk, vb, vd, vi⟩, bits, op, A3, n3, c3, ks⟩ := a
  obtain ⟨_, hf, hd, hi, hv, hbits, hop, hk, hks, hk1, hk2, hk3⟩ := ha
  unfold a19cells at *
  simp only at *
  obtain ⟨k0, k1, k2, k3, k4, k5⟩ := hkd
  obtain ⟨X, hX⟩ : ∃ X, X = ((w.alloc (.cells #[.int .i64 kind, .int .i64 f, .int .i64 d, .int .i64 i, .int .u8 (vk : Int), .int .u64 (vb : Int), .int .i64 vd, .int .i64 vi, .int .u64 (bits : Int), .int .u8 (op : Int), .slice A3 n3 c3] 37)).alloc (.cells #[.int .u8 0, .int .u64 0, .int .i64 0, .int .i64 0] 34)).alloc (.cells #[.int .u8 0, .int .u64 0, .int .i64 0, .int .i64 0] 34) := ⟨_, rfl⟩
  have st0 : WtSt w X := by rw [hX]; exact WtSt.made _ _
  have hbX := st0.bel
  have hsX := hs.step hbX
  have hrX := hr.below (hbX.mono hhi)
  have hhX := Nat.le_trans hhi hbX.size
  have hkX := (hk.below hbX).more hbX.size
  have HST := hidb st0
  have HXX := hidb hX
  have cc : Calls Tryz.prog 36 #[.slice A2 n2 c2, .slice A n c, .int .u8 (op : Int), .int .i64 d, .slice A3 n3 c3] X (ResA X (mdCalc (vals ys) (afvals zs) op d ks)) := ref_mdcalc (c := c) (c2 := c2) hsX hn hc hrX hhX hn2 hl op hop d hd hkX (by omega) hks
  obtain ⟨r, hrr⟩ : ∃ r, mdCalc (vals ys) (afvals zs) op d ks = r := ⟨_, rfl⟩
  have hww : mdWant (vals ys) (afvals zs) ⟨kind, f, d, i, ⟨vk, vb, vd, vi⟩, bits, op, A3, n3, c3, ks⟩ = (r.1, vl0, r.2) := by rw [← hrr]; unfold mdWant; simp [k0, k1, k2, k3, k4, k5]
  rw [hrr] at cc
  rw [hww]
  have q0 : (kind == 0) = false := by simpa using k0
  have q1 : (kind == 1) = false := by simpa using k1
  have q2 : (kind == 2) = false := by simpa using k2
  have q3 : (kind == 3) = false := by simpa using k3
  have q4 : (kind == 4) = false := by simpa using k4
  have q5 : (kind == 5) = false := by simpa using k5
  have x9 := HC.out _ rfl X (by rw [hX]; exact Below.refl _ _) 9 _ rfl
  have x2 := HC.out _ rfl X (by rw [hX]; exact Below.refl _ _) 2 _ rfl
  have x10 := HC.out _ rfl X (by rw [hX]; exact Below.refl _ _) 10 _ rfl
  clear hs hr hl hsX hrX hkX hk hks HC st0 hbX hX hrr hww
  go_enter Tryz.func13, Tryz.ntmps13
  go_wp2_with (first | (go_at_call 36; rw [← HXX.out]; (with_reducible refine cc.mono ?_); rintro e w1 ⟨A4, n4, c4, zs4, rfl, r1, r2, r3, r4, hb1⟩; have R1 := hidb r1; have R2 := hidb r2; have ST := hidb (HST.out.step hb1); clear r1 r2 hb1; obtain ⟨v0, v1, v2, v3⟩ := ST.out.vc; obtain ⟨z0, z1, z2, z3⟩ := ST.out.rc; obtain ⟨f0, f1, f2, f3⟩ := ST.out.rf))
  go_region
  go_wp2
  obtain ⟨s0, s1, s2, s3⟩ := four_cellsV _ (w.heap.size + 1) (.int .u8 0) (.int .u64 0) (.int .i64 0) (.int .i64 0) _ _ _ _ z0 z1 z2 z3
  exact bodyPost_ret (v := .tuple #[.slice A4 n4 c4, .agg #[.int .u8 0, .int .u64 0, .int .i64 0, .int .i64 0], .int .i64 r.2]) (by simp [results, Tryz.results13, go_sem, s0, s1, s2, s3]) rfl ⟨A4, n4, c4, zs4, rfl, R1.out.idem4 _ _ _ _ _ z0 z1 z2 z3, R2.out, r3, r4, belF_dr (bel_set4 ST.out.bel (by omega) _ _ _ _)⟩
set_option maxRecDepth 100000 in
set_option maxHeartbeats 4000000 in
theorem ref_want3 (hs : AfRow w w.heap.size A n zs) (hn : n ≤ 1000000) (hc : n ≤ c ∧ c ≤ 9223372036854775807) (hr : FnRow w lo' hi' A2 n2 ys) (hhi : hi' ≤ w.heap.size) (hn2 : n2 ≤ 1000) (hl : ∀ x ∈ vals ys, 0 ≤ x.1 ∧ x.1 ≤ 1000) (a : A19) (ha : A19Ok w w.heap.size a) (hm : a.n ≤ 1000) (hkd : a.kind = 3) :
    Calls Tryz.prog 13 #[.slice A2 n2 c2, .slice A n c, .agg (a19cells a).toArray] w (ResWt w (mdWant (vals ys) (afvals zs) a)) := by
  have HC : Hid (∀ X, X = ((w.alloc (.cells (a19cells a).toArray 37)).alloc (.cells #[.int .u8 0, .int .u64 0, .int .i64 0, .int .i64 0] 34)).alloc (.cells #[.int .u8 0, .int .u64 0, .int .i64 0, .int .i64 0] 34) → ∀ W, Below X.heap.size X W → ∀ k u, (a19cells a)[k]? = some u → W.cell? ⟨w.heap.size, k, none⟩ = some u) := hidb (fun X e W hb k u hu => by
    rw [hb.cell (by show w.heap.size < _; rw [e]; simp; omega), e, World.cell?_alloc_lt _ _ _ (by simp; omega), World.cell?_alloc_lt _ _ _ (by simp)]
    simpa using hu)
  obtain ⟨kind, f, d, i, ⟨vk, vb, vd, vi⟩, bits, op, A3, n3, c3, ks⟩ := a
  obtain ⟨_, hf, hd, hi, hv, hbits, hop, hk, hks, hk1, hk2, hk3⟩ := ha
  unfold a19cells at *
  simp only at *
  subst hkd
  obtain ⟨X, hX⟩ : ∃ X, X = ((w.alloc (.cells #[.int .i64 3, .int .i64 f, .int .i64 d, .int .i64 i, .int .u8 (vk : Int), .int .u64 (vb : Int), .int .i64 vd, .int .i64 vi, .int .u64 (bits : Int), .int .u8 (op : Int), .slice A3 n3 c3] 37)).alloc (.cells #[.int .u8 0, .int .u64 0, .int .i64 0, .int .i64 0] 34)).alloc (.cells #[.int .u8 0, .int .u64 0, .int .i64 0, .int .i64 0] 34) := ⟨_, rfl⟩
  have st0 : WtSt w X := by rw [hX]; exact WtSt.made _ _
  have hbX := st0.bel
  have hsX := hs.step hbX
  have hrX := hr.below (hbX.mono hhi)
  have hhX := Nat.le_trans hhi hbX.size
  have hkX := (hk.below hbX).more hbX.size
  have HST := hidb st0
  have HXX := hidb hX
  have cc : Calls Tryz.prog 33 #[.slice A2 n2 c2, .slice A n c, .int .i64 d, .int .i64 i] X (ResVl X (mdGet (vals ys) (afvals zs) d i)) := ref_mdget (c := c) (c2 := c2) hsX hn hrX hhX hn2 hl d i hd hi
  obtain ⟨⟨⟨gk, gb, gd, gi⟩, no⟩, hrr⟩ : ∃ r, mdGet (vals ys) (afvals zs) d i = r := ⟨_, rfl⟩
  have hww : mdWant (vals ys) (afvals zs) ⟨3, f, d, i, ⟨vk, vb, vd, vi⟩, bits, op, A3, n3, c3, ks⟩ = (afvals zs, ⟨gk, gb, gd, gi⟩, no) := by unfold mdWant; simp [hrr]
  rw [hrr] at cc
  unfold ResVl vlC at cc
  simp only at cc
  rw [hww]
  have x2 := HC.out _ rfl X (by rw [hX]; exact Below.refl _ _) 2 _ rfl
  have x3 := HC.out _ rfl X (by rw [hX]; exact Below.refl _ _) 3 _ rfl
  have HS := hidb hs
  clear hs hr hl hsX hrX hkX hk hks HC st0 hbX hX hrr hww
  go_enter Tryz.func13, Tryz.ntmps13
  go_wp2_with (first | (go_at_call 33; rw [← HXX.out]; (with_reducible refine cc.mono ?_); rintro e w1 ⟨rfl, hb1⟩; have ST := hidb (HST.out.step hb1); clear hb1; obtain ⟨v0, v1, v2, v3⟩ := ST.out.vc; obtain ⟨z0, z1, z2, z3⟩ := ST.out.rc; obtain ⟨f0, f1, f2, f3⟩ := ST.out.rf; obtain ⟨g0, g1, g2, g3⟩ := ST.out.vf))
  go_region
  go_wp2
  have ho := fun k => four_other w1 (w.heap.size + 1 + 1) (w.heap.size + 1) k (.int .u8 (gk : Int)) (.int .u64 (gb : Int)) (.int .i64 gd) (.int .i64 gi) (by omega)
  obtain ⟨s0, s1, s2, s3⟩ := four_cellsV _ (w.heap.size + 1) (.int .u8 (gk : Int)) (.int .u64 (gb : Int)) (.int .i64 gd) (.int .i64 gi) _ _ _ _ ((ho 0).trans z0) ((ho 1).trans z1) ((ho 2).trans z2) ((ho 3).trans z3)
  have hb := belF_dr (bel_set4 (b := w.heap.size + 1) (bel_set4 (b := w.heap.size + 1 + 1) ST.out.bel (by omega) (.int .u8 (gk : Int)) (.int .u64 (gb : Int)) (.int .i64 gd) (.int .i64 gi)) (by omega) (.int .u8 (gk : Int)) (.int .u64 (gb : Int)) (.int .i64 gd) (.int .i64 gi))
  exact bodyPost_ret (v := .tuple #[.slice A n c, .agg #[.int .u8 (gk : Int), .int .u64 (gb : Int), .int .i64 gd, .int .i64 gi], .int .i64 no]) (by simp [results, Tryz.results13, go_sem, s0, s1, s2, s3]) rfl ⟨A, n, c, zs, rfl, HS.out.step hb, rfl, hc.1, hc.2, hb⟩
set_option maxRecDepth 100000 in
set_option maxHeartbeats 4000000 in
theorem ref_want4 (hs : AfRow w w.heap.size A n zs) (hn : n ≤ 1000000) (hc : n ≤ c ∧ c ≤ 9223372036854775807) (hr : FnRow w lo' hi' A2 n2 ys) (hhi : hi' ≤ w.heap.size) (hn2 : n2 ≤ 1000) (hl : ∀ x ∈ vals ys, 0 ≤ x.1 ∧ x.1 ≤ 1000) (a : A19) (ha : A19Ok w w.heap.size a) (hm : a.n ≤ 1000) (hkd : a.kind = 4) :
    Calls Tryz.prog 13 #[.slice A2 n2 c2, .slice A n c, .agg (a19cells a).toArray] w (ResWt w (mdWant (vals ys) (afvals zs) a)) := by
  have HC : Hid (∀ X, X = ((w.alloc (.cells (a19cells a).toArray 37)).alloc (.cells #[.int .u8 0, .int .u64 0, .int .i64 0, .int .i64 0] 34)).alloc (.cells #[.int .u8 0, .int .u64 0, .int .i64 0, .int .i64 0] 34) → ∀ W, Below X.heap.size X W → ∀ k u, (a19cells a)[k]? = some u → W.cell? ⟨w.heap.size, k, none⟩ = some u) := hidb (fun X e W hb k u hu => by
    rw [hb.cell (by show w.heap.size < _; rw [e]; simp; omega), e, World.cell?_alloc_lt _ _ _ (by simp; omega), World.cell?_alloc_lt _ _ _ (by simp)]
    simpa using hu)
  obtain ⟨kind, f, d, i, ⟨vk, vb, vd, vi⟩, bits, op, A3, n3, c3, ks⟩ := a
  obtain ⟨_, hf, hd, hi, hv, hbits, hop, hk, hks, hk1, hk2, hk3⟩ := ha
  unfold a19cells at *
  simp only at *
  subst hkd
  obtain ⟨X, hX⟩ : ∃ X, X = ((w.alloc (.cells #[.int .i64 4, .int .i64 f, .int .i64 d, .int .i64 i, .int .u8 (vk : Int), .int .u64 (vb : Int), .int .i64 vd, .int .i64 vi, .int .u64 (bits : Int), .int .u8 (op : Int), .slice A3 n3 c3] 37)).alloc (.cells #[.int .u8 0, .int .u64 0, .int .i64 0, .int .i64 0] 34)).alloc (.cells #[.int .u8 0, .int .u64 0, .int .i64 0, .int .i64 0] 34) := ⟨_, rfl⟩
  have st0 : WtSt w X := by rw [hX]; exact WtSt.made _ _
  have hbX := st0.bel
  have hsX := hs.step hbX
  have hrX := hr.below (hbX.mono hhi)
  have hhX := Nat.le_trans hhi hbX.size
  have hkX := (hk.below hbX).more hbX.size
  have HST := hidb st0
  have HXX := hidb hX
  have cc : Calls Tryz.prog 34 #[.slice A2 n2 c2, .slice A n c, .int .i64 d, .int .i64 i] X (ResVl X (mdLoad (vals ys) (afvals zs) d i)) := ref_mdload (c := c) (c2 := c2) hsX hn hrX hhX hn2 hl d i hd hi
  obtain ⟨⟨⟨gk, gb, gd, gi⟩, no⟩, hrr⟩ : ∃ r, mdLoad (vals ys) (afvals zs) d i = r := ⟨_, rfl⟩
  have hww : mdWant (vals ys) (afvals zs) ⟨4, f, d, i, ⟨vk, vb, vd, vi⟩, bits, op, A3, n3, c3, ks⟩ = (afvals zs, ⟨gk, gb, gd, gi⟩, no) := by unfold mdWant; simp [hrr]
  rw [hrr] at cc
  unfold ResVl vlC at cc
  simp only at cc
  rw [hww]
  have x2 := HC.out _ rfl X (by rw [hX]; exact Below.refl _ _) 2 _ rfl
  have x3 := HC.out _ rfl X (by rw [hX]; exact Below.refl _ _) 3 _ rfl
  have HS := hidb hs
  clear hs hr hl hsX hrX hkX hk hks HC st0 hbX hX hrr hww
  go_enter Tryz.func13, Tryz.ntmps13
  go_wp2_with (first | (go_at_call 34; rw [← HXX.out]; (with_reducible refine cc.mono ?_); rintro e w1 ⟨rfl, hb1⟩; have ST := hidb (HST.out.step hb1); clear hb1; obtain ⟨v0, v1, v2, v3⟩ := ST.out.vc; obtain ⟨z0, z1, z2, z3⟩ := ST.out.rc; obtain ⟨f0, f1, f2, f3⟩ := ST.out.rf; obtain ⟨g0, g1, g2, g3⟩ := ST.out.vf))
  go_region
  go_wp2
  have ho := fun k => four_other w1 (w.heap.size + 1 + 1) (w.heap.size + 1) k (.int .u8 (gk : Int)) (.int .u64 (gb : Int)) (.int .i64 gd) (.int .i64 gi) (by omega)
  obtain ⟨s0, s1, s2, s3⟩ := four_cellsV _ (w.heap.size + 1) (.int .u8 (gk : Int)) (.int .u64 (gb : Int)) (.int .i64 gd) (.int .i64 gi) _ _ _ _ ((ho 0).trans z0) ((ho 1).trans z1) ((ho 2).trans z2) ((ho 3).trans z3)
  have hb := belF_dr (bel_set4 (b := w.heap.size + 1) (bel_set4 (b := w.heap.size + 1 + 1) ST.out.bel (by omega) (.int .u8 (gk : Int)) (.int .u64 (gb : Int)) (.int .i64 gd) (.int .i64 gi)) (by omega) (.int .u8 (gk : Int)) (.int .u64 (gb : Int)) (.int .i64 gd) (.int .i64 gi))
  exact bodyPost_ret (v := .tuple #[.slice A n c, .agg #[.int .u8 (gk : Int), .int .u64 (gb : Int), .int .i64 gd, .int .i64 gi], .int .i64 no]) (by simp [results, Tryz.results13, go_sem, s0, s1, s2, s3]) rfl ⟨A, n, c, zs, rfl, HS.out.step hb, rfl, hc.1, hc.2, hb⟩
theorem ref_want (hs : AfRow w w.heap.size A n zs) (hn : n ≤ 1000000) (hc : n ≤ c ∧ c ≤ 9223372036854775807) (hr : FnRow w lo' hi' A2 n2 ys) (hhi : hi' ≤ w.heap.size) (hn2 : n2 ≤ 1000) (hl : ∀ x ∈ vals ys, 0 ≤ x.1 ∧ x.1 ≤ 1000) (a : A19) (ha : A19Ok w w.heap.size a) (hm : a.n ≤ 1000) :
    Calls Tryz.prog 13 #[.slice A2 n2 c2, .slice A n c, .agg (a19cells a).toArray] w (ResWt w (mdWant (vals ys) (afvals zs) a)) := by
  by_cases h0 : a.kind = 0
  · exact ref_want0 hs hn hc hr hhi hn2 hl a ha hm h0
  by_cases h1 : a.kind = 1
  · exact ref_want1 hs hn hc hr hhi hn2 hl a ha hm h1
  by_cases h2 : a.kind = 2
  · exact ref_want2 hs hn hc hr hhi hn2 hl a ha hm h2
  by_cases h3 : a.kind = 3
  · exact ref_want3 hs hn hc hr hhi hn2 hl a ha hm h3
  by_cases h4 : a.kind = 4
  · exact ref_want4 hs hn hc hr hhi hn2 hl a ha hm h4
  by_cases h5 : a.kind = 5
  · exact ref_want5 hs hn hc hr hhi hn2 hl a ha hm h5
  exact ref_want6 hs hn hc hr hhi hn2 hl a ha hm ⟨h0, h1, h2, h3, h4, h5⟩
end
/-- An act on a right row: it isn't refused, what is answered is right, and with an error it is the row as it was. -/
theorem mdWant_right {l : Fns} {L : Afs} (hR : mdRight l L = true) (a : A19) : (mdWant l L a).2.2 ≠ 9 ∧ mdRight l (mdWant l L a).1 = true ∧ ((mdWant l L a).2.2 ≠ 0 → (mdWant l L a).1 = L) := by
  unfold mdWant
  split
  · exact mdCall_right hR _
  split
  · exact mdReturn_right hR
  split
  · exact mdSet_right hR _ _ _
  split
  · exact ⟨by rcases mdGet_no9 hR a.d a.i with h | h <;> (show (mdGet l L a.d a.i).2 ≠ 9; omega), hR, fun _ => rfl⟩
  split
  · exact ⟨mdLoad_no9 hR _ _, hR, fun _ => rfl⟩
  split
  · exact mdWrite_right hR _ _ _
  exact mdCalc_right hR _ _ _
/-- An act on a row that isn't right is refused. -/
theorem mdWant_wrong {l : Fns} {L : Afs} (hR : mdRight l L = false) (a : A19) : mdWant l L a = (L, vl0, 9) := by
  obtain ⟨h0, h1, h2, h3, h4, h5, h6⟩ := md_wrong hR
  unfold mdWant
  simp only [h0, h1, h2, h3, h4, h5, h6]
  repeat (split; rfl)
  rfl
end Go.Proofs.YtdcnpaodcjfdbaaGreatDoor
