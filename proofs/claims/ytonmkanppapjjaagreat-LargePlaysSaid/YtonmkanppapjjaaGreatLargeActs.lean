/- Reading the acts that layer 10's statements take. -/
import Derived.Test.YtonmkanppapjjaaGreatRows7
namespace Go.Proofs.YtonmkanppapjjaaGreat
open Go.RowKit
set_option linter.unusedVariables false

structure Act10 where
  kind : Int
  n : Int
  order : Int
  on : Bool
  A : Option Addr
  len : Nat
  cap : Nat
  ids : List Int

/-- Numbers in a slice, and its capacity. -/
theorem read_ints_cap10 {H : Type} {enc : TypeId × Value → H} {P : Program} {W : World} {sp : Nat → Bool} {hd : Bool} {t e : TypeId} {k : IntKind} {fuel : Nat} {cs : List Value} {x : DataW H × List MemPlace} (ht : P.underlying t = some (.slice e)) (he : P.underlying e = some (.int k)) (hc : P.cellsOf e = 1)
    (h : DataW.trod enc P W 0 sp hd fuel t cs = some x) :
    ∃ (A : Option Addr) (len cap : Nat) (zs : List Int), cs = [.slice A len cap] ∧ len ≤ cap ∧ cap ≤ maxLen ∧ Sl W W.heap.size A len (zs.map (Value.int k)) ∧ ∀ z ∈ zs, (Lit.int k z).wf = true := by
  rcases Go.ChangeShapes.open_ints ht he hc h with ⟨rfl, _⟩ | ⟨a, len, cap, zs, rfl, _, hl, hm, hz, _, hcell, hwf⟩
  · exact ⟨none, 0, 0, [], rfl, Nat.le_refl _, Nat.zero_le _, Sl.nil_, fun z hz => by cases hz⟩
  · have hln : len ≤ zs.length := by rw [hz]; split <;> omega
    refine ⟨some a, len, cap, zs.take len, rfl, hl, hm, ?_, fun z hz' => hwf z (List.mem_of_mem_take hz')⟩
    refine ⟨by rw [List.length_map, List.length_take]; omega, fun hn => ?_⟩
    obtain ⟨b, off, spot⟩ := a
    have h0 := hcell 0 (by omega)
    have hspot : spot = none := by simpa [Addr.add] using World.cell?_spot h0
    subst hspot
    refine ⟨b, off, rfl, World.block_lt_of_cell? _ _ h0, fun j hj => ?_⟩
    rw [← Go.WideShapes.add_plain, hcell j (by omega)]
    rw [List.getElem?_map, List.getElem?_take_of_lt hj, List.getElem?_eq_getElem (by omega), List.getD_eq_getElem?_getD, List.getElem?_eq_getElem (by omega)]
    rfl
theorem five10 {cs : List Value} (hl : cs.length = 5) {a b c d e : Value} (h0 : cs[0]? = some a) (h1 : cs[1]? = some b) (h2 : cs[2]? = some c) (h3 : cs[3]? = some d) (h4 : cs[4]? = some e) : cs = [a, b, c, d, e] := by
  match cs, hl with
  | [a0, a1, a2, a3, a4], _ => simp_all

def Act10Is (W : World) (cs : List Value) (a : Act10) : Prop :=
  cs = [iv a.kind, iv a.n, iv a.order, .bool a.on, .slice a.A a.len a.cap] ∧ in64 a.kind ∧ in64 a.n ∧ in64 a.order ∧ (a.len ≤ a.cap ∧ a.cap ≤ maxLen) ∧ Sl W W.heap.size a.A a.len (a.ids.map iv) ∧ ∀ x ∈ a.ids, in64 x

section
variable {H : Type} {enc : TypeId × Value → H} {W : World} {sp : Nat → Bool} {hd : Bool}
theorem a10_cells : Tryz.prog.cellsOf 78 = 5 := by kernel_rfl
theorem a10_bool : Tryz.prog.cellsOf 4 = 1 := by kernel_rfl
theorem a10_int : Tryz.prog.cellsOf 3 = 1 := by kernel_rfl
theorem a10_ints : Tryz.prog.cellsOf 38 = 1 := by kernel_rfl

theorem read_act10 (fuel : Nat) (cs : List Value) (x : DataW H × List MemPlace) (h : DataW.trod enc Tryz.prog W 0 sp hd fuel 78 cs = some x) : ∃ a, Act10Is W cs a := by
  obtain ⟨hl, hf⟩ := read_field Tryz.underlying78 h
  rw [a10_cells] at hl
  obtain ⟨c0, n0, y0, g0, t0⟩ := hf 0 _ rfl a10_int (by rw [hl]; decide)
  obtain ⟨c1, n1, y1, g1, t1⟩ := hf 1 _ rfl a10_int (by rw [hl]; decide)
  obtain ⟨c2, n2, y2, g2, t2⟩ := hf 2 _ rfl a10_int (by rw [hl]; decide)
  obtain ⟨c3, n3, y3, g3, t3⟩ := hf 3 _ rfl a10_bool (by rw [hl]; decide)
  obtain ⟨c4, n4, y4, g4, t4⟩ := hf 4 _ rfl a10_ints (by rw [hl]; decide)
  obtain ⟨z0, e0, _, w0⟩ := DataW.trod_int Tryz.underlying3 t0
  obtain ⟨z1, e1, _, w1⟩ := DataW.trod_int Tryz.underlying3 t1
  obtain ⟨z2, e2, _, w2⟩ := DataW.trod_int Tryz.underlying3 t2
  obtain ⟨z3, e3, _⟩ := DataW.trod_bool Tryz.underlying4 t3
  obtain ⟨A, len, cap, zs, e4, hlen, hcap, hsl, hwf⟩ := read_ints_cap10 Tryz.underlying38 Tryz.underlying3 a10_int t4
  simp only [List.cons.injEq, and_true] at e0 e1 e2 e3 e4
  subst e0 e1 e2 e3 e4
  exact ⟨⟨z0, z1, z2, z3, A, len, cap, zs⟩, five10 hl g0 g1 g2 g3 g4, wf_in64 w0, wf_in64 w1, wf_in64 w2, ⟨hlen, hcap⟩, hsl, fun x hx => wf_in64 (hwf x hx)⟩
theorem read_acts10 {v : Value} {d : DataW H} {ps : List MemPlace} (h : DataW.Trod enc Tryz.prog W 0 sp hd 74 v d ps) :
    ∃ (A : Option Addr) (len cap : Nat) (l : List Act10), v.cells.toList = [.slice A len cap] ∧ len ≤ maxLen ∧ RowOf (Act10Is W) 5 W W.heap.size A len l := by
  obtain ⟨fuel, hf⟩ := h
  exact read_row (Act10Is W) 5 Tryz.underlying74 a10_cells (by decide) (fun fuel cs x h => read_act10 fuel cs x h) hf
end

end Go.Proofs.YtonmkanppapjjaaGreat
