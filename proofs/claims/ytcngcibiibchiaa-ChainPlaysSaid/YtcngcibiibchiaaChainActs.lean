/- Reading what layer 8's statements take: a chain, a row of chains, a row of acts, rows of numbers and of words. -/
import Derived.Test.YtcngcibiibchiaaRows7
import Derived.Test.YtcngcibiibchiaaRowWords
namespace Go.Proofs.Ytcngcibiibchiaa
open Go.RowKit
set_option linter.unusedVariables false

structure Act8 where
  kind : Int
  at' : Int
  x : Nat
  A : Option Addr
  len : Nat
  cap : Nat
  l : List Int

theorem four8 {cs : List Value} (hl : cs.length = 4) {a b c d : Value} (h0 : cs[0]? = some a) (h1 : cs[1]? = some b) (h2 : cs[2]? = some c) (h3 : cs[3]? = some d) : cs = [a, b, c, d] := by
  match cs, hl with
  | [a0, a1, a2, a3], _ => simp_all

/-- Numbers in a slice, and its capacity. -/
theorem read_ints_cap {H : Type} {enc : TypeId × Value → H} {P : Program} {W : World} {sp : Nat → Bool} {hd : Bool} {t e : TypeId} {k : IntKind} {fuel : Nat} {cs : List Value} {x : DataW H × List MemPlace} (ht : P.underlying t = some (.slice e)) (he : P.underlying e = some (.int k)) (hc : P.cellsOf e = 1)
    (h : DataW.trod enc P W 0 sp hd fuel t cs = some x) :
    ∃ (A : Option Addr) (len cap : Nat) (zs : List Int), cs = [.slice A len cap] ∧ len ≤ cap ∧ cap ≤ maxLen ∧ Sl W W.heap.size A len (zs.map (Value.int k)) ∧ ∀ z ∈ zs, (Lit.int k z).wf = true := by
  rcases Go.ChangeShapes.open_ints ht he hc h with ⟨rfl, _⟩ | ⟨a, len, cap, zs, rfl, _, hl, hm, hz, _, hcell, hwf⟩
  · exact ⟨none, 0, 0, [], rfl, Nat.le_refl _, Nat.zero_le _, Sl.nil_, fun z hz => by cases hz⟩
  · have hln : len ≤ zs.length := by rw [hz]; split <;> omega
    refine ⟨some a, len, cap, zs.take len, rfl, hl, hm, ?_, fun z hz' => hwf z (List.mem_of_mem_take hz')⟩
    refine ⟨by rw [List.length_map, List.length_take]; omega, fun hn => ?_⟩
    obtain ⟨b, off, spot⟩ := a
    have h0 := hcell 0 (by omega)
    have hspot : spot = none := by simpa [Addr.add] using World.cell?_spot h0
    subst hspot
    refine ⟨b, off, rfl, World.block_lt_of_cell? _ _ h0, fun j hj => ?_⟩
    rw [← Go.WideShapes.add_plain, hcell j (by omega)]
    rw [List.getElem?_map, List.getElem?_take_of_lt hj, List.getElem?_eq_getElem (by omega), List.getD_eq_getElem?_getD, List.getElem?_eq_getElem (by omega)]
    rfl

def Act8Is (W : World) (cs : List Value) (a : Act8) : Prop :=
  cs = [iv a.kind, iv a.at', wv a.x, .slice a.A a.len a.cap] ∧ in64 a.kind ∧ in64 a.at' ∧ a.x < 18446744073709551616 ∧ (a.len ≤ a.cap ∧ a.cap ≤ maxLen) ∧ Sl W W.heap.size a.A a.len (a.l.map iv) ∧ ∀ x ∈ a.l, in64 x

section
variable {H : Type} {enc : TypeId × Value → H} {W : World} {sp : Nat → Bool} {hd : Bool}
theorem a8_cells : Try.prog.cellsOf 34 = 4 := by kernel_rfl
theorem a8_int : Try.prog.cellsOf 3 = 1 := by kernel_rfl
theorem a8_u64 : Try.prog.cellsOf 31 = 1 := by kernel_rfl
theorem a8_ints : Try.prog.cellsOf 32 = 1 := by kernel_rfl
theorem a8_chain : Try.prog.cellsOf 23 = 2 := by kernel_rfl

theorem read_act8 (fuel : Nat) (cs : List Value) (x : DataW H × List MemPlace) (h : DataW.trod enc Try.prog W 0 sp hd fuel 34 cs = some x) : ∃ a, Act8Is W cs a := by
  obtain ⟨hl, hf⟩ := read_field Try.underlying34 h
  rw [a8_cells] at hl
  obtain ⟨c0, n0, y0, g0, t0⟩ := hf 0 _ rfl a8_int (by rw [hl]; decide)
  obtain ⟨c1, n1, y1, g1, t1⟩ := hf 1 _ rfl a8_int (by rw [hl]; decide)
  obtain ⟨c2, n2, y2, g2, t2⟩ := hf 2 _ rfl a8_u64 (by rw [hl]; decide)
  obtain ⟨c3, n3, y3, g3, t3⟩ := hf 3 _ rfl a8_ints (by rw [hl]; decide)
  obtain ⟨z0, e0, _, w0⟩ := DataW.trod_int Try.underlying3 t0
  obtain ⟨z1, e1, _, w1⟩ := DataW.trod_int Try.underlying3 t1
  obtain ⟨z2, e2, _, w2⟩ := DataW.trod_int Try.underlying31 t2
  obtain ⟨A, len, cap, zs, e3, hlen, hcap, hsl, hwf⟩ := read_ints_cap Try.underlying32 Try.underlying3 a8_int t3
  simp only [List.cons.injEq, and_true] at e0 e1 e2 e3
  subst e0 e1 e2 e3
  have hw := wf_word w2
  obtain ⟨xn, rfl⟩ : ∃ xn : Nat, z2 = (xn : Int) := ⟨z2.toNat, by omega⟩
  exact ⟨⟨z0, z1, xn, A, len, cap, zs⟩, four8 hl g0 g1 g2 g3, wf_in64 w0, wf_in64 w1, by simp only; omega, ⟨hlen, hcap⟩, hsl, fun x hx => wf_in64 (hwf x hx)⟩
theorem read_acts8 {v : Value} {d : DataW H} {ps : List MemPlace} (h : DataW.Trod enc Try.prog W 0 sp hd 24 v d ps) :
    ∃ (A : Option Addr) (len cap : Nat) (l : List Act8), v.cells.toList = [.slice A len cap] ∧ len ≤ maxLen ∧ RowOf (Act8Is W) 4 W W.heap.size A len l := by
  obtain ⟨fuel, hf⟩ := h
  exact read_row (Act8Is W) 4 Try.underlying24 a8_cells (by decide) (fun fuel cs x h => read_act8 fuel cs x h) hf

/-- A chain. -/
def ChainCells (cs : List Value) (r : Int × Int) : Prop := cs = [iv r.1, iv r.2] ∧ in64 r.1 ∧ in64 r.2
theorem read_chain (fuel : Nat) (cs : List Value) (x : DataW H × List MemPlace) (h : DataW.trod enc Try.prog W 0 sp hd fuel 23 cs = some x) : ∃ r, ChainCells cs r := by
  obtain ⟨hl, hf⟩ := read_field Try.underlying23 h
  rw [a8_chain] at hl
  obtain ⟨c0, n0, y0, g0, t0⟩ := hf 0 _ rfl a8_int (by rw [hl]; decide)
  obtain ⟨c1, n1, y1, g1, t1⟩ := hf 1 _ rfl a8_int (by rw [hl]; decide)
  obtain ⟨z0, e0, _, w0⟩ := DataW.trod_int Try.underlying3 t0
  obtain ⟨z1, e1, _, w1⟩ := DataW.trod_int Try.underlying3 t1
  simp only [List.cons.injEq, and_true] at e0 e1
  subst e0 e1
  refine ⟨(z0, z1), ?_, wf_in64 w0, wf_in64 w1⟩
  match cs, hl with
  | [a0, a1], _ => simp_all [iv]
/-- A chain that came in. -/
theorem read_chain_arg {v : Value} {d : DataW H} {ps : List MemPlace} (h : DataW.Trod enc Try.prog W 0 sp hd 23 v d ps) : ∃ r : Int × Int, v.cells.toList = [.int .i64 r.1, .int .i64 r.2] ∧ in64 r.1 ∧ in64 r.2 := by
  obtain ⟨fuel, hf⟩ := h
  obtain ⟨r, h1, h2⟩ := read_chain fuel _ _ hf
  exact ⟨r, h1, h2⟩
theorem read_chains {v : Value} {d : DataW H} {ps : List MemPlace} (h : DataW.Trod enc Try.prog W 0 sp hd 62 v d ps) :
    ∃ (A : Option Addr) (len cap : Nat) (l : List (Int × Int)), v.cells.toList = [.slice A len cap] ∧ len ≤ maxLen ∧ RowOf ChainCells 2 W W.heap.size A len l := by
  obtain ⟨fuel, hf⟩ := h
  exact read_row ChainCells 2 Try.underlying62 a8_chain (by decide) (fun fuel cs x h => read_chain fuel cs x h) hf
end

end Go.Proofs.Ytcngcibiibchiaa
