/- Reading the acts that layer 4's statement takes. -/
import Derived.Test.YtpfhmccafcpflaaReads
import Derived.Test.YtpfhmccafcpflaaRowWords
import Derived.Test.YtpfhmccafcpflaaArgs
namespace Go.Proofs.Ytpfhmccafcpflaa
open Go.RowKit
set_option linter.unusedVariables false

structure ActV where
  kind : Int
  at' : Int
  from' : Int
  n : Int
  A : Option Addr
  len : Nat
  cap : Nat
  ws : List Nat

theorem five {cs : List Value} (hl : cs.length = 5) {a b c d e : Value} (h0 : cs[0]? = some a) (h1 : cs[1]? = some b) (h2 : cs[2]? = some c) (h3 : cs[3]? = some d) (h4 : cs[4]? = some e) : cs = [a, b, c, d, e] := by
  match cs, hl with
  | [a0, a1, a2, a3, a4], _ => simp_all

def ActIs (W : World) (cs : List Value) (a : ActV) : Prop :=
  cs = [iv a.kind, iv a.at', iv a.from', iv a.n, .slice a.A a.len a.cap] ∧ in64 a.kind ∧ in64 a.at' ∧ in64 a.from' ∧ in64 a.n ∧ a.len ≤ maxLen ∧ Sl W W.heap.size a.A a.len (a.ws.map wv) ∧ ∀ x ∈ a.ws, x < 18446744073709551616

section
variable {H : Type} {enc : TypeId × Value → H} {W : World} {sp : Nat → Bool} {hd : Bool}

theorem cells_act : Try.prog.cellsOf 33 = 5 := by kernel_rfl
theorem cells_int : Try.prog.cellsOf 3 = 1 := by kernel_rfl
theorem cells_words : Try.prog.cellsOf 28 = 1 := by kernel_rfl
theorem cells_u64 : Try.prog.cellsOf 40 = 1 := by kernel_rfl

theorem read_act (fuel : Nat) (cs : List Value) (x : DataW H × List MemPlace) (h : DataW.trod enc Try.prog W 0 sp hd fuel 33 cs = some x) : ∃ a, ActIs W cs a := by
  obtain ⟨hl, hf⟩ := read_field Try.underlying33 h
  rw [cells_act] at hl
  obtain ⟨c0, n0, y0, g0, t0⟩ := hf 0 _ rfl cells_int (by rw [hl]; decide)
  obtain ⟨c1, n1, y1, g1, t1⟩ := hf 1 _ rfl cells_int (by rw [hl]; decide)
  obtain ⟨c2, n2, y2, g2, t2⟩ := hf 2 _ rfl cells_int (by rw [hl]; decide)
  obtain ⟨c3, n3, y3, g3, t3⟩ := hf 3 _ rfl cells_int (by rw [hl]; decide)
  obtain ⟨c4, n4, y4, g4, t4⟩ := hf 4 _ rfl cells_words (by rw [hl]; decide)
  obtain ⟨z0, e0, _, w0⟩ := DataW.trod_int Try.underlying3 t0
  obtain ⟨z1, e1, _, w1⟩ := DataW.trod_int Try.underlying3 t1
  obtain ⟨z2, e2, _, w2⟩ := DataW.trod_int Try.underlying3 t2
  obtain ⟨z3, e3, _, w3⟩ := DataW.trod_int Try.underlying3 t3
  obtain ⟨A, len, cap, zs, e4, hlen, hsl, hwf⟩ := read_ints Try.underlying28 Try.underlying40 cells_u64 t4
  simp only [List.cons.injEq, and_true] at e0 e1 e2 e3 e4
  subst e0 e1 e2 e3 e4
  obtain ⟨hwn, hw64⟩ := words_nat zs hwf
  refine ⟨⟨z0, z1, z2, z3, A, len, cap, zs.map Int.toNat⟩, ?_, wf_in64 w0, wf_in64 w1, wf_in64 w2, wf_in64 w3, hlen, by rw [hwn]; exact hsl, hw64⟩
  exact five hl g0 g1 g2 g3 g4

theorem read_acts {v : Value} {d : DataW H} {ps : List MemPlace} (h : DataW.Trod enc Try.prog W 0 sp hd 22 v d ps) :
    ∃ (A : Option Addr) (len cap : Nat) (l : List ActV), v.cells.toList = [.slice A len cap] ∧ len ≤ maxLen ∧ RowOf (ActIs W) 5 W W.heap.size A len l := by
  obtain ⟨fuel, hf⟩ := h
  exact read_row (ActIs W) 5 Try.underlying22 cells_act (by decide) (fun fuel cs x h => read_act fuel cs x h) hf
end

end Go.Proofs.Ytpfhmccafcpflaa
