/- Reading the acts that layer 9's statements take. -/
import Derived.Test.YtcgfmpegakpddaaGreatZRows7
import Derived.Lib.AppendZeros
namespace Go.Proofs.YtcgfmpegakpddaaGreat
open Go.RowKit
set_option linter.unusedVariables false

structure Act9 where
  kind : Int
  order : Int
  on : Bool
  A : Option Addr
  len : Nat
  cap : Nat
  at' : List Int

theorem four9 {cs : List Value} (hl : cs.length = 4) {a b c d : Value} (h0 : cs[0]? = some a) (h1 : cs[1]? = some b) (h2 : cs[2]? = some c) (h3 : cs[3]? = some d) : cs = [a, b, c, d] := by
  match cs, hl with
  | [a0, a1, a2, a3], _ => simp_all

def Act9Is (W : World) (cs : List Value) (a : Act9) : Prop :=
  cs = [iv a.kind, iv a.order, .bool a.on, .slice a.A a.len a.cap] ∧ in64 a.kind ∧ in64 a.order ∧ a.len ≤ maxLen ∧ Sl W W.heap.size a.A a.len (a.at'.map iv) ∧ ∀ x ∈ a.at', in64 x

section
variable {H : Type} {enc : TypeId × Value → H} {W : World} {sp : Nat → Bool} {hd : Bool}
theorem a9_cells : Tryz.prog.cellsOf 40 = 4 := by kernel_rfl
theorem a9_bool : Tryz.prog.cellsOf 4 = 1 := by kernel_rfl
theorem a9_int : Tryz.prog.cellsOf 3 = 1 := by kernel_rfl
theorem a9_ints : Tryz.prog.cellsOf 38 = 1 := by kernel_rfl

theorem read_act9 (fuel : Nat) (cs : List Value) (x : DataW H × List MemPlace) (h : DataW.trod enc Tryz.prog W 0 sp hd fuel 40 cs = some x) : ∃ a, Act9Is W cs a := by
  obtain ⟨hl, hf⟩ := read_field Tryz.underlying40 h
  rw [a9_cells] at hl
  obtain ⟨c0, n0, y0, g0, t0⟩ := hf 0 _ rfl a9_int (by rw [hl]; decide)
  obtain ⟨c1, n1, y1, g1, t1⟩ := hf 1 _ rfl a9_int (by rw [hl]; decide)
  obtain ⟨c2, n2, y2, g2, t2⟩ := hf 2 _ rfl a9_bool (by rw [hl]; decide)
  obtain ⟨c3, n3, y3, g3, t3⟩ := hf 3 _ rfl a9_ints (by rw [hl]; decide)
  obtain ⟨z0, e0, _, w0⟩ := DataW.trod_int Tryz.underlying3 t0
  obtain ⟨z1, e1, _, w1⟩ := DataW.trod_int Tryz.underlying3 t1
  obtain ⟨z2, e2, _⟩ := DataW.trod_bool Tryz.underlying4 t2
  obtain ⟨A, len, cap, zs, e3, hlen, hsl, hwf⟩ := read_ints Tryz.underlying38 Tryz.underlying3 a9_int t3
  simp only [List.cons.injEq, and_true] at e0 e1 e2 e3
  subst e0 e1 e2 e3
  exact ⟨⟨z0, z1, z2, A, len, cap, zs⟩, four9 hl g0 g1 g2 g3, wf_in64 w0, wf_in64 w1, hlen, hsl, fun x hx => wf_in64 (hwf x hx)⟩
theorem read_acts9 {v : Value} {d : DataW H} {ps : List MemPlace} (h : DataW.Trod enc Tryz.prog W 0 sp hd 22 v d ps) :
    ∃ (A : Option Addr) (len cap : Nat) (l : List Act9), v.cells.toList = [.slice A len cap] ∧ len ≤ maxLen ∧ RowOf (Act9Is W) 4 W W.heap.size A len l := by
  obtain ⟨fuel, hf⟩ := h
  exact read_row (Act9Is W) 4 Tryz.underlying22 a9_cells (by decide) (fun fuel cs x h => read_act9 fuel cs x h) hf
end

end Go.Proofs.YtcgfmpegakpddaaGreat
/- append of a whole row, nil and empty ones too, of whatever capacity. -/
namespace Go.Proofs.YtcgfmpegakpddaaGreat
open Go.RowKit
set_option linter.unusedVariables false

theorem own_capsL {w : World} {base size n c : Nat} {A : Option Addr} {e : TypeId} {xs : List Value} (h : w.ownsRow base e size (.slice A n c) n xs) : n ≤ c := by
  rcases h.2 with ⟨h1, h2⟩ | ⟨g, cap, cur, h1, _, _, h4, h5, _⟩
  · omega
  · injection h1 with e1 e2 e3
    subst e3
    exact h4
theorem run_append_none' {P : Program} (w : World) (t ty e : TypeId) (i : TypeInfo) (ht : P.underlying t = some (.slice e)) (hi : P.info? e = some i) (A1 : Option Addr) (n c : Nat) (hnc : n ≤ c) (d : Nat) :
    (Builtin.append_ #[t, t] ty #[.slice A1 n c, .slice none 0 d]).run P w = .ok (.slice A1 n c) w := by
  cases A1 <;> simp [Builtin.append_, run_underlying ht, sizeOf, typeInfo, hi, Builtin.lenOf, hnc, Builtin.firstCells, storeCells]
/-- append of a whole row, nil and empty ones too, of whatever capacity, onto a row of the call's own. -/
theorem wpList_append_rowN {P : Program} (w : World) {ops : Array Oper} {rest : List Oper} {o : Oper} {a : Act} {Q : Exit → Act → World → Prop} (hgd : o.guard = none) (s x : Operand) (t : TypeId)
    (ho : o.op = .call { callee := .builtin .append, args := #[s, x], argTypes := #[t, t] })
    (base : Nat) (e : TypeId) (i : TypeInfo) (z : Value) (size bytes : Nat) (ht : P.underlying t = some (.slice e)) (hi : P.info? e = some i) (hz : i.zero = some z)
    (hsize : i.size = size) (hby : i.bytes = bytes) (hzs : z.cells.size = size) (hsz : 0 < size)
    (v : Value) (n : Nat) (xs : List Value) (hs : a.eval s = v) (hown : w.ownsRow base e size v n xs) (hbase : base ≤ w.heap.size)
    (A : Option Addr) (m c : Nat) (news : List Value) (hx : a.eval x = .slice A m c) (hl : news.length = m * size) (hA : A = none → m = 0)
    (hnews : CellsAt w A news) (hone : ∀ u ∈ news, u.oneCell' = true) (h63 : n + m ≤ maxLen) (hbytes : (n + m) * bytes ≤ 140737488355328)
    (h : ∀ A' c' w', w'.ownsRow base e size (.slice A' (n + m) c') (n + m) (xs ++ news) → w.grownBy w' v.ownBlock → wpList P ops Q rest (a.put o.dst (.slice A' (n + m) c')) w') : wpList P ops Q (o :: rest) a w := by
  cases A with
  | some ad => exact wpList_append_row w hgd s x t ho base e i z size bytes ht hi hz hsize hby hzs hsz v n xs hs hown hbase (some ad) m c news hx hl (fun h => by cases h) hnews hone h63 hbytes h
  | none =>
    obtain rfl := hA rfl
    obtain rfl : news = [] := List.eq_nil_of_length_eq_zero (by rw [hl, Nat.zero_mul])
    refine wpList_plain hgd fun K hK => ?_
    obtain ⟨A', c', rfl⟩ : ∃ A c, v = .slice A n c := by
      rcases hown.2 with ⟨rfl, h0⟩ | ⟨g, cap, cur, rfl, _⟩
      · exact ⟨none, 0, by rw [h0]⟩
      · exact ⟨_, _, rfl⟩
    have hrun := run_append_none' (P := P) w t o.type e i ht hi A' n c' (own_capsL hown) c
    unfold Oper.wp
    simp [execOp, ho, resolve, invoke, builtin, hs, hx, hrun, Result.andThen]
    have := h A' c' w (by rw [List.append_nil]; exact hown) (grownSelf _ _)
    rw [Nat.add_zero] at this
    exact hK _ _ this

end Go.Proofs.YtcgfmpegakpddaaGreat
/- Words for rows of words that a call made. -/
namespace Go.Proofs.YtcgfmpegakpddaaGreat
open Go.RowKit
set_option linter.unusedVariables false

theorem info_u64 : (Tryz.prog.info? 212).map (fun i => (i.zero, i.size, i.bytes)) = some (some (.int .u64 0), 1, 8) := by kernel_rfl

end Go.Proofs.YtcgfmpegakpddaaGreat
