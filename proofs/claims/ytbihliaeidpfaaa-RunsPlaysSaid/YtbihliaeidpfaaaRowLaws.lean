/- Laws for rows of structs that are known whole (a block of cells): copy, clear, and append, as steps of a walk and of a region that draws; and the worlds behind them. No program is named here. -/
import Derived.Test.YtbihliaeidpfaaaSteps
import Derived.Laws.CopyOwn
import Derived.Lib.AppendZerosOnto
import Derived.Lib.Overlaps
namespace Go.Proofs.Ytbihliaeidpfaaa
open Go.RowKit
set_option linter.unusedVariables false

/-- A block of cells, known whole. -/
def Rw (w : World) (g : Nat) (e : TypeId) (L : List Value) : Prop := w.heap[g]? = some (.cells L.toArray e (0, 0))
section
variable {w w' w'' : World} {g : Nat} {e : TypeId} {L : List Value}
theorem Rw.lt (h : Rw w g e L) : g < w.heap.size := (Array.getElem?_eq_some_iff.1 h).1
theorem Rw.cell (h : Rw w g e L) (j : Nat) : w.cell? ⟨g, j, none⟩ = L[j]? := by unfold Rw at h; simp [World.cell?, h]
theorem Rw.free (h : Rw w g e L) (j : Nat) : w.frozen? ⟨g, j, none⟩ = false := by unfold Rw at h; simp [World.frozen?, h]
theorem Rw.shape (h : Rw w g e L) : w.shape? g = some (e, L.length) := by unfold Rw at h; simp [World.shape?, h]
theorem Rw.keep (h : Rw w g e L) (hk : w'.heap[g]? = w.heap[g]?) : Rw w' g e L := hk.trans h
theorem Rw.alloc (h : Rw w g e L) (o : Obj) : Rw (w.alloc o) g e L := h.keep (Below.heap_alloc _ _ _ h.lt)
theorem Rw.drew (h : Rw w g e L) : Rw w.drew g e L := h
theorem Rw.drewN (h : Rw w g e L) {q : Nat} : Rw (w.drewN q) g e L := h
theorem Rw.below {B : Nat} (h : Rw w g e L) (hb : Below B w w') (hB : g < B) : Rw w' g e L := h.keep (hb.block g hB)
theorem Rw.grown {r : Option Nat} (h : Rw w g e L) (hb : w.grownBy w' r) (hr : some g ≠ r) : Rw w' g e L := h.keep (hb.block g h.lt hr)
theorem Rw.set (h : Rw w g e L) (cs : List Value) : Rw (w.setRow g cs.toArray) g e cs := setRow_heap w g _ _ e _ h
/-- The cells from a place on. -/
theorem Rw.cells (h : Rw w g e L) (off : Nat) (cs : List Value) (hc : ∀ (j : Nat) (u : Value), cs[j]? = some u → L[off + j]? = some u) : CellsAt w (some ⟨g, off, none⟩) cs := fun ad ea j u hj => by
  injection ea with ea
  subst ea
  rw [Go.WideShapes.add_plain, h.cell]; exact hc j u hj
theorem grownSelf (r : Option Nat) (w : World) : w.grownBy w r := ⟨rfl, rfl, rfl, Nat.le_refl _, fun _ _ _ => rfl⟩
theorem grownTrans {r : Option Nat} (h : w.grownBy w' r) (k : w'.grownBy w'' r) : w.grownBy w'' r :=
  ⟨k.os.trans h.os, k.tape.trans h.tape, k.output.trans h.output, Nat.le_trans h.size k.size, fun i hi hr => (k.block i (by have := h.size; omega) hr).trans (h.block i hi hr)⟩
/-- First new blocks alone, then also writes into one of these. -/
theorem grownNew {r : Option Nat} {b : Nat} (h : w.grownBy w' r) (hb : w.heap.size ≤ b) (k : w'.grownBy w'' (some b)) : w.grownBy w'' r :=
  ⟨k.os.trans h.os, k.tape.trans h.tape, k.output.trans h.output, Nat.le_trans h.size k.size, fun i hi hr => (k.block i (by have := h.size; omega) (fun e => by injection e with e; omega)).trans (h.block i hi hr)⟩
theorem grownDrew {r : Option Nat} (h : w.grownBy w' r) : w.grownBy w'.drew r := ⟨h.os, h.tape, h.output, h.size, h.block⟩
theorem grownDrewN {r : Option Nat} (h : w.grownBy w' r) (q : Nat) : w.grownBy (w'.drewN q) r := ⟨h.os, h.tape, h.output, h.size, h.block⟩
theorem grownAny {r r' : Option Nat} (h : w.grownBy w' r) (hr : ∀ k, r = some k → r' = some k) : w.grownBy w' r' :=
  ⟨h.os, h.tape, h.output, h.size, fun i hi hn => h.block i hi (fun e => hn (hr i e.symm).symm)⟩
theorem grownNone {r : Option Nat} (h : w.grownBy w' none) : w.grownBy w' r := grownAny h (fun k e => by cases e)
theorem grownBelow (h : Below w.heap.size w w') (r : Option Nat) : w.grownBy w' r := ⟨h.os, h.tape, h.output, h.size, fun k hk _ => h.block k hk⟩
theorem belowGrown (h : w.grownBy w' none) : Below w.heap.size w w' := ⟨h.os, h.tape, h.output, h.size, fun k hk => h.block k hk (by simp)⟩
theorem grownSet (w : World) (g : Nat) (cs : Array Value) : w.grownBy (w.setRow g cs) (some g) :=
  ⟨rfl, rfl, rfl, by simp [World.setRow], fun k _ hr => setRow_other w g k cs (fun e => hr (by rw [e]))⟩
end
theorem CellsAt.grownBy {w w' : World} {A : Option Addr} {l : List Value} {r : Option Nat} (h : CellsAt w A l) (hg : w.grownBy w' r) (hr : ∀ ad, A = some ad → some ad.block ≠ r) : CellsAt w' A l := h.grown hg hr

/-- A row of the call's own is a block known whole. -/
theorem own_whole {w : World} {base : Nat} {e : TypeId} {s g n c : Nat} {xs : List Value} (h : w.ownsRow base e s (.slice (some ⟨g, 0, none⟩) n c) n xs) :
    ∃ L : List Value, Rw w g e L ∧ base ≤ g ∧ n ≤ c ∧ c ≤ maxLen ∧ L.length = c * s ∧ xs = L.take (n * s) := by
  rcases h.2 with ⟨h1, _⟩ | ⟨g', cap, cur, h1, h2, h3, h4, h5, h6, h7⟩
  · cases h1
  · injection h1 with e1 e2 e3
    injection e1 with e1
    injection e1 with e1
    subst e1
    subst e3
    exact ⟨cur.toList, by unfold Rw; simpa using h3, h2, h4, h5, by simpa using h6, h7.symm⟩
theorem own_of_whole {w : World} {base : Nat} {e : TypeId} {s g n c : Nat} {L : List Value} (h : Rw w g e L) (h1 : base ≤ g) (h2 : n ≤ c) (h3 : c ≤ maxLen) (h4 : L.length = c * s) :
    w.ownsRow base e s (.slice (some ⟨g, 0, none⟩) n c) n (L.take (n * s)) := by
  refine ⟨?_, .inr ⟨g, c, L.toArray, rfl, h1, h, h2, h3, by simpa using h4, rfl⟩⟩
  rw [List.length_take, h4]
  exact Nat.min_eq_left (Nat.mul_le_mul_right s h2)

section
variable {P : Program}
theorem run_copy_rowK (w : World) (dT sT ty elem : TypeId) (k g o dLen dCap : Nat) (a : Addr) (sLen sCap : Nat) (cur : Array Value) (t : TypeId) (cs : List Value)
    (hu : P.underlying dT = some (.slice elem)) (hs : (P.info? elem).map (·.size) = some k)
    (hg : w.heap[g]? = some (.cells cur t (0, 0))) (hn : cs.length = Nat.min sLen dLen * k)
    (hsrc : ∀ j v, cs[j]? = some v → w.cell? (a.add j) = some v) (hfit : o + cs.length ≤ cur.size) (h1 : ∀ v ∈ cs, v.oneCell' = true) :
    (Builtin.copy_ #[dT, sT] ty #[.slice (some ⟨g, o, none⟩) dLen dCap, .slice (some a) sLen sCap]).run P w =
      .ok (goInt (Nat.min sLen dLen)) (w.setRow g (cur.toList.take o ++ cs ++ cur.toList.drop (o + cs.length)).toArray) := by
  have hl := run_loadCells_list (P := P) w a cs hsrc
  have hst := run_storeCells_at P g o t cs 0 cur w hg (by simpa using hfit) h1
  cases hq : P.info? elem with
  | none => simp [hq] at hs
  | some i =>
    have hi : i.size = k := by simpa [hq] using hs
    simp [Builtin.copy_, run_underlying hu, Builtin.lenOf, Builtin.firstCells, sizeOf, typeInfo, hq, hi, ← hn, hl, hst]
theorem run_copy_noneK (w : World) (dT sT ty elem : TypeId) (k : Nat) (d a : Option Addr) (dLen dCap sLen sCap : Nat) (hu : P.underlying dT = some (.slice elem)) (hs : (P.info? elem).map (·.size) = some k) (hn : Nat.min sLen dLen = 0) :
    (Builtin.copy_ #[dT, sT] ty #[.slice d dLen dCap, .slice a sLen sCap]).run P w = .ok (goInt 0) w := by
  cases hq : P.info? elem with
  | none => simp [hq] at hs
  | some i =>
    cases a with
    | none => cases d <;> simp [Builtin.copy_, run_underlying hu, Builtin.lenOf, Builtin.firstCells, sizeOf, typeInfo, hq, hn, storeCells]
    | some a => cases d <;> simp [Builtin.copy_, run_underlying hu, Builtin.lenOf, Builtin.firstCells, sizeOf, typeInfo, hq, hn, loadCells, loadCellsFrom, storeCells]
theorem run_copy_any (w : World) (dT sT ty elem : TypeId) (k : Nat) (hk : 0 < k) (hu : P.underlying dT = some (.slice elem)) (hsz : (P.info? elem).map (·.size) = some k)
    (dp sp : Option Addr) (dLen dCap sLen sCap : Nat) (g off : Nat) (cur : List Value) (t : TypeId) (hg : Rw w g t cur) (cs : List Value) (hn : cs.length = Nat.min sLen dLen * k)
    (hpos : 0 < Nat.min sLen dLen → dp = some ⟨g, off, none⟩ ∧ ∃ ad, sp = some ad ∧ CellsAt w (some ad) cs) (hfit : off + cs.length ≤ cur.length) (h1 : ∀ v ∈ cs, v.oneCell' = true) :
    ∃ w', (Builtin.copy_ #[dT, sT] ty #[.slice dp dLen dCap, .slice sp sLen sCap]).run P w = .ok (goInt (Nat.min sLen dLen)) w' ∧ Rw w' g t (splice cur off cs) ∧ w.grownBy w' (some g) := by
  by_cases h0 : Nat.min sLen dLen = 0
  · obtain rfl : cs = [] := List.eq_nil_of_length_eq_zero (by rw [hn, h0, Nat.zero_mul])
    refine ⟨w, ?_, ?_, grownSelf _ _⟩
    · rw [h0]; exact run_copy_noneK w dT sT ty elem k dp sp dLen dCap sLen sCap hu hsz h0
    · simpa [splice] using hg
  · obtain ⟨rfl, ad, rfl, hsrc⟩ := hpos (by omega)
    refine ⟨_, run_copy_rowK w dT sT ty elem k g off dLen dCap ad sLen sCap cur.toArray t cs hu hsz hg hn (hsrc ad rfl) (by simpa using hfit) h1, ?_, grownSet _ _ _⟩
    have := hg.set (splice cur off cs)
    simpa [splice] using this
theorem wpList_copyK {w : World} {ops : Array Oper} {rest : List Oper} {o : Oper} {a : Act} {Q : Exit → Act → World → Prop} (hgd : o.guard = none) (d s : Operand) (dT sT : TypeId)
    (ho : o.op = .call { callee := .builtin .copy, args := #[d, s], argTypes := #[dT, sT] }) (elem : TypeId) (k : Nat) (hk : 0 < k) (hu : P.underlying dT = some (.slice elem)) (hsz : (P.info? elem).map (·.size) = some k)
    (dp sp : Option Addr) (dLen dCap sLen sCap : Nat) (hd : a.eval d = .slice dp dLen dCap) (hs : a.eval s = .slice sp sLen sCap)
    (g off : Nat) (cur : List Value) (t : TypeId) (hg : Rw w g t cur) (cs : List Value) (hn : cs.length = Nat.min sLen dLen * k)
    (hpos : 0 < Nat.min sLen dLen → dp = some ⟨g, off, none⟩ ∧ ∃ ad, sp = some ad ∧ CellsAt w (some ad) cs) (hfit : off + cs.length ≤ cur.length) (h1 : ∀ v ∈ cs, v.oneCell' = true)
    (h : ∀ w', Hid (Rw w' g t (splice cur off cs)) → Hid (w.grownBy w' (some g)) → wpList P ops Q rest (a.put o.dst (goInt (Nat.min sLen dLen))) w') : wpList P ops Q (o :: rest) a w := by
  refine wpList_plain hgd fun K hK => ?_
  obtain ⟨w', hrun, r1, r2⟩ := run_copy_any (P := P) w dT sT o.type elem k hk hu hsz dp sp dLen dCap sLen sCap g off cur t hg cs hn hpos hfit h1
  unfold Oper.wp
  simp [execOp, ho, resolve, invoke, builtin, hd, hs, hrun, Result.andThen]
  exact hK _ _ (h w' r1 r2)
theorem step_copyK {w : World} {ops : Array Oper} {o : Oper} {a : Act} {K : Act → World → Prop} {Q : Exit → Act → World → Prop} {E : Prop} (hgd : o.guard = none) (d s : Operand) (dT sT : TypeId)
    (ho : o.op = .call { callee := .builtin .copy, args := #[d, s], argTypes := #[dT, sT] }) (elem : TypeId) (k : Nat) (hk : 0 < k) (hu : P.underlying dT = some (.slice elem)) (hsz : (P.info? elem).map (·.size) = some k)
    (dp sp : Option Addr) (dLen dCap sLen sCap : Nat) (hd : a.eval d = .slice dp dLen dCap) (hs : a.eval s = .slice sp sLen sCap)
    (g off : Nat) (cur : List Value) (t : TypeId) (hg : Rw w g t cur) (cs : List Value) (hn : cs.length = Nat.min sLen dLen * k)
    (hpos : 0 < Nat.min sLen dLen → dp = some ⟨g, off, none⟩ ∧ ∃ ad, sp = some ad ∧ CellsAt w (some ad) cs) (hfit : off + cs.length ≤ cur.length) (h1 : ∀ v ∈ cs, v.oneCell' = true)
    (h : ∀ w', Hid (Rw w' g t (splice cur off cs)) → Hid (w.grownBy w' (some g)) → K (a.put o.dst (goInt (Nat.min sLen dLen))) w') : if Region.wanted o (yielded ops a.tmps) = true then Oper.wp P o a w K Q else E := by
  have hw : Region.wanted o (yielded ops a.tmps) = true := by simp [Region.wanted, hgd]
  rw [if_pos hw]
  obtain ⟨w', hrun, r1, r2⟩ := run_copy_any (P := P) w dT sT o.type elem k hk hu hsz dp sp dLen dCap sLen sCap g off cur t hg cs hn hpos hfit h1
  unfold Oper.wp
  simp [execOp, ho, resolve, invoke, builtin, hd, hs, hrun, Result.andThen]
  exact h w' r1 r2

/-- clear. -/
theorem run_clear_any (w : World) (t e ty : TypeId) (z : Value) (ht : P.underlying t = some (.slice e)) (hv : ∀ w, (zeroValue e).run P w = .ok z w) (dp : Option Addr) (g o n c : Nat) (cur : List Value) (u : TypeId) (hg : Rw w g u cur)
    (h1 : ∀ v ∈ (Builtin.zeroCells z.cells n).toList, v.oneCell' = true) (hpos : 0 < n → dp = some ⟨g, o, none⟩ ∧ o + (Builtin.zeroCells z.cells n).size ≤ cur.length) :
    ∃ w' L, (Builtin.clear_ #[t] ty #[.slice dp n c]).run P w = .ok (.tuple #[]) w' ∧ Rw w' g u L ∧ L.length = cur.length ∧ L.take o = cur.take o ∧ (n = 0 → w' = w) ∧ w.grownBy w' (some g) := by
  by_cases h0 : n = 0
  · subst h0
    refine ⟨w, cur, ?_, hg, rfl, rfl, fun _ => rfl, grownSelf _ _⟩
    cases dp <;> simp [Builtin.clear_, run_underlying ht]
  · obtain ⟨rfl, hfit⟩ := hpos (by omega)
    obtain ⟨m, rfl⟩ : ∃ m, n = m + 1 := ⟨n - 1, by omega⟩
    generalize hz : (Builtin.zeroCells z.cells (m + 1)) = Z at h1 hfit
    have hst := run_storeCells_at P g o u Z.toList 0 cur.toArray w hg (by simpa using hfit) h1
    simp only [Nat.add_zero] at hst
    refine ⟨w.setRow g (cur.take o ++ Z.toList ++ cur.drop (o + Z.toList.length)).toArray, cur.take o ++ Z.toList ++ cur.drop (o + Z.toList.length), ?_, ?_, ?_, ?_, fun h => absurd h h0, grownSet _ _ _⟩
    · simp only [Builtin.clear_]
      simp [run_underlying ht, hv, hz]
      rw [hst]
      simp [Result.andThen]
    · exact hg.set _
    · simp; omega
    · have : o ≤ cur.length := by omega
      rw [List.append_assoc, List.take_append_of_le_length (by simp; omega), List.take_take, Nat.min_self]
theorem wpList_clearK {w : World} {ops : Array Oper} {rest : List Oper} {o : Oper} {a : Act} {Q : Exit → Act → World → Prop} (hgd : o.guard = none) (d : Operand) (t : TypeId)
    (ho : o.op = .call { callee := .builtin .clear, args := #[d], argTypes := #[t] }) (e : TypeId) (z : Value) (ht : P.underlying t = some (.slice e)) (hv : ∀ w, (zeroValue e).run P w = .ok z w)
    (dp : Option Addr) (g off n c : Nat) (hd : a.eval d = .slice dp n c) (cur : List Value) (u : TypeId) (hg : Rw w g u cur)
    (h1 : ∀ v ∈ (Builtin.zeroCells z.cells n).toList, v.oneCell' = true) (hpos : 0 < n → dp = some ⟨g, off, none⟩ ∧ off + (Builtin.zeroCells z.cells n).size ≤ cur.length)
    (h : ∀ w' L, Hid (Rw w' g u L ∧ L.length = cur.length ∧ L.take off = cur.take off) → Hid (w.grownBy w' (some g)) → wpList P ops Q rest (a.put o.dst (.tuple #[])) w') : wpList P ops Q (o :: rest) a w := by
  refine wpList_plain hgd fun K hK => ?_
  obtain ⟨w', L, hrun, r1, r2, r3, _, r4⟩ := run_clear_any (P := P) w t e o.type z ht hv dp g off n c cur u hg h1 hpos
  unfold Oper.wp
  simp [execOp, ho, resolve, invoke, builtin, hd, hrun, Result.andThen]
  exact hK _ _ (h w' L ⟨r1, r2, r3⟩ r4)

/-- append of nothing. -/
theorem run_append_nothing (w : World) (t ty e : TypeId) (i : TypeInfo) (ht : P.underlying t = some (.slice e)) (hi : P.info? e = some i) (g off n c : Nat) (hnc : n ≤ c) (A : Option Addr) (d : Nat) :
    (Builtin.append_ #[t, t] ty #[.slice (some ⟨g, off, none⟩) n c, .slice A 0 d]).run P w = .ok (.slice (some ⟨g, off, none⟩) n c) w := by
  cases A <;> simp [Builtin.append_, run_underlying ht, sizeOf, typeInfo, hi, Builtin.lenOf, hnc, Builtin.firstCells, loadCells, loadCellsFrom, storeCells]
theorem wpList_append_nothing {w : World} {ops : Array Oper} {rest : List Oper} {o : Oper} {a : Act} {Q : Exit → Act → World → Prop} (hgd : o.guard = none) (s x : Operand) (t : TypeId)
    (ho : o.op = .call { callee := .builtin .append, args := #[s, x], argTypes := #[t, t] }) (e : TypeId) (i : TypeInfo) (ht : P.underlying t = some (.slice e)) (hi : P.info? e = some i)
    (g off n c : Nat) (hs : a.eval s = .slice (some ⟨g, off, none⟩) n c) (hnc : n ≤ c) (A : Option Addr) (d : Nat) (hx : a.eval x = .slice A 0 d)
    (h : wpList P ops Q rest (a.put o.dst (.slice (some ⟨g, off, none⟩) n c)) w) : wpList P ops Q (o :: rest) a w := by
  refine wpList_plain hgd fun K hK => ?_
  have hrun := run_append_nothing (P := P) w t o.type e i ht hi g off n c hnc A d
  unfold Oper.wp
  simp [execOp, ho, resolve, invoke, builtin, hs, hx, hrun, Result.andThen]
  exact hK _ _ h
/-- append onto a part of a row that is known whole: in place, where there is room; else a new row. -/
theorem run_append_whole (w : World) (base : Nat) (t ty e : TypeId) (i : TypeInfo) (z : Value) (size bytes : Nat) (ht : P.underlying t = some (.slice e)) (hi : P.info? e = some i) (hz : i.zero = some z)
    (hsize : i.size = size) (hby : i.bytes = bytes) (hzs : z.cells.size = size) (hsz : 0 < size) (g n c : Nat) (L : List Value) (hg : Rw w g e L) (hbg : base ≤ g) (hnc : n ≤ c) (hcm : c ≤ maxLen) (hLl : L.length = c * size)
    (ad : Addr) (m d : Nat) (news : List Value) (hl : news.length = m * size) (hnews : CellsAt w (some ad) news) (h1 : ∀ u ∈ news, u.oneCell' = true) (h63 : n + m ≤ maxLen) (hbytes : (n + m) * bytes ≤ 140737488355328) :
    ∃ A' c' w', (Builtin.append_ #[t, t] ty #[.slice (some ⟨g, 0, none⟩) n c, .slice (some ad) m d]).run P w = .ok (.slice A' (n + m) c') w' ∧ w'.ownsRow base e size (.slice A' (n + m) c') (n + m) (L.take (n * size) ++ news) ∧
      (∀ b, A' = some b → b.block = g ∨ w.heap.size ≤ b.block) ∧ w.grownBy w' (some g) := by
  subst hsize
  subst hby
  have hlt := hg.lt
  have hnl : n * i.size ≤ L.length := by rw [hLl]; exact Nat.mul_le_mul_right _ hnc
  by_cases hr : n + m ≤ c
  · have hfit : n * i.size + news.length ≤ L.length := by rw [hl, hLl, ← Nat.add_mul]; exact Nat.mul_le_mul_right _ hr
    have hfc := run_firstCells_some (P := P) w i.size m ad m d news hl (hnews ad rfl)
    have hst := run_storeCells_at P g (n * i.size) e news 0 L.toArray w hg (by simpa using hfit) h1
    simp only [Nat.add_zero] at hst
    refine ⟨some ⟨g, 0, none⟩, c, w.setRow g (splice L (n * i.size) news).toArray, ?_, ?_, fun b e => Or.inl (by injection e with e; rw [← e]), grownSet _ _ _⟩
    · simp [Builtin.append_, run_underlying ht, sizeOf, typeInfo, hi, Builtin.lenOf, hr, hfc, Addr.add_lit, hst, splice]
    · have := own_of_whole (base := base) (s := i.size) (n := n + m) (c := c) (hg.set (splice L (n * i.size) news)) hbg hr hcm (by rw [length_splice _ _ _ hfit]; exact hLl)
      have e1 : (splice L (n * i.size) news).take ((n + m) * i.size) = L.take (n * i.size) ++ news := by
        unfold splice
        rw [← List.append_assoc]
        refine List.take_left' ?_
        rw [List.length_append, List.length_take, hl, Nat.min_eq_left hnl, Nat.add_mul]
      rwa [e1] at this
  · obtain ⟨v', w', hrun, r1, r2⟩ := run_append_arg_grows (P := P) w t ty e i z i.size i.bytes ht hi hz rfl rfl hzs hsz ⟨g, 0, none⟩ n c (L.take (n * i.size)) (by rw [List.length_take]; exact Nat.min_eq_left hnl)
      (fun j u hj => by
        rw [Go.WideShapes.add_plain, Nat.zero_add, hg.cell]
        rw [List.getElem?_take] at hj
        split at hj
        · exact hj
        · cases hj) ad m d news hl (hnews ad rfl) (by omega) h63 hbytes
    obtain ⟨A', c', rfl⟩ : ∃ A c, v' = .slice A (n + m) c := by
      rcases r1.2 with ⟨rfl, h0⟩ | ⟨g', cap, cur, rfl, _⟩
      · exact ⟨none, 0, by rw [h0]⟩
      · exact ⟨_, _, rfl⟩
    refine ⟨A', c', w', hrun, ⟨r1.1, ?_⟩, fun b eb => Or.inr ?_, grownNone r2⟩
    · rcases r1.2 with h | ⟨g', cap, cur, h, hb, r⟩
      · exact Or.inl h
      · exact Or.inr ⟨g', cap, cur, h, by omega, r⟩
    · subst eb
      exact (r1.lt b.block rfl).1
theorem wpList_append_whole {w : World} {ops : Array Oper} {rest : List Oper} {o : Oper} {a : Act} {Q : Exit → Act → World → Prop} (hgd : o.guard = none) (s x : Operand) (t : TypeId)
    (ho : o.op = .call { callee := .builtin .append, args := #[s, x], argTypes := #[t, t] })
    (base : Nat) (e : TypeId) (i : TypeInfo) (z : Value) (size bytes : Nat) (ht : P.underlying t = some (.slice e)) (hi : P.info? e = some i) (hz : i.zero = some z)
    (hsize : i.size = size) (hby : i.bytes = bytes) (hzs : z.cells.size = size) (hsz : 0 < size) (g n c : Nat) (hs : a.eval s = .slice (some ⟨g, 0, none⟩) n c) (L : List Value) (hg : Rw w g e L) (hbg : base ≤ g) (hnc : n ≤ c) (hcm : c ≤ maxLen) (hLl : L.length = c * size)
    (ad : Addr) (m d : Nat) (hx : a.eval x = .slice (some ad) m d) (news : List Value) (hl : news.length = m * size) (hnews : CellsAt w (some ad) news) (h1 : ∀ u ∈ news, u.oneCell' = true) (h63 : n + m ≤ maxLen) (hbytes : (n + m) * bytes ≤ 140737488355328)
    (h : ∀ A' c' w', Hid (w'.ownsRow base e size (.slice A' (n + m) c') (n + m) (L.take (n * size) ++ news)) → Hid (∀ b, A' = some b → b.block = g ∨ w.heap.size ≤ b.block) → Hid (w.grownBy w' (some g)) → wpList P ops Q rest (a.put o.dst (.slice A' (n + m) c')) w') :
    wpList P ops Q (o :: rest) a w := by
  refine wpList_plain hgd fun K hK => ?_
  obtain ⟨A', c', w', hrun, r1, r2, r3⟩ := run_append_whole (P := P) w base t o.type e i z size bytes ht hi hz hsize hby hzs hsz g n c L hg hbg hnc hcm hLl ad m d news hl hnews h1 h63 hbytes
  unfold Oper.wp
  simp [execOp, ho, resolve, invoke, builtin, hs, hx, hrun, Result.andThen]
  exact hK _ _ (h A' c' w' r1 r2 r3)
/-- append of noughts, as many as there is no room for: a new row. -/
theorem wpList_append_zeros {w : World} {ops : Array Oper} {rest : List Oper} {o : Oper} {a : Act} {Q : Exit → Act → World → Prop} (hgd : o.guard = none) (s x : Operand) (t tn : TypeId)
    (ho : o.op = .call { callee := .builtin .append, args := #[s, x], argTypes := #[t, tn] }) (e : TypeId) (i : TypeInfo) (z : Value) (size bytes : Nat) (ht : P.underlying t = some (.slice e)) (htn : P.underlying tn = some (.int .i64)) (hi : P.info? e = some i) (hz : i.zero = some z)
    (hsize : i.size = size) (hby : i.bytes = bytes) (hzs : z.cells.size = size) (hsz : 0 < size)
    (g n c : Nat) (hs : a.eval s = .slice (some ⟨g, 0, none⟩) n c) (olds : List Value) (hl : olds.length = n * size) (hold : CellsAt w (some ⟨g, 0, none⟩) olds) (m : Nat) (kn : Int) (hkn : kn = (m : Int)) (hx : a.eval x = .int .i64 kn) (h0 : 0 < m) (hroom : c < n + m) (h63 : n + m ≤ 4611686018427387904) (hbytes : (n + m) * bytes ≤ 140737488355328)
    (h : ∀ w' G L, Hid (Rw w' w.heap.size e L ∧ n + m ≤ G ∧ G ≤ maxLen ∧ L.length = G * size ∧ L.take (n * size) = olds) → Hid (w.grownBy w' none) → wpList P ops Q rest (a.put o.dst (.slice (some ⟨w.heap.size, 0, none⟩) (n + m) G)) w') : wpList P ops Q (o :: rest) a w := by
  refine wpList_plain hgd fun K hK => ?_
  subst hsize
  subst hby
  subst hkn
  have hf : (Builtin.firstCells i.size n (.slice (some ⟨g, 0, none⟩) n c)).run P w.drew = .ok olds.toArray w.drew := run_firstCells_some w.drew i.size n ⟨g, 0, none⟩ n c olds hl (fun j v hj => hold _ rfl j v hj)
  have hrun := Lib.run_append_grow_zeros (P := P) w t tn o.type e i z .i64 .i64 ht htn hi hz (some ⟨g, 0, none⟩) n c olds hf m h0 hsz hroom (by omega) (by
      have := Nat.mul_le_mul_right i.bytes (show m ≤ n + m by omega)
      omega) (growslice_fits hroom hbytes)
  have hge := grownCap_ge w (n + m) c e
  have hcm := grownCap_le_maxLen w (n + m) c e (by unfold maxLen; omega)
  obtain ⟨G, hG⟩ : ∃ G, grownCap w (n + m) c e = G := ⟨_, rfl⟩
  rw [hG] at hrun hge hcm
  unfold Oper.wp
  simp [execOp, ho, resolve, invoke, builtin, hs, hx, hrun, Result.andThen]
  refine hK _ _ (h _ G (olds ++ (Builtin.zeroCells z.cells m).toList ++ (Builtin.zeroCells z.cells (G - (n + m))).toList) ⟨?_, hge, hcm, ?_, ?_⟩ ?_)
  · unfold Rw
    show (w.heap.push _)[w.heap.size]? = _
    simp
  · simp only [List.length_append, Array.length_toList, size_zeroCells, hzs, hl]
    rw [← Nat.add_mul, ← Nat.add_mul]
    congr 1
    omega
  · rw [List.append_assoc, List.take_append_of_le_length (by omega), List.take_of_length_le (by omega)]
  · exact ⟨rfl, rfl, rfl, by simp, fun k hk _ => Below.heap_alloc w.drew _ k hk⟩
/-- Do two rows of the call's own share memory? No, where they are two blocks. -/
theorem run_overlaps_own (w : World) (tS tR e : TypeId) (ht : P.underlying tS = some (.slice e)) (size : Nat) (hz : ∀ w, (Go.sizeOf e).run P w = .ok size w)
    (g off g2 off2 la ca lb cb : Nat) (hne : g ≠ g2) (L L2 : List Value) (e1 e2 : TypeId) (h : Rw w g e1 L) (h2 : Rw w g2 e2 L2) (hpos : L2.length ≠ 0) :
    (Extern.SlicesOverlaps.overlaps #[tS, tS] #[tR] #[.slice (some ⟨g, off, none⟩) la ca, .slice (some ⟨g2, off2, none⟩) lb cb]).run P w = .ok (.bool false) w :=
  Lib.run_overlaps_apart w tS tR e ht size hz ⟨g, off, none⟩ ⟨g2, off2, none⟩ la ca lb cb hne e1 e2 L.length L2.length h.shape h2.shape hpos (h.free off) (h.free _)
end

theorem splice_at {α : Type} (A B V : List α) (h : V.length ≤ B.length) : splice (A ++ B) A.length V = A ++ (V ++ B.drop V.length) := by
  unfold splice
  rw [List.take_left, List.drop_append]
  congr 2
  rw [List.drop_of_length_le (by omega), List.nil_append]
  congr 1; omega

end Go.Proofs.Ytbihliaeidpfaaa
