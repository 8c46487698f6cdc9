/- What Size, Runs, Span and At of layer 7 (heap) return. -/
import Derived.Test.YtcngcibiibchiaaGreatHeapObj
import Derived.Test.YtcngcibiibchiaaGreatIndexAll
namespace Go.Proofs.YtcngcibiibchiaaGreat
open Go.RowKit Go.Maps
set_option linter.unusedVariables false

/-- A look-up by a number, in a map that has these spans. -/
theorem wpList_look_span (w : World) {ops : Array Oper} {rest : List Oper} {o : Oper} {a : Act} {Q : Exit → Act → World → Prop} (hg : o.guard = none) (m x : Operand) (hop : o.op = Op.lookup 63 m x true)
    (b n : Nat) (D : DataW Unit) (l : List (Int × Int × Int × Int)) (hm : a.eval m = .map (some b)) (hown : w.ownsMap Tryz.prog 3 spanR b n D) (hmis : MIs D l) (id : Int) (hx : a.eval x = .int .i64 id) (hid : in64 id)
    (s1 s2 s3 s4 : Int) (ok : Bool) (hs : spanOf l id = (s1, s2, s3, s4)) (hok : l.any (fun s => s.1 == id) = ok)
    (hK : wpList Tryz.prog ops Q rest (a.put o.dst (.tuple #[.agg #[.int .i64 s1, .int .i64 s2, .int .i64 s3, .int .i64 s4], .bool ok])) w) : wpList Tryz.prog ops Q (o :: rest) a w := by
  refine wpList_lookup_own_ok w hg m x 63 hop 3 43 keyed Tryz.underlying63 spanR (zero_span w) (encS spanNone) [] (spanR_mk _) b n D hm hown _ _ hx (key_of hid) ?_
  intro v ps hv
  obtain ⟨s, rfl, e⟩ := spanR_inv hv
  have e1 := congrArg Prod.fst e
  rw [hmis.get] at e1
  have e2 := encS_inj e1
  rw [hs] at e2
  subst e2
  rw [hmis.has, hok]
  exact hK
/-- .. in a nil map. -/
theorem wpList_look_nil (w : World) {ops : Array Oper} {rest : List Oper} {o : Oper} {a : Act} {Q : Exit → Act → World → Prop} (hg : o.guard = none) (m x : Operand) (hop : o.op = Op.lookup 63 m x true)
    (hm : a.eval m = .map none) (id : Int) (hx : a.eval x = .int .i64 id) (hid : in64 id)
    (hK : wpList Tryz.prog ops Q rest (a.put o.dst (.tuple #[.agg #[.int .i64 0, .int .i64 0, .int .i64 0, .int .i64 0], .bool false])) w) : wpList Tryz.prog ops Q (o :: rest) a w := by
  refine wpList_plain hg fun K' hK' => ?_
  have hrun := Maps.look_nil (w := w) true keyed Tryz.underlying63 (zero_span w) (key_of hid)
  unfold Oper.wp
  simp [execOp, hop, hm, hx, hrun, Result.andThen]
  exact hK' _ _ hK

/-- A part of a heap's value. -/
theorem field_ix (ix fr : Option Addr) (mb : Option Nat) (k : Int) (w : World) : (Instr.field 65 (.agg #[.pointer ix, .pointer fr, .map mb, .int .i64 k]) 0).run Tryz.prog w = .ok (.pointer ix) w := by kernel_rfl
theorem field_fr (ix fr : Option Addr) (mb : Option Nat) (k : Int) (w : World) : (Instr.field 65 (.agg #[.pointer ix, .pointer fr, .map mb, .int .i64 k]) 1).run Tryz.prog w = .ok (.pointer fr) w := by kernel_rfl
theorem field_mb (ix fr : Option Addr) (mb : Option Nat) (k : Int) (w : World) : (Instr.field 65 (.agg #[.pointer ix, .pointer fr, .map mb, .int .i64 k]) 2).run Tryz.prog w = .ok (.map mb) w := by kernel_rfl

/-- Size. -/
theorem code_hsize {w : World} {S : Nat → Prop} {p : Nat} {h : HeapV} (k : Hp w S p h) :
    Calls Tryz.prog 7 #[.pointer (some ⟨p, 0, none⟩)] w fun e w' => e = .returned (.int .i64 h.pages) ∧ Below w.heap.size w w' := by
  obtain ⟨ip, ig, fp, mb, n, m, ids, D, Sf, k1, k2, k3, k4, k5, k6, k7⟩ := k
  have cp := code_hparts p _ _ _ _ w k1.c0 k1.c1 k1.c2 k1.c3
  have cx : ∀ W, Below w.heap.size w W → Calls Tryz.prog 27 #[.pointer (some ⟨ip, 0, none⟩)] W fun e w' => e = .returned (.int .i64 h.pages) ∧ Below w.heap.size w w' := fun W hb => by
    have := code_xpages ip _ n n W (k1.ix.below hb (Nat.le_refl _)).cell
    rw [k1.nlen] at this
    exact this.mono fun e w' ⟨e1, e2⟩ => ⟨e1, e2 ▸ hb⟩
  clear k1 k2 k3 k4 k5 k6 k7
  have ff := field_ix
  go_enter Tryz.func7, Tryz.ntmps7
  go_wp2_with (first
    | (go_at_call 26; (with_reducible refine cp.mono ?_); rintro e w1 ⟨rfl, hb1⟩)
    | (go_at_call 27; (with_reducible refine (cx _ hb1).mono ?_); rintro e w2 ⟨rfl, hb2⟩))
  go_ret
  exact ⟨rfl, hb2⟩
theorem code_hsize_nil (w : World) :
    Calls Tryz.prog 7 #[.pointer none] w fun e w' => e = .returned (.int .i64 0) ∧ Below w.heap.size w w' := by
  have cp := code_hparts_nil w
  have cx := code_xpages_nil
  have ff := field_ix
  go_enter Tryz.func7, Tryz.ntmps7
  go_wp2_with (first
    | (go_at_call 26; (with_reducible refine cp.mono ?_); rintro e w1 ⟨rfl, hb1⟩)
    | (go_at_call 27; (with_reducible refine (cx _).mono ?_); rintro e w2 ⟨rfl, rfl⟩))
  go_ret
  exact ⟨rfl, hb1⟩
/-- Runs. -/
theorem code_hruns {w : World} {S : Nat → Prop} {p : Nat} {h : HeapV} (k : Hp w S p h) :
    Calls Tryz.prog 20 #[.pointer (some ⟨p, 0, none⟩)] w (OwnRuns w (fList h.free)) := by
  obtain ⟨ip, ig, fp, mb, n, m, ids, D, Sf, k1, k2, k3, k4, k5, k6, k7⟩ := k
  have cp := code_hparts p _ _ _ _ w k1.c0 k1.c1 k1.c2 k1.c3
  have cx : ∀ W, Below w.heap.size w W → Calls Tryz.prog 40 #[.pointer (some ⟨fp, 0, none⟩)] W (OwnRuns w (fList h.free)) := fun W hb => (code_rlist (k2.below hb)).mono fun e w' ⟨A, c, e1, e2, e3⟩ => ⟨A, c, e1, own_lower e2 hb.size, hb.trans (e3.mono hb.size)⟩
  clear k1 k2 k3 k4 k5 k6 k7
  have ff := field_fr
  go_enter Tryz.func20, Tryz.ntmps20
  go_wp2_with (first
    | (go_at_call 26; (with_reducible refine cp.mono ?_); rintro e w1 ⟨rfl, hb1⟩)
    | (go_at_call 40; (with_reducible refine (cx _ hb1).mono ?_); rintro e w2 ⟨A, c, rfl, h2, h3⟩))
  go_ret
  exact ⟨A, c, rfl, h2, h3⟩
theorem code_hruns_nil (w : World) : Calls Tryz.prog 20 #[.pointer none] w (OwnRuns w []) := by
  have cp := code_hparts_nil w
  have cx : ∀ W, Below w.heap.size w W → Calls Tryz.prog 40 #[.pointer none] W (OwnRuns w []) := fun W hb => (code_rlist_nil W).mono fun e w' ⟨A, c, e1, e2, e3⟩ => ⟨A, c, e1, own_lower e2 hb.size, hb.trans (e3.mono hb.size)⟩
  have ff := field_fr
  go_enter Tryz.func20, Tryz.ntmps20
  go_wp2_with (first
    | (go_at_call 26; (with_reducible refine cp.mono ?_); rintro e w1 ⟨rfl, hb1⟩)
    | (go_at_call 40; (with_reducible refine (cx _ hb1).mono ?_); rintro e w2 ⟨A, c, rfl, h2, h3⟩))
  go_ret
  exact ⟨A, c, rfl, h2, h3⟩

theorem cells4 {w : World} {b : Nat} {t : TypeId} {v0 v1 v2 v3 : Value} (h : w.heap[b]? = some (.cells #[v0, v1, v2, v3] t (0, 0))) :
    w.cell? ⟨b, 0, none⟩ = some v0 ∧ w.cell? ⟨b, 1, none⟩ = some v1 ∧ w.cell? ⟨b, 2, none⟩ = some v2 ∧ w.cell? ⟨b, 3, none⟩ = some v3 ∧ w.frozen? ⟨b, 0, none⟩ = false ∧ w.frozen? ⟨b, 1, none⟩ = false ∧ w.frozen? ⟨b, 2, none⟩ = false ∧ w.frozen? ⟨b, 3, none⟩ = false := by
  refine ⟨?_, ?_, ?_, ?_, ?_, ?_, ?_, ?_⟩ <;> simp [World.cell?, World.frozen?, h]
/-- What Span answers: the span of a number, and whether there is one. -/
def SpanIs (w : World) (s : Int × Int × Int × Int) (ok : Bool) (e : Ending) (w' : World) : Prop := e = .returned (.tuple #[spv s, .bool ok]) ∧ Below w.heap.size w w'
theorem code_hspan {w : World} {S : Nat → Prop} {p : Nat} {h : HeapV} (k : Hp w S p h) (id : Int) (hid : in64 id) :
    Calls Tryz.prog 12 #[.pointer (some ⟨p, 0, none⟩), .int .i64 id] w (SpanIs w (spanOf h.l id) (h.l.any fun s => s.1 == id)) := by
  obtain ⟨ip, ig, fp, mb, n, m, ids, D, Sf, k1, k2, k3, k4, k5, k6, k7⟩ := k
  have hb0 : Below w.heap.size w (w.alloc (.cells #[.int .i64 0, .int .i64 0, .int .i64 0, .int .i64 0] 43)) := (Below.refl _ _).alloc (Nat.le_refl _) _
  have cp := code_hparts p _ _ _ _ _ (alloc_old (.cells #[.int .i64 0, .int .i64 0, .int .i64 0, .int .i64 0] 43) k1.c0) (alloc_old _ k1.c1) (alloc_old _ k1.c2) (alloc_old _ k1.c3)
  have HM : Hid (∀ W, Below w.heap.size w W → W.ownsMap Tryz.prog 3 spanR mb m D) := hidb (fun W hb => ownsMap_block k1.mp (hb.block mb (k5 _ k3.2.2.2)))
  have HI := hidb k1.mis
  obtain ⟨⟨s1, s2, s3, s4⟩, hs⟩ : ∃ s, spanOf h.l id = s := ⟨_, rfl⟩
  obtain ⟨ok, hok⟩ : ∃ ok, (h.l.any fun s => s.1 == id) = ok := ⟨_, rfl⟩
  rw [hs, hok]
  have HS := hidb hs
  have HOK := hidb hok
  have HB0 := hidb hb0
  have hzz : w.heap.size < (w.alloc (.cells #[.int .i64 0, .int .i64 0, .int .i64 0, .int .i64 0] 43)).heap.size := by simp
  have HC : Hid (∀ W, Below (w.alloc (.cells #[.int .i64 0, .int .i64 0, .int .i64 0, .int .i64 0] 43)).heap.size (w.alloc (.cells #[.int .i64 0, .int .i64 0, .int .i64 0, .int .i64 0] 43)) W →
      W.heap[w.heap.size]? = some (.cells #[.int .i64 0, .int .i64 0, .int .i64 0, .int .i64 0] 43 (0, 0))) := hidb (fun W hb => (hb.block _ hzz).trans (by show (w.heap.push _)[w.heap.size]? = _; simp))
  clear k1 k2 k3 k4 k5 k6 k7 hs hok hb0
  have ff := field_mb
  go_enter Tryz.func12, Tryz.ntmps12
  go_wp2_with (first
    | (go_at_call 26; (with_reducible refine cp.mono ?_); rintro e w1 ⟨rfl, hb1⟩; have hb2 := HB0.out.trans (hb1.mono (Nat.le_of_lt hzz)); have HO := hidb (HM.out _ hb2); obtain ⟨q0, q1, q2, q3, z0, z1, z2, z3⟩ := cells4 (HC.out _ hb1); have hlt1 : w.heap.size < w1.heap.size := lt_of_cell q0)
    | (at_lookup; refine wpList_look_span _ rfl _ _ rfl mb m D h.l rfl HO.out HI.out id rfl hid s1 s2 s3 s4 ok HS.out HOK.out ?_)
    | go_in)
  obtain ⟨y0, y1, y2, y3⟩ := four_cellsH w1 w.heap.size (.int .i64 s1) (.int .i64 s2) (.int .i64 s3) (.int .i64 s4) _ _ _ _ q0 q1 q2 q3
  have x0 := alloc_old (.cells #[.int .i64 s1, .int .i64 s2, .int .i64 s3, .int .i64 s4] 43) y0
  have x1 := alloc_old (.cells #[.int .i64 s1, .int .i64 s2, .int .i64 s3, .int .i64 s4] 43) y1
  have x2 := alloc_old (.cells #[.int .i64 s1, .int .i64 s2, .int .i64 s3, .int .i64 s4] 43) y2
  have x3 := alloc_old (.cells #[.int .i64 s1, .int .i64 s2, .int .i64 s3, .int .i64 s4] 43) y3
  refine bodyPost_ret (v := .tuple #[.agg #[.int .i64 s1, .int .i64 s2, .int .i64 s3, .int .i64 s4], .bool ok]) (by simp [results, Tryz.results12, go_sem, x0, x1, x2, x3]) rfl ?_
  have hb3 := below_set4H hb2 (Nat.le_refl _) (.int .i64 s1) (.int .i64 s2) (.int .i64 s3) (.int .i64 s4)
  exact ⟨rfl, hb3.alloc hb3.size _⟩

theorem code_hspan_nil (id : Int) (hid : in64 id) (w : World) :
    Calls Tryz.prog 12 #[.pointer none, .int .i64 id] w (SpanIs w spanNone false) := by
  have hb0 : Below w.heap.size w (w.alloc (.cells #[.int .i64 0, .int .i64 0, .int .i64 0, .int .i64 0] 43)) := (Below.refl _ _).alloc (Nat.le_refl _) _
  have cp := code_hparts_nil (w.alloc (.cells #[.int .i64 0, .int .i64 0, .int .i64 0, .int .i64 0] 43))
  have HB0 := hidb hb0
  have hzz : w.heap.size < (w.alloc (.cells #[.int .i64 0, .int .i64 0, .int .i64 0, .int .i64 0] 43)).heap.size := by simp
  have HC : Hid (∀ W, Below (w.alloc (.cells #[.int .i64 0, .int .i64 0, .int .i64 0, .int .i64 0] 43)).heap.size (w.alloc (.cells #[.int .i64 0, .int .i64 0, .int .i64 0, .int .i64 0] 43)) W →
      W.heap[w.heap.size]? = some (.cells #[.int .i64 0, .int .i64 0, .int .i64 0, .int .i64 0] 43 (0, 0))) := hidb (fun W hb => (hb.block _ hzz).trans (by show (w.heap.push _)[w.heap.size]? = _; simp))
  clear hb0
  have ff := field_mb
  go_enter Tryz.func12, Tryz.ntmps12
  go_wp2_with (first
    | (go_at_call 26; (with_reducible refine cp.mono ?_); rintro e w1 ⟨rfl, hb1⟩; have hb2 := HB0.out.trans (hb1.mono (Nat.le_of_lt hzz)); obtain ⟨q0, q1, q2, q3, z0, z1, z2, z3⟩ := cells4 (HC.out _ hb1); have hlt1 : w.heap.size < w1.heap.size := lt_of_cell q0)
    | (at_lookup; refine wpList_look_nil _ rfl _ _ rfl rfl id rfl hid ?_)
    | go_in)
  obtain ⟨y0, y1, y2, y3⟩ := four_cellsH w1 w.heap.size (.int .i64 0) (.int .i64 0) (.int .i64 0) (.int .i64 0) _ _ _ _ q0 q1 q2 q3
  have x0 := alloc_old (.cells #[.int .i64 0, .int .i64 0, .int .i64 0, .int .i64 0] 43) y0
  have x1 := alloc_old (.cells #[.int .i64 0, .int .i64 0, .int .i64 0, .int .i64 0] 43) y1
  have x2 := alloc_old (.cells #[.int .i64 0, .int .i64 0, .int .i64 0, .int .i64 0] 43) y2
  have x3 := alloc_old (.cells #[.int .i64 0, .int .i64 0, .int .i64 0, .int .i64 0] 43) y3
  refine bodyPost_ret (v := .tuple #[.agg #[.int .i64 0, .int .i64 0, .int .i64 0, .int .i64 0], .bool false]) (by simp [results, Tryz.results12, go_sem, x0, x1, x2, x3]) rfl ?_
  have hb3 := below_set4H hb2 (Nat.le_refl _) (.int .i64 0) (.int .i64 0) (.int .i64 0) (.int .i64 0)
  exact ⟨rfl, hb3.alloc hb3.size _⟩

/-- The span of an address. -/
def atOf (l : List (Int × Int × Int × Int)) (a : Int) : Option (Int × Int × Int × Int) := if a < 0 then none else l.find? (inSpan a)
theorem at_plain {h : HeapV} {ids : List Int} (k : HOk h) (hp : Paint ids h) (a : Int) :
    spanOf h.l (xOf ids (if a < 0 then -1 else a / 64)) = (atOf h.l a).getD spanNone ∧ (h.l.any fun s => s.1 == xOf ids (if a < 0 then -1 else a / 64)) = (atOf h.l a).isSome := by
  have hno : ∀ i : Int, i = 0 → spanOf h.l i = spanNone ∧ (h.l.any fun s => s.1 == i) = false := fun i hi => by
    have hn : ¬ ∃ s ∈ h.l, s.1 = i := fun ⟨s, hs, e⟩ => by have := k.idr s hs; omega
    refine ⟨spanOf_none hn, ?_⟩
    cases e : h.l.any (fun s => s.1 == i) with
    | false => rfl
    | true => exact absurd ((MIs.any_iff i).1 e) hn
  unfold atOf
  by_cases c : a < 0
  · rw [if_pos c, if_pos c]
    have e : xOf ids (-1) = 0 := by unfold xOf; rw [if_neg (by omega)]
    rw [e]
    exact hno 0 rfl
  · rw [if_neg c, if_neg c]
    rcases paint_at k hp (a / 64) (by omega) with ⟨s, hs, e, h1, h2⟩ | ⟨e, h1⟩
    · rw [e, spanOf_eq k hs]
      have hf : h.l.find? (inSpan a) = some s := by
        cases e2 : h.l.find? (inSpan a) with
        | none =>
          have := List.find?_eq_none.1 e2 s hs
          exact absurd (decide_eq_true (show s.2.1 ≤ a / 64 ∧ a / 64 < s.2.1 + s.2.2.1 from ⟨h1, h2⟩)) this
        | some t =>
          have ht0 : inSpan a t = true := List.find?_some e2
          have ht := of_decide_eq_true ht0
          rw [k.apart hs (List.mem_of_find?_eq_some e2) ⟨h1, h2⟩ ht]
      rw [hf]
      exact ⟨rfl, (MIs.any_iff s.1).2 ⟨s, hs, rfl⟩⟩
    · have hf : h.l.find? (inSpan a) = none := List.find?_eq_none.2 fun s hs c2 => h1 s hs (of_decide_eq_true c2)
      rw [hf]
      exact hno _ e
theorem code_hat {w : World} {S : Nat → Prop} {p : Nat} {h : HeapV} (k : Hp w S p h) (a : Int) (ha : in64 a) :
    Calls Tryz.prog 14 #[.pointer (some ⟨p, 0, none⟩), .int .i64 a] w (SpanIs w ((atOf h.l a).getD spanNone) (atOf h.l a).isSome) := by
  have K := hidb k
  obtain ⟨ip, ig, fp, mb, n, m, ids, D, Sf, k1, k2, k3, k4, k5, k6, k7⟩ := k
  have hb0 : Below w.heap.size w (w.alloc (.cells #[.int .i64 0, .int .i64 0, .int .i64 0, .int .i64 0] 43)) := (Below.refl _ _).alloc (Nat.le_refl _) _
  have cp := code_hparts p _ _ _ _ _ (alloc_old (.cells #[.int .i64 0, .int .i64 0, .int .i64 0, .int .i64 0] 43) k1.c0) (alloc_old _ k1.c1) (alloc_old _ k1.c2) (alloc_old _ k1.c3)
  have HB0 := hidb hb0
  have hzz : w.heap.size < (w.alloc (.cells #[.int .i64 0, .int .i64 0, .int .i64 0, .int .i64 0] 43)).heap.size := by simp
  have HC : Hid (∀ W, Below (w.alloc (.cells #[.int .i64 0, .int .i64 0, .int .i64 0, .int .i64 0] 43)).heap.size (w.alloc (.cells #[.int .i64 0, .int .i64 0, .int .i64 0, .int .i64 0] 43)) W →
      W.heap[w.heap.size]? = some (.cells #[.int .i64 0, .int .i64 0, .int .i64 0, .int .i64 0] 43 (0, 0))) := hidb (fun W hb => (hb.block _ hzz).trans (by show (w.heap.push _)[w.heap.size]? = _; simp))
  obtain ⟨e1, e2⟩ := at_plain k1.ok k1.pt a
  obtain ⟨i, hi⟩ : ∃ i, xOf ids (if a < 0 then -1 else a / 64) = i := ⟨_, rfl⟩
  have hin : in64 i := by
    have hlb := k1.lb
    have h0 : ∀ q : Int, 0 ≤ q → in64 (xOf ids q) := fun q hq => by
      rcases paint_at k1.ok k1.pt q hq with ⟨s, hs, e, _⟩ | ⟨e, _⟩
      · rw [e]; have := k1.ok.idr s hs; exact ⟨by omega, by omega⟩
      · rw [e]; exact ⟨by omega, by omega⟩
    rw [← hi]
    by_cases c : a < 0
    · rw [if_pos c]
      have e : xOf ids (-1) = 0 := by unfold xOf; rw [if_neg (by omega)]
      rw [e]; exact ⟨by omega, by omega⟩
    · rw [if_neg c]; exact h0 _ (by omega)
  have cx : ∀ W, Below w.heap.size w W → Calls Tryz.prog 35 #[.pointer (some ⟨ip, 0, none⟩), .int .i64 a] W fun e w' => e = .returned (.int .i64 i) ∧ W = w' := fun W hb => by
    have := code_xat (k1.ix.below hb (Nat.le_refl _)) a ha
    unfold pageOf at this
    rw [hi] at this
    exact this
  have cs : ∀ W, Below w.heap.size w W → Calls Tryz.prog 12 #[.pointer (some ⟨p, 0, none⟩), .int .i64 i] W (SpanIs W ((atOf h.l a).getD spanNone) (atOf h.l a).isSome) := fun W hb => by
    have := code_hspan (K.out.below hb) i hin
    rw [← hi, e1, e2] at this
    rw [← hi]
    exact this
  obtain ⟨⟨s1, s2, s3, s4⟩, hs⟩ : ∃ s, (atOf h.l a).getD spanNone = s := ⟨_, rfl⟩
  obtain ⟨ok, hok⟩ : ∃ ok, (atOf h.l a).isSome = ok := ⟨_, rfl⟩
  rw [hs, hok] at cs ⊢
  replace cs : ∀ W, Below w.heap.size w W → Calls Tryz.prog 12 #[.pointer (some ⟨p, 0, none⟩), .int .i64 i] W fun e w' => e = .returned (.tuple #[.agg #[.int .i64 s1, .int .i64 s2, .int .i64 s3, .int .i64 s4], .bool ok]) ∧ Below W.heap.size W w' := cs
  clear hb0 k1 k2 k3 k4 k5 k6 k7 e1 e2 hi hs hok K hin
  have ff := field_ix
  go_enter Tryz.func14, Tryz.ntmps14
  go_wp2_with (first
    | (go_at_call 26; (with_reducible refine cp.mono ?_); rintro e w1 ⟨rfl, hb1⟩; have hb2 := HB0.out.trans (hb1.mono (Nat.le_of_lt hzz)))
    | (go_at_call 35; (with_reducible refine (cx _ hb2).mono ?_); rintro e w2 ⟨rfl, rfl⟩)
    | (go_at_call 12; (with_reducible refine (cs _ hb2).mono ?_); rintro e w3 ⟨rfl, hb3⟩; obtain ⟨q0, q1, q2, q3, z0, z1, z2, z3⟩ := cells4 (HC.out _ (hb1.trans (hb3.mono hb1.size))); have hlt1 : w.heap.size < w3.heap.size := lt_of_cell q0))
  obtain ⟨y0, y1, y2, y3⟩ := four_cellsH w3 w.heap.size (.int .i64 s1) (.int .i64 s2) (.int .i64 s3) (.int .i64 s4) _ _ _ _ q0 q1 q2 q3
  refine bodyPost_ret (v := .tuple #[.agg #[.int .i64 s1, .int .i64 s2, .int .i64 s3, .int .i64 s4], .bool ok]) (by simp [results, Tryz.results14, go_sem, y0, y1, y2, y3]) rfl ?_
  exact ⟨rfl, below_set4H (hb2.trans (hb3.mono hb2.size)) (Nat.le_refl _) _ _ _ _⟩
theorem code_hat_nil (a : Int) (ha : in64 a) (w : World) :
    Calls Tryz.prog 14 #[.pointer none, .int .i64 a] w (SpanIs w spanNone false) := by
  have hb0 : Below w.heap.size w (w.alloc (.cells #[.int .i64 0, .int .i64 0, .int .i64 0, .int .i64 0] 43)) := (Below.refl _ _).alloc (Nat.le_refl _) _
  have cp := code_hparts_nil (w.alloc (.cells #[.int .i64 0, .int .i64 0, .int .i64 0, .int .i64 0] 43))
  have HB0 := hidb hb0
  have hzz : w.heap.size < (w.alloc (.cells #[.int .i64 0, .int .i64 0, .int .i64 0, .int .i64 0] 43)).heap.size := by simp
  have HC : Hid (∀ W, Below (w.alloc (.cells #[.int .i64 0, .int .i64 0, .int .i64 0, .int .i64 0] 43)).heap.size (w.alloc (.cells #[.int .i64 0, .int .i64 0, .int .i64 0, .int .i64 0] 43)) W →
      W.heap[w.heap.size]? = some (.cells #[.int .i64 0, .int .i64 0, .int .i64 0, .int .i64 0] 43 (0, 0))) := hidb (fun W hb => (hb.block _ hzz).trans (by show (w.heap.push _)[w.heap.size]? = _; simp))
  have cx := fun W => code_xat_nil W a ha
  have cs := fun W => code_hspan_nil 0 ⟨by omega, by omega⟩ W
  replace cs : ∀ W, Calls Tryz.prog 12 #[.pointer none, .int .i64 0] W fun e w' => e = .returned (.tuple #[.agg #[.int .i64 0, .int .i64 0, .int .i64 0, .int .i64 0], .bool false]) ∧ Below W.heap.size W w' := cs
  clear hb0
  have ff := field_ix
  go_enter Tryz.func14, Tryz.ntmps14
  go_wp2_with (first
    | (go_at_call 26; (with_reducible refine cp.mono ?_); rintro e w1 ⟨rfl, hb1⟩; have hb2 := HB0.out.trans (hb1.mono (Nat.le_of_lt hzz)))
    | (go_at_call 35; (with_reducible refine (cx _).mono ?_); rintro e w2 ⟨rfl, rfl⟩)
    | (go_at_call 12; (with_reducible refine (cs _).mono ?_); rintro e w3 ⟨rfl, hb3⟩; obtain ⟨q0, q1, q2, q3, z0, z1, z2, z3⟩ := cells4 (HC.out _ (hb1.trans (hb3.mono hb1.size))); have hlt1 : w.heap.size < w3.heap.size := lt_of_cell q0))
  obtain ⟨y0, y1, y2, y3⟩ := four_cellsH w3 w.heap.size (.int .i64 0) (.int .i64 0) (.int .i64 0) (.int .i64 0) _ _ _ _ q0 q1 q2 q3
  refine bodyPost_ret (v := .tuple #[.agg #[.int .i64 0, .int .i64 0, .int .i64 0, .int .i64 0], .bool false]) (by simp [results, Tryz.results14, go_sem, y0, y1, y2, y3]) rfl ?_
  exact ⟨rfl, below_set4H (hb2.trans (hb3.mono hb2.size)) (Nat.le_refl _) _ _ _ _⟩

end Go.Proofs.YtcngcibiibchiaaGreat
