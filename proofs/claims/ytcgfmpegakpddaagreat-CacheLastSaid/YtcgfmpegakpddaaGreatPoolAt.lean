/- What cutAt, in, and Order of a pool return. -/
import Derived.Test.YtcgfmpegakpddaaGreatPoolRise
namespace Go.Proofs.YtcgfmpegakpddaaGreat
open Go.RowKit Go.Maps
set_option linter.unusedVariables false

/-- The cut span of an address of a block. -/
def cutAtP (ks : List CutV) (a : Int) : Option CutV := ks.find? fun k => decide (a ∈ pBlocks k.s)
theorem cutAtP_mem {ks : List CutV} {a : Int} {k : CutV} (h : cutAtP ks a = some k) : k ∈ ks ∧ a ∈ pBlocks k.s := ⟨List.mem_of_find?_eq_some h, by have := List.find?_some h; simpa using this⟩
theorem blocks_in {s : Int × Int × Int × Int} {a : Int} (h : a ∈ pBlocks s) (h4 : s.2.2.1 = 4) (ho : 0 ≤ s.2.2.2 ∧ s.2.2.2 ≤ 3) : 64 * s.2.1 ≤ a ∧ a + pSize s.2.2.2 ≤ 64 * s.2.1 + 256 := by
  obtain ⟨i, hi, e⟩ := List.mem_map.1 h
  rw [h4, List.mem_range] at hi
  obtain ⟨m0, m1, m2, m3⟩ := pMany_16 s.2.2.2 ho.1 ho.2
  have h2 : (i + 1) * pSize s.2.2.2 ≤ pMany 4 s.2.2.2 * pSize s.2.2.2 := Nat.mul_le_mul_right _ (by omega)
  rw [Nat.add_mul, m2] at h2
  omega
theorem blocks_page {s : Int × Int × Int × Int} {a : Int} (h : a ∈ pBlocks s) (h4 : s.2.2.1 = 4) (ho : 0 ≤ s.2.2.2 ∧ s.2.2.2 ≤ 3) : s.2.1 ≤ a / 64 ∧ a / 64 < s.2.1 + s.2.2.1 := by
  have h1 := blocks_in h h4 ho
  have h2 := (pMany_16 s.2.2.2 ho.1 ho.2).2.2.2
  rw [h4]
  omega
section
variable {n m : Nat} {v : PoolW}
theorem PlOk.cutOk (o : PlOk n m v) (k : HOk v.h) {c : CutV} (hc : c ∈ v.ks) : CutOk c := by
  obtain ⟨h1, h2, h3⟩ := o.four c hc
  have := k.start (o.mem c hc)
  have := k.p1
  exact ⟨h1, by omega, by omega, h2, h3⟩
theorem PlOk.cutOf_ (o : PlOk n m v) {c : CutV} (hc : c ∈ v.ks) : cutOf v.ks c.s.1 = some c := by
  cases e : cutOf v.ks c.s.1 with
  | none => exact absurd (List.find?_eq_none.1 e c hc) (by simp)
  | some k =>
    obtain ⟨h1, h2⟩ := cutOf_mem e
    rw [kids_inj o.ids h1 hc h2]
theorem PlOk.at_some (o : PlOk n m v) (k : HOk v.h) {a : Int} {c : CutV} (h : cutAtP v.ks a = some c) : ((atOf v.h.l a).getD spanNone).1 = c.s.1 := by
  obtain ⟨h1, h2⟩ := cutAtP_mem h
  obtain ⟨f1, f2, f3⟩ := o.four c h1
  have hb := blocks_in h2 f1 ⟨f2, f3⟩
  have hp := blocks_page h2 f1 ⟨f2, f3⟩
  have hs := k.start (o.mem c h1)
  unfold atOf
  rw [if_neg (by omega)]
  cases e : v.h.l.find? (inSpan a) with
  | none => exact absurd (decide_eq_true hp) (List.find?_eq_none.1 e c.s (o.mem c h1))
  | some t =>
    have ht0 : inSpan a t = true := List.find?_some e
    have ht := of_decide_eq_true ht0
    rw [k.apart (o.mem c h1) (List.mem_of_find?_eq_some e) hp ht]; rfl
theorem PlOk.at_none (o : PlOk n m v) {a : Int} (h : cutAtP v.ks a = none) {id : Int} {c : CutV} (hc : cutOf v.ks id = some c) : a ∉ pBlocks c.s := fun h2 => by
  have := List.find?_eq_none.1 h c (cutOf_mem hc).1
  simp [h2] at this
/-- The span of an address, by the heap; then whether the address is a block's. -/
theorem PlOk.at_or (o : PlOk n m v) (k : HOk v.h) (a : Int) : (cutOf v.ks ((atOf v.h.l a).getD spanNone).1 = none ∧ cutAtP v.ks a = none) ∨ ∃ c, cutOf v.ks ((atOf v.h.l a).getD spanNone).1 = some c ∧ c ∈ v.ks ∧ ((a ∈ pBlocks c.s ∧ cutAtP v.ks a = some c) ∨ (a ∉ pBlocks c.s ∧ cutAtP v.ks a = none)) := by
  cases e : cutAtP v.ks a with
  | some c =>
    obtain ⟨h1, h2⟩ := cutAtP_mem e
    exact Or.inr ⟨c, by rw [o.at_some k e, o.cutOf_ h1], h1, Or.inl ⟨h2, rfl⟩⟩
  | none =>
    cases e2 : cutOf v.ks ((atOf v.h.l a).getD spanNone).1 with
    | none => exact Or.inl ⟨rfl, rfl⟩
    | some c => exact Or.inr ⟨c, rfl, (cutOf_mem e2).1, Or.inr ⟨o.at_none e e2, rfl⟩⟩
end

/-- A look-up by a number, in a map that has these cut spans. -/
theorem wpList_look_cut (w : World) {ops : Array Oper} {rest : List Oper} {o : Oper} {a : Act} {Q : Exit → Act → World → Prop} (hg : o.guard = none) (m x : Operand) (hop : o.op = Op.lookup 117 m x false)
    (b n : Nat) (D : DataW Unit) (ks : List CutV) (hm : a.eval m = .map (some b)) (hown : w.ownsMap Tryz.prog 3 ptrR b n D) (hmis : PIs D ks) (id : Int) (hx : a.eval x = .int .i64 id) (hid : in64 id)
    (hK : wpList Tryz.prog ops Q rest (a.put o.dst (ptrv ((cutOf ks id).map (·.b)))) w) : wpList Tryz.prog ops Q (o :: rest) a w := by
  obtain ⟨u, ps, hrun, hv⟩ := hown.lookup keyed Tryz.underlying117 (zero_ptr w) (ptrR_mk none) (key_of hid)
  obtain ⟨q, rfl, e⟩ := ptrR_inv hv
  have e1 := congrArg Prod.fst e
  simp only at e1
  rw [hmis.get] at e1
  have e2 := encP_inj e1
  subst e2
  refine wpList_plain hg fun K' hK' => ?_
  unfold Oper.wp
  simp [execOp, hop, hm, hx, hrun, Result.andThen]
  exact hK' _ _ hK
theorem look_cut_run {w : World} {b n : Nat} {D : DataW Unit} {ks : List CutV} (hown : w.ownsMap Tryz.prog 3 ptrR b n D) (hmis : PIs D ks) (id : Int) (hid : in64 id) :
    (Instr.lookup 117 (.map (some b)) (.int .i64 id) false).run Tryz.prog w = .ok (ptrv ((cutOf ks id).map (·.b))) w := by
  obtain ⟨u, ps, hrun, hv⟩ := hown.lookup keyed Tryz.underlying117 (zero_ptr w) (ptrR_mk none) (key_of hid)
  obtain ⟨q, rfl, e⟩ := ptrR_inv hv
  have e1 := congrArg Prod.fst e
  simp only at e1
  rw [hmis.get] at e1
  have e2 := encP_inj e1
  subst e2
  exact hrun

theorem atOf_in64 {w : World} {S : Nat → Prop} {p : Nat} {h : HeapV} (k : Hp w S p h) (a : Int) : in64 ((atOf h.l a).getD spanNone).1 := by
  cases e : atOf h.l a with
  | none => exact ⟨by show (-9223372036854775808 : Int) ≤ 0; omega, by show (0 : Int) ≤ 9223372036854775807; omega⟩
  | some s =>
    have hs : s ∈ h.l := by
      unfold atOf at e
      split at e
      · cases e
      · exact List.mem_of_find?_eq_some e
    have h1 := k.ok.idr s hs
    have h2 := k.lb
    exact ⟨by show (-9223372036854775808 : Int) ≤ s.1; omega, by show s.1 ≤ 9223372036854775807; omega⟩

set_option maxRecDepth 100000 in
/-- cutAt. -/
theorem code_cutat {w : World} {Sh : Nat → Prop} {p hp ap g mb n m : Nat} {D : DataW Unit} {v : PoolW} (k : PlAt w Sh p hp ap g mb n m D v) (o : PlOk n m v) (a : Int) (ha : in64 a) :
    Calls Tryz.prog 62 #[.pointer (some ⟨p, 0, none⟩), .int .i64 a] w fun e w' => e = .returned (ptrv ((cutAtP v.ks a).map (·.b))) ∧ Below w.heap.size w w' := by
  have cp := code_pparts p (some ⟨hp, 0, none⟩) (some ⟨ap, 0, none⟩) (some mb) v.held w k.c0 k.c1 k.c2 k.c3
  obtain ⟨⟨s1, s2, s3, s4⟩, hs⟩ : ∃ s, (atOf v.h.l a).getD spanNone = s := ⟨_, rfl⟩
  obtain ⟨ok, hok⟩ : ∃ ok, (atOf v.h.l a).isSome = ok := ⟨_, rfl⟩
  have cs : ∀ W, Below w.heap.size w W → Calls Tryz.prog 116 #[.pointer (some ⟨hp, 0, none⟩), .int .i64 a] W fun e w' => e = .returned (.tuple #[.agg #[.int .i64 s1, .int .i64 s2, .int .i64 s3, .int .i64 s4], .bool ok]) ∧ Below W.heap.size W w' := fun W hb => by
    have := code_hat (k.below hb).hp_ a ha
    rw [hs, hok] at this
    exact this
  have hid : in64 s1 := by have := atOf_in64 k.hp_ a; rw [hs] at this; exact this
  have HL : Hid (∀ W, Below w.heap.size w W → (Instr.lookup 117 (.map (some mb)) (.int .i64 s1) false).run Tryz.prog W = .ok (ptrv ((cutOf v.ks s1).map (·.b))) W) := hidb (fun W hb => look_cut_run (k.below hb).mp k.mis s1 hid)
  have HB : Hid (∀ c ∈ v.ks, ∀ W, Below w.heap.size w W → Calls Tryz.prog 67 #[pv c] W (OwnInts W (pBlocks c.s))) := hidb (fun c hc W hb => by
    obtain ⟨h1, h2, h3, h4, h5⟩ := o.cutOk k.hp_.ok hc
    exact code_pblocks c W ((k.cuts c hc).below hb) h1 h2 h3 h4 h5)
  have HA := hidb (o.at_or k.hp_.ok a)
  rw [hs] at HA
  have HBL : Hid (∀ c ∈ v.ks, (pBlocks c.s).length ≤ 16) := hidb (fun c hc => by
    obtain ⟨h1, h2, h3, h4, h5⟩ := o.cutOk k.hp_.ok hc
    rw [pBlocks_length, h1]
    exact (pMany_16 _ h4 h5).2.1)
  obtain ⟨R, hR⟩ : ∃ R, cutAtP v.ks a = R := ⟨_, rfl⟩
  rw [hR] at HA ⊢
  clear hs hok hR hid k o
  have hpn : ptrv none = .pointer none := rfl
  rcases HA.out with ⟨e1, rfl⟩ | ⟨c, e1, hc, h2⟩
  · rw [e1, Option.map_none, hpn] at HL
    rw [Option.map_none, hpn]
    clear HA e1 HB HBL hpn
    go_enter Tryz.func62, Tryz.ntmps62
    go_wp2_with (first
      | (go_at_call 112; (with_reducible refine cp.mono ?_); rintro e w1 ⟨rfl, hb1⟩)
      | (go_at_call 116; (with_reducible refine (cs _ (hb1.alloc hb1.size _)).mono ?_); rintro e w2 ⟨rfl, hb2'⟩; have hb2 : Below w.heap.size w w2 := (hb1.alloc hb1.size (.cells #[.pointer (some ⟨hp, 0, none⟩), .pointer (some ⟨ap, 0, none⟩), .map (some mb), .bool v.held] 119)).trans (hb2'.mono (hb1.alloc hb1.size _).size); have y2 : w2.cell? ⟨w1.heap.size, 2, none⟩ = some (.map (some mb)) := (hb2'.cell (p := ⟨w1.heap.size, 2, none⟩) (by simp)).trans (by simp); have hlt2 : w1.heap.size < w2.heap.size := lt_of_cell y2; have hl := fun o => HL.out (w2.alloc o) (hb2.alloc hb2.size o))
      | go_in)
    go_ret
    exact ⟨rfl, hb2.alloc hb2.size _⟩
  · rw [e1] at HL
    have hps : ptrv (some c.b) = .pointer (some ⟨c.b, 0, none⟩) := rfl
    rw [Option.map_some, hps] at HL
    have HBC := hidb (HB.out c hc)
    have hl16 := HBL.out c hc
    have HR : Hid ((a ∈ pBlocks c.s ∧ R = some c) ∨ (a ∉ pBlocks c.s ∧ R = none)) := hidb h2
    clear HA e1 HB HBL h2 hc
    unfold pv at HBC
    generalize hbl : pBlocks c.s = bl at HBC hl16 HR
    clear hbl
    by_cases hin : a ∈ bl
    · have hd : decide (a ∈ bl) = true := decide_eq_true hin
      have e : R = some c := by
        rcases HR.out with ⟨_, h⟩ | ⟨h, _⟩
        · exact h
        · exact absurd hin h
      rw [e, Option.map_some, hps]
      clear hin e HR hps hpn
      go_enter Tryz.func62, Tryz.ntmps62
      go_wp2_with (first
        | (go_at_call 112; (with_reducible refine cp.mono ?_); rintro e w1 ⟨rfl, hb1⟩)
        | (go_at_call 116; (with_reducible refine (cs _ (hb1.alloc hb1.size _)).mono ?_); rintro e w2 ⟨rfl, hb2'⟩; have hb2 : Below w.heap.size w w2 := (hb1.alloc hb1.size (.cells #[.pointer (some ⟨hp, 0, none⟩), .pointer (some ⟨ap, 0, none⟩), .map (some mb), .bool v.held] 119)).trans (hb2'.mono (hb1.alloc hb1.size _).size); have y2 : w2.cell? ⟨w1.heap.size, 2, none⟩ = some (.map (some mb)) := (hb2'.cell (p := ⟨w1.heap.size, 2, none⟩) (by simp)).trans (by simp); have hlt2 : w1.heap.size < w2.heap.size := lt_of_cell y2; have hl := fun o => HL.out (w2.alloc o) (hb2.alloc hb2.size o))
        | (go_at_call 67; (with_reducible refine (HBC.out _ (hb2.alloc hb2.size _)).mono ?_); rintro e w3 ⟨A, d, rfl, hown, hb3'⟩; have hb3 := (hb2.alloc hb2.size (.cells #[.int .i64 s1, .int .i64 s2, .int .i64 s3, .int .i64 s4] 49)).trans (hb3'.mono (hb2.alloc hb2.size _).size); have ci := code_pcontains A bl.length d bl a w3 (Sl.of_own hown) (by omega); rw [hd] at ci)
        | (go_at_call 63; (with_reducible refine ci.mono ?_); rintro e w' ⟨rfl, rfl⟩)
        | go_in)
      go_ret
      exact ⟨rfl, hb3⟩
    · have hd : decide (a ∈ bl) = false := decide_eq_false hin
      have e : R = none := by
        rcases HR.out with ⟨h, _⟩ | ⟨_, h⟩
        · exact absurd h hin
        · exact h
      rw [e, Option.map_none, hpn]
      clear hin e HR hps hpn
      go_enter Tryz.func62, Tryz.ntmps62
      go_wp2_with (first
        | (go_at_call 112; (with_reducible refine cp.mono ?_); rintro e w1 ⟨rfl, hb1⟩)
        | (go_at_call 116; (with_reducible refine (cs _ (hb1.alloc hb1.size _)).mono ?_); rintro e w2 ⟨rfl, hb2'⟩; have hb2 : Below w.heap.size w w2 := (hb1.alloc hb1.size (.cells #[.pointer (some ⟨hp, 0, none⟩), .pointer (some ⟨ap, 0, none⟩), .map (some mb), .bool v.held] 119)).trans (hb2'.mono (hb1.alloc hb1.size _).size); have y2 : w2.cell? ⟨w1.heap.size, 2, none⟩ = some (.map (some mb)) := (hb2'.cell (p := ⟨w1.heap.size, 2, none⟩) (by simp)).trans (by simp); have hlt2 : w1.heap.size < w2.heap.size := lt_of_cell y2; have hl := fun o => HL.out (w2.alloc o) (hb2.alloc hb2.size o))
        | (go_at_call 67; (with_reducible refine (HBC.out _ (hb2.alloc hb2.size _)).mono ?_); rintro e w3 ⟨A, d, rfl, hown, hb3'⟩; have hb3 := (hb2.alloc hb2.size (.cells #[.int .i64 s1, .int .i64 s2, .int .i64 s3, .int .i64 s4] 49)).trans (hb3'.mono (hb2.alloc hb2.size _).size); have ci := code_pcontains A bl.length d bl a w3 (Sl.of_own hown) (by omega); rw [hd] at ci)
        | (go_at_call 63; (with_reducible refine ci.mono ?_); rintro e w' ⟨rfl, rfl⟩)
        | go_in)
      go_ret
      exact ⟨rfl, hb3⟩

/-- cutAt, of a nil pool. -/
theorem code_cutat_nil (a : Int) (ha : in64 a) (w : World) :
    Calls Tryz.prog 62 #[.pointer none, .int .i64 a] w fun e w' => e = .returned (.pointer none) ∧ Below w.heap.size w w' := by
  have cp := code_pparts_nil w
  have cs : ∀ W, Calls Tryz.prog 116 #[.pointer none, .int .i64 a] W fun e w' => e = .returned (.tuple #[.agg #[.int .i64 0, .int .i64 0, .int .i64 0, .int .i64 0], .bool false]) ∧ Below W.heap.size W w' := fun W => code_hat_nil a ha W
  have hl : ∀ W, (Instr.lookup 117 (.map none) (.int .i64 0) false).run Tryz.prog W = .ok (.pointer none) W := fun W => Maps.look_nil (w := W) false keyed Tryz.underlying117 (zero_ptr W) (key_of ⟨by omega, by omega⟩)
  go_enter Tryz.func62, Tryz.ntmps62
  go_wp2_with (first
    | (go_at_call 112; (with_reducible refine cp.mono ?_); rintro e w1 ⟨rfl, hb1⟩)
    | (go_at_call 116; (with_reducible refine (cs _).mono ?_); rintro e w2 ⟨rfl, hb2'⟩; have hb2 : Below w.heap.size w w2 := (hb1.alloc hb1.size (.cells #[.pointer none, .pointer none, .map none, .bool false] 119)).trans (hb2'.mono (hb1.alloc hb1.size _).size); have y2 : w2.cell? ⟨w1.heap.size, 2, none⟩ = some (.map none) := (hb2'.cell (p := ⟨w1.heap.size, 2, none⟩) (by simp)).trans (by simp); have hlt2 : w1.heap.size < w2.heap.size := lt_of_cell y2)
    | go_in)
  go_ret
  exact ⟨rfl, hb2.alloc hb2.size _⟩

theorem in64_nat {n : Nat} (h : n ≤ 65536) : in64 (n : Int) := ⟨by omega, by omega⟩
theorem cList_len {ws : List Nat} {c : Int × Int} {l : List Int} (h : cList ws c = some l) (hn : ws.length ≤ 65536) : l.length ≤ 65536 ∧ in64 c.1 ∧ in64 c.2 ∧ (l.length : Int) = c.2 ∧ l.Nodup ∧ ∀ x ∈ l, 0 ≤ x ∧ x < (ws.length : Int) := by
  obtain ⟨c1, c2⟩ := c
  obtain ⟨h1, h2, h3⟩ := cList_iff.1 h
  have h4 := h1.mem
  have h5 := nodup_le ws.length l h2 h4
  have h6 := h1.range
  exact ⟨by omega, ⟨by show (-9223372036854775808 : Int) ≤ c1; omega, by show c1 ≤ 9223372036854775807; omega⟩, ⟨by show (-9223372036854775808 : Int) ≤ c2; omega, by show c2 ≤ 9223372036854775807; omega⟩, h3, h2, h4⟩

/-- What 'in' answers. -/
def InIs (w : World) (l : List Int) (e : Ending) (w' : World) : Prop :=
  ∃ A c, e = .returned (.slice A (List.length l) c) ∧ Sl w' w'.heap.size A l.length (l.map iv) ∧ (A = none → List.length l = 0) ∧ Below w.heap.size w w' ∧ ∀ a, A = some a → w.heap.size ≤ a.block
/-- in. -/
theorem code_pin {w : World} {Sh : Nat → Prop} {p hp ap g mb n m : Nat} {D : DataW Unit} {v : PoolW} (k : PlAt w Sh p hp ap g mb n m D v) (o : PlOk n m v) {c : CutV} (hc : c ∈ v.ks) :
    Calls Tryz.prog 61 #[pv c, .pointer (some ⟨ap, 0, none⟩)] w (InIs w c.l) := by
  have hl := o.lst c hc
  obtain ⟨h1, h2, h3, h4, h5, h6⟩ := cList_len hl (by rw [k.ar.hlen]; exact k.ar.small)
  have cl := code_clist k.ar c.c.1 c.c.2 h2 h3 o.wide
  rw [show (c.c.1, c.c.2) = c.c from rfl, hl] at cl
  replace cl : Calls Tryz.prog 80 #[.pointer (some ⟨ap, 0, none⟩), .agg #[.int .i64 c.c.1, .int .i64 c.c.2]] w fun e w' => ∃ A d N, e = .returned (.tuple #[.slice A N d, .int .i64 0]) ∧ N = c.l.length ∧ Sl w' w'.heap.size A N (c.l.map iv) ∧ (A = none → N = 0) ∧ Below w.heap.size w w' ∧ ∀ a, A = some a → w.heap.size ≤ a.block := by
    refine cl.mono ?_
    rintro e w' ⟨A, n', d, out, rfl, q1, q2, q3, q4, q5, q6⟩
    obtain rfl := q1 _ rfl
    have q7 : c.l.length = n' := by have := q3.1; simpa using this
    exact ⟨A, d, n', rfl, q7.symm, q3, q4, q5, q6⟩
  have d4 := (k.cuts c hc).c4
  have d5 := (k.cuts c hc).c5
  unfold pv
  obtain ⟨cb, hcb⟩ : ∃ cb, c.b = cb := ⟨_, rfl⟩
  obtain ⟨c1, hc1⟩ : ∃ c1, c.c.1 = c1 := ⟨_, rfl⟩
  obtain ⟨c2, hc2⟩ : ∃ c2, c.c.2 = c2 := ⟨_, rfl⟩
  obtain ⟨l, hll⟩ : ∃ l, c.l = l := ⟨_, rfl⟩
  rw [hcb, hc1] at d4
  rw [hcb, hc2] at d5
  rw [hc1, hc2, hll] at cl
  rw [hcb, hll]
  clear hl h1 h2 h3 h4 h5 h6 hcb hc1 hc2 hll k o hc
  go_enter Tryz.func61, Tryz.ntmps61
  go_wp2_with (first
    | (go_at_call 80; (with_reducible refine cl.mono ?_); rintro e w1 ⟨A, d, N, rfl, rfl, q3, q4, q5, q6⟩))
  go_ret
  exact ⟨A, d, rfl, q3, q4, q5, q6⟩

/-- Of which order a block that is out is; -1. -/
def orderP (ks : List CutV) (a : Int) : Int := match cutAtP ks a with
  | none => -1
  | some c => if a ∈ c.l then -1 else c.s.2.2.2
set_option maxRecDepth 100000 in
/-- Order. -/
theorem code_porder {w : World} {Sh : Nat → Prop} {p hp ap g mb n m : Nat} {D : DataW Unit} {v : PoolW} (k : PlAt w Sh p hp ap g mb n m D v) (o : PlOk n m v) (a : Int) (ha : in64 a) :
    Calls Tryz.prog 19 #[.pointer (some ⟨p, 0, none⟩), .int .i64 a] w fun e w' => e = .returned (.int .i64 (orderP v.ks a)) ∧ Below w.heap.size w w' := by
  have cc := code_cutat k o a ha
  cases hC : cutAtP v.ks a with
  | none =>
    have eO : orderP v.ks a = -1 := by unfold orderP; rw [hC]
    rw [eO]
    clear eO
    rw [hC, Option.map_none, show ptrv none = .pointer none from rfl] at cc
    clear hC k o
    go_enter Tryz.func19, Tryz.ntmps19
    go_wp2_with (first
      | (go_at_call 62; (with_reducible refine cc.mono ?_); rintro e w1 ⟨rfl, hb1⟩))
    go_ret
    exact ⟨rfl, hb1⟩
  | some c =>
    have eO : orderP v.ks a = if a ∈ c.l then -1 else c.s.2.2.2 := by unfold orderP; rw [hC]
    rw [eO]
    clear eO
    rw [hC, Option.map_some, show ptrv (some c.b) = .pointer (some ⟨c.b, 0, none⟩) from rfl] at cc
    have hc := (cutAtP_mem hC).1
    have HI : Hid (∀ W, Below w.heap.size w W → Calls Tryz.prog 61 #[pv c, .pointer (some ⟨ap, 0, none⟩)] W (InIs W c.l)) := hidb (fun W hb => code_pin (k.below hb) o hc)
    have HC : Hid (∀ W, Below w.heap.size w W → W.cell? ⟨c.b, 3, none⟩ = some (.int .i64 c.s.2.2.2) ∧ W.cell? ⟨p, 1, none⟩ = some (.pointer (some ⟨ap, 0, none⟩))) := hidb (fun W hb => ⟨(((k.below hb).cuts c hc)).c3, (k.below hb).c1⟩)
    have hlen := (cList_len (o.lst c hc) (by rw [k.ar.hlen]; exact k.ar.small)).1
    unfold pv InIs at HI
    generalize c.l = l at HI hlen ⊢
    generalize c.b = cb at HI HC cc
    generalize c.s.2.2.2 = so at HC ⊢
    clear hC k o hc
    by_cases hin : a ∈ l
    · have hd : decide (a ∈ l) = true := decide_eq_true hin
      simp only [if_pos hin]
      clear hin
      go_enter Tryz.func19, Tryz.ntmps19
      go_wp2_with (first
        | (go_at_call 62; (with_reducible refine cc.mono ?_); rintro e w1 ⟨rfl, hb1⟩; obtain ⟨y3, y1⟩ := HC.out _ hb1)
        | (go_at_call 61; (with_reducible refine (HI.out _ hb1).mono ?_); rintro e w2 ⟨A, d, rfl, q3, q4, hb2', q6⟩; have hb2 := hb1.trans (hb2'.mono hb1.size); obtain ⟨x3, x1⟩ := HC.out _ hb2; have ci := code_pcontains A l.length d l a w2 q3 (by omega); rw [hd] at ci)
        | (go_at_call 63; (with_reducible refine ci.mono ?_); rintro e w' ⟨rfl, rfl⟩))
      go_ret
      exact ⟨rfl, hb2⟩
    · have hd : decide (a ∈ l) = false := decide_eq_false hin
      simp only [if_neg hin]
      clear hin
      go_enter Tryz.func19, Tryz.ntmps19
      go_wp2_with (first
        | (go_at_call 62; (with_reducible refine cc.mono ?_); rintro e w1 ⟨rfl, hb1⟩; obtain ⟨y3, y1⟩ := HC.out _ hb1)
        | (go_at_call 61; (with_reducible refine (HI.out _ hb1).mono ?_); rintro e w2 ⟨A, d, rfl, q3, q4, hb2', q6⟩; have hb2 := hb1.trans (hb2'.mono hb1.size); obtain ⟨x3, x1⟩ := HC.out _ hb2; have ci := code_pcontains A l.length d l a w2 q3 (by omega); rw [hd] at ci)
        | (go_at_call 63; (with_reducible refine ci.mono ?_); rintro e w' ⟨rfl, rfl⟩))
      go_ret
      exact ⟨rfl, hb2⟩
theorem code_porder_nil (a : Int) (ha : in64 a) (w : World) :
    Calls Tryz.prog 19 #[.pointer none, .int .i64 a] w fun e w' => e = .returned (.int .i64 (-1)) ∧ Below w.heap.size w w' := by
  have cc := code_cutat_nil a ha w
  go_enter Tryz.func19, Tryz.ntmps19
  go_wp2_with (first
    | (go_at_call 62; (with_reducible refine cc.mono ?_); rintro e w1 ⟨rfl, hb1⟩))
  go_ret
  exact ⟨rfl, hb1⟩

end Go.Proofs.YtcgfmpegakpddaaGreat
