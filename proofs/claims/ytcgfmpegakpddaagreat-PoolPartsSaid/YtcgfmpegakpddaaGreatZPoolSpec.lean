/- What cutAt, in, and Order of a pool return. -/
import Derived.Test.YtcgfmpegakpddaaGreatZPoolRise
namespace Go.Proofs.YtcgfmpegakpddaaGreat
open Go.RowKit Go.Maps
set_option linter.unusedVariables false

/-- The cut span of an address of a block. -/
def cutAtP (ks : List CutV) (a : Int) : Option CutV := ks.find? fun k => decide (a ∈ pBlocks k.s)
theorem cutAtP_mem {ks : List CutV} {a : Int} {k : CutV} (h : cutAtP ks a = some k) : k ∈ ks ∧ a ∈ pBlocks k.s := ⟨List.mem_of_find?_eq_some h, by have := List.find?_some h; simpa using this⟩
theorem blocks_in {s : Int × Int × Int × Int} {a : Int} (h : a ∈ pBlocks s) (h4 : s.2.2.1 = 4) (ho : 0 ≤ s.2.2.2 ∧ s.2.2.2 ≤ 3) : 64 * s.2.1 ≤ a ∧ a + pSize s.2.2.2 ≤ 64 * s.2.1 + 256 := by
  obtain ⟨i, hi, e⟩ := List.mem_map.1 h
  rw [h4, List.mem_range] at hi
  obtain ⟨m0, m1, m2, m3⟩ := pMany_16 s.2.2.2 ho.1 ho.2
  have h2 : (i + 1) * pSize s.2.2.2 ≤ pMany 4 s.2.2.2 * pSize s.2.2.2 := Nat.mul_le_mul_right _ (by omega)
  rw [Nat.add_mul, m2] at h2
  omega
theorem blocks_page {s : Int × Int × Int × Int} {a : Int} (h : a ∈ pBlocks s) (h4 : s.2.2.1 = 4) (ho : 0 ≤ s.2.2.2 ∧ s.2.2.2 ≤ 3) : s.2.1 ≤ a / 64 ∧ a / 64 < s.2.1 + s.2.2.1 := by
  have h1 := blocks_in h h4 ho
  have h2 := (pMany_16 s.2.2.2 ho.1 ho.2).2.2.2
  rw [h4]
  omega
section
variable {n m : Nat} {v : PoolW}
theorem PlOk.cutOk (o : PlOk n m v) (k : HOk v.h) {c : CutV} (hc : c ∈ v.ks) : CutOk c := by
  obtain ⟨h1, h2, h3⟩ := o.four c hc
  have := k.start (o.mem c hc)
  have := k.p1
  exact ⟨h1, by omega, by omega, h2, h3⟩
theorem PlOk.cutOf_ (o : PlOk n m v) {c : CutV} (hc : c ∈ v.ks) : cutOf v.ks c.s.1 = some c := by
  cases e : cutOf v.ks c.s.1 with
  | none => exact absurd (List.find?_eq_none.1 e c hc) (by simp)
  | some k =>
    obtain ⟨h1, h2⟩ := cutOf_mem e
    rw [kids_inj o.ids h1 hc h2]
theorem PlOk.at_some (o : PlOk n m v) (k : HOk v.h) {a : Int} {c : CutV} (h : cutAtP v.ks a = some c) : ((atOf v.h.l a).getD spanNone).1 = c.s.1 := by
  obtain ⟨h1, h2⟩ := cutAtP_mem h
  obtain ⟨f1, f2, f3⟩ := o.four c h1
  have hb := blocks_in h2 f1 ⟨f2, f3⟩
  have hp := blocks_page h2 f1 ⟨f2, f3⟩
  have hs := k.start (o.mem c h1)
  unfold atOf
  rw [if_neg (by omega)]
  cases e : v.h.l.find? (inSpan a) with
  | none => exact absurd (decide_eq_true hp) (List.find?_eq_none.1 e c.s (o.mem c h1))
  | some t =>
    have ht0 : inSpan a t = true := List.find?_some e
    have ht := of_decide_eq_true ht0
    rw [k.apart (o.mem c h1) (List.mem_of_find?_eq_some e) hp ht]; rfl
theorem PlOk.at_none (o : PlOk n m v) {a : Int} (h : cutAtP v.ks a = none) {id : Int} {c : CutV} (hc : cutOf v.ks id = some c) : a ∉ pBlocks c.s := fun h2 => by
  have := List.find?_eq_none.1 h c (cutOf_mem hc).1
  simp [h2] at this
/-- The span of an address, by the heap; then whether the address is a block's. -/
theorem PlOk.at_or (o : PlOk n m v) (k : HOk v.h) (a : Int) : (cutOf v.ks ((atOf v.h.l a).getD spanNone).1 = none ∧ cutAtP v.ks a = none) ∨ ∃ c, cutOf v.ks ((atOf v.h.l a).getD spanNone).1 = some c ∧ c ∈ v.ks ∧ ((a ∈ pBlocks c.s ∧ cutAtP v.ks a = some c) ∨ (a ∉ pBlocks c.s ∧ cutAtP v.ks a = none)) := by
  cases e : cutAtP v.ks a with
  | some c =>
    obtain ⟨h1, h2⟩ := cutAtP_mem e
    exact Or.inr ⟨c, by rw [o.at_some k e, o.cutOf_ h1], h1, Or.inl ⟨h2, rfl⟩⟩
  | none =>
    cases e2 : cutOf v.ks ((atOf v.h.l a).getD spanNone).1 with
    | none => exact Or.inl ⟨rfl, rfl⟩
    | some c => exact Or.inr ⟨c, rfl, (cutOf_mem e2).1, Or.inr ⟨o.at_none e e2, rfl⟩⟩
end

theorem look_cut_run {w : World} {b n : Nat} {D : DataW Unit} {ks : List CutV} (hown : w.ownsMap Tryz.prog 3 ptrR b n D) (hmis : PIs D ks) (id : Int) (hid : in64 id) :
    (Instr.lookup 117 (.map (some b)) (.int .i64 id) false).run Tryz.prog w = .ok (ptrv ((cutOf ks id).map (·.b))) w := by
  obtain ⟨u, ps, hrun, hv⟩ := hown.lookup keyed Tryz.underlying117 (zero_ptr w) (ptrR_mk none) (key_of hid)
  obtain ⟨q, rfl, e⟩ := ptrR_inv hv
  have e1 := congrArg Prod.fst e
  simp only at e1
  rw [hmis.get] at e1
  have e2 := encP_inj e1
  subst e2
  exact hrun

theorem atOf_in64 {w : World} {S : Nat → Prop} {p : Nat} {h : HeapV} (k : Hp w S p h) (a : Int) : in64 ((atOf h.l a).getD spanNone).1 := by
  cases e : atOf h.l a with
  | none => exact ⟨by show (-9223372036854775808 : Int) ≤ 0; omega, by show (0 : Int) ≤ 9223372036854775807; omega⟩
  | some s =>
    have hs : s ∈ h.l := by
      unfold atOf at e
      split at e
      · cases e
      · exact List.mem_of_find?_eq_some e
    have h1 := k.ok.idr s hs
    have h2 := k.lb
    exact ⟨by show (-9223372036854775808 : Int) ≤ s.1; omega, by show s.1 ≤ 9223372036854775807; omega⟩

set_option maxRecDepth 100000 in
/-- cutAt. -/
theorem code_cutat {w : World} {Sh : Nat → Prop} {p hp ap g mb n m : Nat} {D : DataW Unit} {v : PoolW} (k : PlAt w Sh p hp ap g mb n m D v) (o : PlOk n m v) (a : Int) (ha : in64 a) :
    Calls Tryz.prog 62 #[.pointer (some ⟨p, 0, none⟩), .int .i64 a] w fun e w' => e = .returned (ptrv ((cutAtP v.ks a).map (·.b))) ∧ Below w.heap.size w w' := by
  have cp := code_pparts p (some ⟨hp, 0, none⟩) (some ⟨ap, 0, none⟩) (some mb) v.held w k.c0 k.c1 k.c2 k.c3
  obtain ⟨⟨s1, s2, s3, s4⟩, hs⟩ : ∃ s, (atOf v.h.l a).getD spanNone = s := ⟨_, rfl⟩
  obtain ⟨ok, hok⟩ : ∃ ok, (atOf v.h.l a).isSome = ok := ⟨_, rfl⟩
  have cs : ∀ W, Below w.heap.size w W → Calls Tryz.prog 116 #[.pointer (some ⟨hp, 0, none⟩), .int .i64 a] W fun e w' => e = .returned (.tuple #[.agg #[.int .i64 s1, .int .i64 s2, .int .i64 s3, .int .i64 s4], .bool ok]) ∧ Below W.heap.size W w' := fun W hb => by
    have := code_hat (k.below hb).hp_ a ha
    rw [hs, hok] at this
    exact this
  have hid : in64 s1 := by have := atOf_in64 k.hp_ a; rw [hs] at this; exact this
  have HL : Hid (∀ W, Below w.heap.size w W → (Instr.lookup 117 (.map (some mb)) (.int .i64 s1) false).run Tryz.prog W = .ok (ptrv ((cutOf v.ks s1).map (·.b))) W) := hidb (fun W hb => look_cut_run (k.below hb).mp k.mis s1 hid)
  have HB : Hid (∀ c ∈ v.ks, ∀ W, Below w.heap.size w W → Calls Tryz.prog 67 #[pv c] W (OwnInts W (pBlocks c.s))) := hidb (fun c hc W hb => by
    obtain ⟨h1, h2, h3, h4, h5⟩ := o.cutOk k.hp_.ok hc
    exact code_pblocks c W ((k.cuts c hc).below hb) h1 h2 h3 h4 h5)
  have HA := hidb (o.at_or k.hp_.ok a)
  rw [hs] at HA
  have HBL : Hid (∀ c ∈ v.ks, (pBlocks c.s).length ≤ 16) := hidb (fun c hc => by
    obtain ⟨h1, h2, h3, h4, h5⟩ := o.cutOk k.hp_.ok hc
    rw [pBlocks_length, h1]
    exact (pMany_16 _ h4 h5).2.1)
  obtain ⟨R, hR⟩ : ∃ R, cutAtP v.ks a = R := ⟨_, rfl⟩
  rw [hR] at HA ⊢
  clear hs hok hR hid k o
  have hpn : ptrv none = .pointer none := rfl
  rcases HA.out with ⟨e1, rfl⟩ | ⟨c, e1, hc, h2⟩
  · rw [e1, Option.map_none, hpn] at HL
    rw [Option.map_none, hpn]
    clear HA e1 HB HBL hpn
    go_enter Tryz.func62, Tryz.ntmps62
    go_wp2_with (first
      | (go_at_call 112; (with_reducible refine cp.mono ?_); rintro e w1 ⟨rfl, hb1⟩)
      | (go_at_call 116; (with_reducible refine (cs _ (hb1.alloc hb1.size _)).mono ?_); rintro e w2 ⟨rfl, hb2'⟩; have hb2 : Below w.heap.size w w2 := (hb1.alloc hb1.size (.cells #[.pointer (some ⟨hp, 0, none⟩), .pointer (some ⟨ap, 0, none⟩), .map (some mb), .bool v.held] 119)).trans (hb2'.mono (hb1.alloc hb1.size _).size); have y2 : w2.cell? ⟨w1.heap.size, 2, none⟩ = some (.map (some mb)) := (hb2'.cell (p := ⟨w1.heap.size, 2, none⟩) (by simp)).trans (by simp); have hlt2 : w1.heap.size < w2.heap.size := lt_of_cell y2; have hl := fun o => HL.out (w2.alloc o) (hb2.alloc hb2.size o))
      | go_in)
    go_ret
    exact ⟨rfl, hb2.alloc hb2.size _⟩
  · rw [e1] at HL
    have hps : ptrv (some c.b) = .pointer (some ⟨c.b, 0, none⟩) := rfl
    rw [Option.map_some, hps] at HL
    have HBC := hidb (HB.out c hc)
    have hl16 := HBL.out c hc
    have HR : Hid ((a ∈ pBlocks c.s ∧ R = some c) ∨ (a ∉ pBlocks c.s ∧ R = none)) := hidb h2
    clear HA e1 HB HBL h2 hc
    unfold pv at HBC
    generalize hbl : pBlocks c.s = bl at HBC hl16 HR
    clear hbl
    by_cases hin : a ∈ bl
    · have hd : decide (a ∈ bl) = true := decide_eq_true hin
      have e : R = some c := by
        rcases HR.out with ⟨_, h⟩ | ⟨h, _⟩
        · exact h
        · exact absurd hin h
      rw [e, Option.map_some, hps]
      clear hin e HR hps hpn
      go_enter Tryz.func62, Tryz.ntmps62
      go_wp2_with (first
        | (go_at_call 112; (with_reducible refine cp.mono ?_); rintro e w1 ⟨rfl, hb1⟩)
        | (go_at_call 116; (with_reducible refine (cs _ (hb1.alloc hb1.size _)).mono ?_); rintro e w2 ⟨rfl, hb2'⟩; have hb2 : Below w.heap.size w w2 := (hb1.alloc hb1.size (.cells #[.pointer (some ⟨hp, 0, none⟩), .pointer (some ⟨ap, 0, none⟩), .map (some mb), .bool v.held] 119)).trans (hb2'.mono (hb1.alloc hb1.size _).size); have y2 : w2.cell? ⟨w1.heap.size, 2, none⟩ = some (.map (some mb)) := (hb2'.cell (p := ⟨w1.heap.size, 2, none⟩) (by simp)).trans (by simp); have hlt2 : w1.heap.size < w2.heap.size := lt_of_cell y2; have hl := fun o => HL.out (w2.alloc o) (hb2.alloc hb2.size o))
        | (go_at_call 67; (with_reducible refine (HBC.out _ (hb2.alloc hb2.size _)).mono ?_); rintro e w3 ⟨A, d, rfl, hown, hb3'⟩; have hb3 := (hb2.alloc hb2.size (.cells #[.int .i64 s1, .int .i64 s2, .int .i64 s3, .int .i64 s4] 49)).trans (hb3'.mono (hb2.alloc hb2.size _).size); have ci := code_pcontains A bl.length d bl a w3 (Sl.of_own hown) (by omega); rw [hd] at ci)
        | (go_at_call 63; (with_reducible refine ci.mono ?_); rintro e w' ⟨rfl, rfl⟩)
        | go_in)
      go_ret
      exact ⟨rfl, hb3⟩
    · have hd : decide (a ∈ bl) = false := decide_eq_false hin
      have e : R = none := by
        rcases HR.out with ⟨h, _⟩ | ⟨_, h⟩
        · exact absurd h hin
        · exact h
      rw [e, Option.map_none, hpn]
      clear hin e HR hps hpn
      go_enter Tryz.func62, Tryz.ntmps62
      go_wp2_with (first
        | (go_at_call 112; (with_reducible refine cp.mono ?_); rintro e w1 ⟨rfl, hb1⟩)
        | (go_at_call 116; (with_reducible refine (cs _ (hb1.alloc hb1.size _)).mono ?_); rintro e w2 ⟨rfl, hb2'⟩; have hb2 : Below w.heap.size w w2 := (hb1.alloc hb1.size (.cells #[.pointer (some ⟨hp, 0, none⟩), .pointer (some ⟨ap, 0, none⟩), .map (some mb), .bool v.held] 119)).trans (hb2'.mono (hb1.alloc hb1.size _).size); have y2 : w2.cell? ⟨w1.heap.size, 2, none⟩ = some (.map (some mb)) := (hb2'.cell (p := ⟨w1.heap.size, 2, none⟩) (by simp)).trans (by simp); have hlt2 : w1.heap.size < w2.heap.size := lt_of_cell y2; have hl := fun o => HL.out (w2.alloc o) (hb2.alloc hb2.size o))
        | (go_at_call 67; (with_reducible refine (HBC.out _ (hb2.alloc hb2.size _)).mono ?_); rintro e w3 ⟨A, d, rfl, hown, hb3'⟩; have hb3 := (hb2.alloc hb2.size (.cells #[.int .i64 s1, .int .i64 s2, .int .i64 s3, .int .i64 s4] 49)).trans (hb3'.mono (hb2.alloc hb2.size _).size); have ci := code_pcontains A bl.length d bl a w3 (Sl.of_own hown) (by omega); rw [hd] at ci)
        | (go_at_call 63; (with_reducible refine ci.mono ?_); rintro e w' ⟨rfl, rfl⟩)
        | go_in)
      go_ret
      exact ⟨rfl, hb3⟩

theorem cList_len {ws : List Nat} {c : Int × Int} {l : List Int} (h : cList ws c = some l) (hn : ws.length ≤ 65536) : l.length ≤ 65536 ∧ in64 c.1 ∧ in64 c.2 ∧ (l.length : Int) = c.2 ∧ l.Nodup ∧ ∀ x ∈ l, 0 ≤ x ∧ x < (ws.length : Int) := by
  obtain ⟨c1, c2⟩ := c
  obtain ⟨h1, h2, h3⟩ := cList_iff.1 h
  have h4 := h1.mem
  have h5 := nodup_le ws.length l h2 h4
  have h6 := h1.range
  exact ⟨by omega, ⟨by show (-9223372036854775808 : Int) ≤ c1; omega, by show c1 ≤ 9223372036854775807; omega⟩, ⟨by show (-9223372036854775808 : Int) ≤ c2; omega, by show c2 ≤ 9223372036854775807; omega⟩, h3, h2, h4⟩

/-- What 'in' answers. -/
def InIs (w : World) (l : List Int) (e : Ending) (w' : World) : Prop :=
  ∃ A c, e = .returned (.slice A (List.length l) c) ∧ Sl w' w'.heap.size A l.length (l.map iv) ∧ (A = none → List.length l = 0) ∧ Below w.heap.size w w' ∧ ∀ a, A = some a → w.heap.size ≤ a.block
/-- in. -/
theorem code_pin {w : World} {Sh : Nat → Prop} {p hp ap g mb n m : Nat} {D : DataW Unit} {v : PoolW} (k : PlAt w Sh p hp ap g mb n m D v) (o : PlOk n m v) {c : CutV} (hc : c ∈ v.ks) :
    Calls Tryz.prog 61 #[pv c, .pointer (some ⟨ap, 0, none⟩)] w (InIs w c.l) := by
  have hl := o.lst c hc
  obtain ⟨h1, h2, h3, h4, h5, h6⟩ := cList_len hl (by rw [k.ar.hlen]; exact k.ar.small)
  have cl := code_clist k.ar c.c.1 c.c.2 h2 h3 o.wide
  rw [show (c.c.1, c.c.2) = c.c from rfl, hl] at cl
  replace cl : Calls Tryz.prog 80 #[.pointer (some ⟨ap, 0, none⟩), .agg #[.int .i64 c.c.1, .int .i64 c.c.2]] w fun e w' => ∃ A d N, e = .returned (.tuple #[.slice A N d, .int .i64 0]) ∧ N = c.l.length ∧ Sl w' w'.heap.size A N (c.l.map iv) ∧ (A = none → N = 0) ∧ Below w.heap.size w w' ∧ ∀ a, A = some a → w.heap.size ≤ a.block := by
    refine cl.mono ?_
    rintro e w' ⟨A, n', d, out, rfl, q1, q2, q3, q4, q5, q6⟩
    obtain rfl := q1 _ rfl
    have q7 : c.l.length = n' := by have := q3.1; simpa using this
    exact ⟨A, d, n', rfl, q7.symm, q3, q4, q5, q6⟩
  have d4 := (k.cuts c hc).c4
  have d5 := (k.cuts c hc).c5
  unfold pv
  obtain ⟨cb, hcb⟩ : ∃ cb, c.b = cb := ⟨_, rfl⟩
  obtain ⟨c1, hc1⟩ : ∃ c1, c.c.1 = c1 := ⟨_, rfl⟩
  obtain ⟨c2, hc2⟩ : ∃ c2, c.c.2 = c2 := ⟨_, rfl⟩
  obtain ⟨l, hll⟩ : ∃ l, c.l = l := ⟨_, rfl⟩
  rw [hcb, hc1] at d4
  rw [hcb, hc2] at d5
  rw [hc1, hc2, hll] at cl
  rw [hcb, hll]
  clear hl h1 h2 h3 h4 h5 h6 hcb hc1 hc2 hll k o hc
  go_enter Tryz.func61, Tryz.ntmps61
  go_wp2_with (first
    | (go_at_call 80; (with_reducible refine cl.mono ?_); rintro e w1 ⟨A, d, N, rfl, rfl, q3, q4, q5, q6⟩))
  go_ret
  exact ⟨A, d, rfl, q3, q4, q5, q6⟩

/-- Of which order a block that is out is; -1. -/
def orderP (ks : List CutV) (a : Int) : Int := match cutAtP ks a with
  | none => -1
  | some c => if a ∈ c.l then -1 else c.s.2.2.2
set_option maxRecDepth 100000 in
/-- Order. -/
theorem code_porder {w : World} {Sh : Nat → Prop} {p hp ap g mb n m : Nat} {D : DataW Unit} {v : PoolW} (k : PlAt w Sh p hp ap g mb n m D v) (o : PlOk n m v) (a : Int) (ha : in64 a) :
    Calls Tryz.prog 19 #[.pointer (some ⟨p, 0, none⟩), .int .i64 a] w fun e w' => e = .returned (.int .i64 (orderP v.ks a)) ∧ Below w.heap.size w w' := by
  have cc := code_cutat k o a ha
  cases hC : cutAtP v.ks a with
  | none =>
    have eO : orderP v.ks a = -1 := by unfold orderP; rw [hC]
    rw [eO]
    clear eO
    rw [hC, Option.map_none, show ptrv none = .pointer none from rfl] at cc
    clear hC k o
    go_enter Tryz.func19, Tryz.ntmps19
    go_wp2_with (first
      | (go_at_call 62; (with_reducible refine cc.mono ?_); rintro e w1 ⟨rfl, hb1⟩))
    go_ret
    exact ⟨rfl, hb1⟩
  | some c =>
    have eO : orderP v.ks a = if a ∈ c.l then -1 else c.s.2.2.2 := by unfold orderP; rw [hC]
    rw [eO]
    clear eO
    rw [hC, Option.map_some, show ptrv (some c.b) = .pointer (some ⟨c.b, 0, none⟩) from rfl] at cc
    have hc := (cutAtP_mem hC).1
    have HI : Hid (∀ W, Below w.heap.size w W → Calls Tryz.prog 61 #[pv c, .pointer (some ⟨ap, 0, none⟩)] W (InIs W c.l)) := hidb (fun W hb => code_pin (k.below hb) o hc)
    have HC : Hid (∀ W, Below w.heap.size w W → W.cell? ⟨c.b, 3, none⟩ = some (.int .i64 c.s.2.2.2) ∧ W.cell? ⟨p, 1, none⟩ = some (.pointer (some ⟨ap, 0, none⟩))) := hidb (fun W hb => ⟨(((k.below hb).cuts c hc)).c3, (k.below hb).c1⟩)
    have hlen := (cList_len (o.lst c hc) (by rw [k.ar.hlen]; exact k.ar.small)).1
    unfold pv InIs at HI
    generalize c.l = l at HI hlen ⊢
    generalize c.b = cb at HI HC cc
    generalize c.s.2.2.2 = so at HC ⊢
    clear hC k o hc
    by_cases hin : a ∈ l
    · have hd : decide (a ∈ l) = true := decide_eq_true hin
      simp only [if_pos hin]
      clear hin
      go_enter Tryz.func19, Tryz.ntmps19
      go_wp2_with (first
        | (go_at_call 62; (with_reducible refine cc.mono ?_); rintro e w1 ⟨rfl, hb1⟩; obtain ⟨y3, y1⟩ := HC.out _ hb1)
        | (go_at_call 61; (with_reducible refine (HI.out _ hb1).mono ?_); rintro e w2 ⟨A, d, rfl, q3, q4, hb2', q6⟩; have hb2 := hb1.trans (hb2'.mono hb1.size); obtain ⟨x3, x1⟩ := HC.out _ hb2; have ci := code_pcontains A l.length d l a w2 q3 (by omega); rw [hd] at ci)
        | (go_at_call 63; (with_reducible refine ci.mono ?_); rintro e w' ⟨rfl, rfl⟩))
      go_ret
      exact ⟨rfl, hb2⟩
    · have hd : decide (a ∈ l) = false := decide_eq_false hin
      simp only [if_neg hin]
      clear hin
      go_enter Tryz.func19, Tryz.ntmps19
      go_wp2_with (first
        | (go_at_call 62; (with_reducible refine cc.mono ?_); rintro e w1 ⟨rfl, hb1⟩; obtain ⟨y3, y1⟩ := HC.out _ hb1)
        | (go_at_call 61; (with_reducible refine (HI.out _ hb1).mono ?_); rintro e w2 ⟨A, d, rfl, q3, q4, hb2', q6⟩; have hb2 := hb1.trans (hb2'.mono hb1.size); obtain ⟨x3, x1⟩ := HC.out _ hb2; have ci := code_pcontains A l.length d l a w2 q3 (by omega); rw [hd] at ci)
        | (go_at_call 63; (with_reducible refine ci.mono ?_); rintro e w' ⟨rfl, rfl⟩))
      go_ret
      exact ⟨rfl, hb2⟩
end Go.Proofs.YtcgfmpegakpddaaGreat
/- trim: whole spans are freed, unless the pool is held; what Hold returns. -/
namespace Go.Proofs.YtcgfmpegakpddaaGreat
open Go.RowKit Go.Maps
set_option linter.unusedVariables false

/-- Are all blocks of a cut span in its list? -/
def wholeK (k : CutV) : Bool := k.c.2 == ((pBlocks k.s).length : Int)
def pWhole (c : (Int × Int × Int × Int) × List Int) : Bool := c.2.length == (pBlocks c.1).length
/-- Whole spans are freed. -/
def pSweep (p : PoolV) : PoolV := if p.held then p else ⟨(hDrop p.heap ((p.l.filter pWhole).map (·.1.1))).1, p.l.filter (fun c => !pWhole c), p.held⟩
def trimV (v : PoolW) : PoolW := if v.held then v else ⟨(hDrop v.h ((v.ks.filter wholeK).map (·.s.1))).1, v.ws, v.held, v.ks.filter (fun k => !wholeK k)⟩

theorem hDrop_perm {h : HeapV} (k : HOk h) {a b : List Int} (hp : a.Perm b) : hDrop h a = hDrop h b := by
  by_cases c : a.Nodup ∧ ∀ i ∈ a, ∃ s ∈ h.l, s.1 = i
  · have c2 : b.Nodup ∧ ∀ i ∈ b, ∃ s ∈ h.l, s.1 = i := ⟨hp.nodup_iff.1 c.1, fun i hi => c.2 i (hp.mem_iff.2 hi)⟩
    obtain ⟨g1, e1, k1⟩ := hDrop_yes k c
    obtain ⟨g2, e2, k2⟩ := hDrop_yes k c2
    have hl : hLeft h.l a = hLeft h.l b := by
      unfold hLeft
      refine List.filter_congr fun s _ => ?_
      have e : a.contains s.1 = b.contains s.1 := by
        rw [Bool.eq_iff_iff, List.contains_iff_mem, List.contains_iff_mem]; exact hp.mem_iff
      rw [e]
    have hf := k1.free_eq k2 rfl (fun s => by show s ∈ hLeft h.l a ↔ s ∈ hLeft h.l b; rw [hl])
    rw [e1, e2, hl]
    simp only at hf
    rw [hf]
  · have c2 : ¬ (b.Nodup ∧ ∀ i ∈ b, ∃ s ∈ h.l, s.1 = i) := fun c3 => c ⟨hp.nodup_iff.2 c3.1, fun i hi => c3.2 i (hp.mem_iff.1 hi)⟩
    rw [hDrop_no k c, hDrop_no k c2]

section
variable {n m : Nat} {v : PoolW}
theorem PlOk.whole (o : PlOk n m v) (hn : v.ws.length ≤ 65536) {k : CutV} (hk : k ∈ v.ks) : wholeK k = pWhole k.plain := by
  have h := (cList_len (o.lst k hk) hn).2.2.2.1
  unfold wholeK pWhole CutV.plain
  simp only
  rw [← h, Bool.eq_iff_iff]
  simp
  omega
theorem PlOk.plain_filter (o : PlOk n m v) (hn : v.ws.length ≤ 65536) : (v.ks.filter (fun k => !wholeK k)).map CutV.plain = (v.ks.map CutV.plain).filter (fun c => !pWhole c) ∧ (v.ks.filter wholeK).map (·.s.1) = ((v.ks.map CutV.plain).filter pWhole).map (·.1.1) := by
  have e : ∀ k ∈ v.ks, wholeK k = (pWhole ∘ CutV.plain) k := fun k hk => o.whole hn hk
  constructor
  · rw [List.filter_map]
    congr 1
    exact List.filter_congr fun k hk => by show (!wholeK k) = !(pWhole k.plain); rw [o.whole hn hk]
  · rw [List.filter_map, List.map_map, List.filter_congr e]
    rfl
theorem PlOk.trim_plain (o : PlOk n m v) (hn : v.ws.length ≤ 65536) : (trimV v).plain = pSweep v.plain := by
  unfold trimV pSweep
  obtain ⟨e1, e2⟩ := o.plain_filter hn
  cases hh : v.held with
  | true => simp [PoolW.plain, hh]
  | false =>
    simp only [PoolW.plain, hh, Bool.false_eq_true, if_false]
    rw [e1, e2]
theorem PlOk.starts (o : PlOk n m v) (k : HOk v.h) : (v.ks.map (·.s.2.1)).Nodup ∧ v.ks.length ≤ 1024 := by
  have h1 : (v.ks.map (·.s.2.1)).Nodup := by
    refine List.pairwise_map.2 ((List.pairwise_map.1 o.ids).imp_of_mem fun {a b} ha hb hne => ?_)
    have h2 := k.side (o.mem a ha) (o.mem b hb) (fun e => hne (by rw [e]))
    have h3 := k.start (o.mem a ha)
    have h4 := k.start (o.mem b hb)
    omega
  refine ⟨h1, ?_⟩
  have h2 := nodup_bound 1024 (v.ks.map fun c => c.s.2.1 + 1) (List.pairwise_map.2 ((List.pairwise_map.1 h1).imp fun {a b} h e => h (by omega))) (fun x hx => by
    obtain ⟨c, hc, rfl⟩ := List.mem_map.1 hx
    have h3 := k.start (o.mem c hc)
    have h4 := k.p1
    omega)
  rw [List.length_map] at h2
  exact h2
/-- Those whose numbers aren't among these. -/
def leftK (ks ts : List CutV) : List CutV := ks.filter fun k => !(ts.any fun t => t.s.1 == k.s.1)
theorem leftK_nil (ks : List CutV) : leftK ks [] = ks := by unfold leftK; simp
theorem leftK_snoc (ks ts : List CutV) (t : CutV) : leftK ks (ts ++ [t]) = (leftK ks ts).filter fun k => !(t.s.1 == k.s.1) := by
  unfold leftK
  rw [List.filter_filter]
  refine List.filter_congr fun k _ => ?_
  rw [List.any_append]
  simp [Bool.and_comm]
theorem leftK_whole (hd : (v.ks.map (·.s.1)).Nodup) {ds : List CutV} (h : InOrderP v.ks ds) : leftK v.ks (ds.filter wholeK) = v.ks.filter fun k => !wholeK k := by
  unfold leftK
  refine List.filter_congr fun k hk => ?_
  congr 1
  rw [Bool.eq_iff_iff, List.any_eq_true]
  constructor
  · rintro ⟨t, ht, e⟩
    obtain ⟨h1, h2⟩ := List.mem_filter.1 ht
    rw [← kids_inj hd ((h.2.1 t).1 h1) hk (by simpa using e)]
    exact h2
  · intro hw
    exact ⟨k, List.mem_filter.2 ⟨(h.2.1 k).2 hk, hw⟩, by simp⟩
theorem PIs.del {D : DataW Unit} {ks : List CutV} (h : PIs D ks) (id : Int) : PIs (D.del (.int .i64 id)) (ks.filter fun k => !(id == k.s.1)) := by
  refine ⟨fun i => ?_, fun k hk z => ?_⟩
  · by_cases c : i = id
    · subst c
      rw [Maps.has_del_same]
      symm
      rw [List.any_eq_false]
      intro k hk
      have := (List.mem_filter.1 hk).2
      simp at this ⊢
      exact fun e => this e.symm
    · rw [Maps.has_del_other (lit_ne c), h.has, List.any_filter]
      congr 1
      funext k
      by_cases e : k.s.1 = i
      · simp [e, Ne.symm c]
      · simp [e]
  · obtain ⟨h1, h2⟩ := List.mem_filter.1 hk
    rw [Maps.atKey_del_other (lit_ne (fun e : k.s.1 = id => by simp [e] at h2)), h.at_ k h1]
end
/-- trim's loop, behind j rounds. -/
structure TrimSt (W1 wr : World) (mb m : Nat) (D : DataW Unit) (ks ds : List CutV) (j : Nat) (A : Option Addr) (c : Nat) : Prop where
  gr : W1.grownBy wr (some mb)
  mp : wr.ownsMap Tryz.prog 3 ptrR mb m D
  mis : PIs D (leftK ks (ds.take j))
  row : wr.ownsRow W1.heap.size 3 1 (.slice A j c) j ((ds.take j).map fun k => iv k.s.1)
theorem TrimSt.app {W1 wr w2 : World} {mb m j c : Nat} {D : DataW Unit} {ks ds : List CutV} {A : Option Addr} (h : TrimSt W1 wr mb m D ks ds j A c) (hlt : mb < W1.heap.size) (hb : Below W1.heap.size wr w2) : W1.grownBy w2 (some mb) ∧ w2.ownsMap Tryz.prog 3 ptrR mb m D :=
  ⟨⟨hb.os.trans h.gr.os, hb.tape.trans h.gr.tape, hb.output.trans h.gr.output, Nat.le_trans h.gr.size hb.size, fun i hi hr => (hb.block i hi).trans (h.gr.block i hi hr)⟩, ownsMap_block h.mp (hb.block mb hlt)⟩

theorem nodup_of_mapK {α β : Type} {f : α → β} {l : List α} (h : (l.map f).Nodup) : l.Nodup := (List.pairwise_map.1 h).imp fun h e => h (by rw [e])
/-- What trim does. -/
def Trimmed (w : World) (Sh : Nat → Prop) (p hp ap g mb n m : Nat) (v : PoolW) (e : Ending) (w' : World) : Prop :=
  e = .returned (.tuple #[]) ∧ ∃ Sh' D', PlAt w' Sh' p hp ap g mb n m D' (trimV v) ∧ PlOk n m (trimV v) ∧ Kept (PlS Sh p ap g mb v.ks) w w' ∧ ∀ b, Sh' b → Sh b ∨ w.heap.size ≤ b

theorem PlOk.trim {n m : Nat} {v : PoolW} (o : PlOk n m v) (k : HOk v.h) (hn : v.ws.length ≤ 65536) : PlOk n m (trimV v) := by
  unfold trimV
  cases hh : v.held with
  | true => simpa using o
  | false =>
    simp only [Bool.false_eq_true, if_false]
    have hids : ((v.ks.filter wholeK).map (·.s.1)).Nodup ∧ ∀ i ∈ (v.ks.filter wholeK).map (·.s.1), ∃ s ∈ v.h.l, s.1 = i := ⟨List.Nodup.sublist (List.Sublist.map _ List.filter_sublist) o.ids, fun i hi => by
      obtain ⟨c, hc, rfl⟩ := List.mem_map.1 hi
      exact ⟨c.s, o.mem c (List.mem_filter.1 hc).1, rfl⟩⟩
    obtain ⟨g, e1, k1⟩ := hDrop_yes k hids
    rw [e1]
    have hsub : ∀ c, c ∈ v.ks.filter (fun k => !wholeK k) → c ∈ v.ks := fun c hc => (List.mem_filter.1 hc).1
    refine ⟨o.len, o.wide, fun c hc => ?_, fun c hc => o.four c (hsub c hc), fun c hc => o.lst c (hsub c hc), fun c hc => o.sub c (hsub c hc), List.Nodup.sublist (List.Sublist.map _ List.filter_sublist) o.ids, o.cnt⟩
    show c.s ∈ hLeft v.h.l _
    rw [hLeft_mem]
    refine ⟨o.mem c (hsub c hc), fun hi => ?_⟩
    obtain ⟨d, hd, e⟩ := List.mem_map.1 hi
    obtain ⟨h1, h2⟩ := List.mem_filter.1 hd
    have h3 := (List.mem_filter.1 hc).2
    rw [← kids_inj o.ids h1 (hsub c hc) e, h2] at h3
    cases h3

set_option maxRecDepth 100000 in
theorem code_ptrim {w : World} {Sh : Nat → Prop} {p hp ap g mb n m : Nat} {D : DataW Unit} {v : PoolW} (k : PlAt w Sh p hp ap g mb n m D v) (o : PlOk n m v) :
    Calls Tryz.prog 106 #[.pointer (some ⟨p, 0, none⟩)] w (Trimmed w Sh p hp ap g mb n m v) := by
  have hws : v.ws.length ≤ 65536 := by rw [k.ar.hlen]; exact k.ar.small
  have cp := code_pparts p (some ⟨hp, 0, none⟩) (some ⟨ap, 0, none⟩) (some mb) v.held w k.c0 k.c1 k.c2 k.c3
  cases hh : v.held with
  | true =>
    have e : trimV v = v := by unfold trimV; rw [hh]; rfl
    have HE : Hid (∀ W, Below w.heap.size w W → Trimmed w Sh p hp ap g mb n m v (.returned (.tuple #[])) W) := hidb (fun W hb => ⟨rfl, Sh, D, by rw [e]; exact k.below hb, by rw [e]; exact o, Kept.of_below hb _, fun b h => Or.inl h⟩)
    rw [hh] at cp
    clear k o e hh hws
    go_enter Tryz.func106, Tryz.ntmps106
    go_wp2_with (first
      | (go_at_call 112; (with_reducible refine cp.mono ?_); rintro e w1 ⟨rfl, hb1⟩; have P := hidb (HE.out _ (hb1.alloc hb1.size (.cells #[.pointer (some ⟨hp, 0, none⟩), .pointer (some ⟨ap, 0, none⟩), .map (some mb), .bool true] 119)))))
    exact bodyPost_ret (v := .tuple #[]) (by simp [results, Tryz.results106, go_sem]) rfl P.out
  | false =>
    rw [hh] at cp
    obtain ⟨hst, hlen⟩ := o.starts k.hp_.ok
    have HK := hidb k
    have cr : ∀ W, Below w.heap.size w W → Calls Tryz.prog 57 #[.pointer (some ⟨p, 0, none⟩), .func (.func 142) #[] #[]] W (Rising W v.ks wholeK) := fun W hb => code_rising (k.below hb) o 142 #[] wholeK (fun W2 t hb2 ht c hc => r2_full c t W2 (((k.below hb).cuts c hc).below hb2) ht (o.cutOk k.hp_.ok hc))
    have HDS : Hid (∀ ds, InOrderP v.ks ds → (ds.filter wholeK).length ≤ 1024 ∧ (∀ c ∈ ds.filter wholeK, c ∈ v.ks) ∧ ((ds.filter wholeK).map (·.s.1)).Perm ((v.ks.filter wholeK).map (·.s.1)) ∧ leftK v.ks (ds.filter wholeK) = v.ks.filter (fun k => !wholeK k)) := hidb (fun ds hd => by
      have hp1 : ds.Perm v.ks := (List.perm_ext_iff_of_nodup (nodup_of_mapK hd.1) (nodup_of_mapK o.ids)).2 hd.2.1
      have hl : (ds.filter wholeK).length ≤ ds.length := List.length_filter_le _ _
      exact ⟨by rw [hp1.length_eq] at hl; omega, fun c hc => (hd.2.1 c).1 (List.mem_filter.1 hc).1, (hp1.filter _).map _, leftK_whole o.ids hd⟩)
    have HIN : Hid (∀ c ∈ v.ks, in64 c.s.1) := hidb (fun c hc => by
      have h1 := k.hp_.ok.idr c.s (o.mem c hc)
      have h2 := k.hp_.lb
      exact ⟨by omega, by omega⟩)
    have HEND : Hid (∀ wr D' ks' Sh2 (J : List Int) w', PlAt wr Sh p hp ap g mb n m D' { v with ks := ks' } → Kept (PlS Sh p ap g mb v.ks) w wr → ks' = v.ks.filter (fun k => !wholeK k) → J.Perm ((v.ks.filter wholeK).map (·.s.1)) → Hp w' (more Sh wr w') hp (hDrop v.h J).1 → Kept Sh wr w' → Sh2 = more Sh wr w' → Trimmed w Sh p hp ap g mb n m v (.returned (.tuple #[])) w') := hidb (fun wr D' ks' Sh2 J w' q1 q2 q3 q4 q5 q6 _ => by
      have h1 := q1.heap_ q6 q5
      have e1 : ({ { v with ks := ks' } with h := (hDrop v.h J).1 } : PoolW) = trimV v := by
        unfold trimV
        rw [hh, hDrop_perm k.hp_.ok q4, q3]
        simp
      rw [e1] at h1
      refine ⟨rfl, _, D', h1, o.trim k.hp_.ok hws, q2.trans q6 (fun b hb h => Or.inl h), fun b hb => ?_⟩
      rcases hb.1 with h | h
      · exact Or.inl h
      · exact Or.inr (Nat.le_trans q2.size h))
    have hmb := k.mp.lt
    have HCB : Hid (∀ W, w.grownBy W (some mb) → ∀ c ∈ v.ks, CutAt W c) := hidb (fun W hg c hc => (k.cuts c hc).keep (hg.block c.b (k.cuts c hc).lt (fun e => (k.nk c hc).2.2.2.1 (by injection e))))
    have HMAP : Hid (∀ W D' ks', w.grownBy W (some mb) → W.ownsMap Tryz.prog 3 ptrR mb m D' → PIs D' ks' → (∀ c ∈ ks', c ∈ v.ks) → (ks'.map (·.b)).Nodup → PlAt W Sh p hp ap g mb n m D' { v with ks := ks' }) := hidb (fun W D' ks' hg hm hi hsub hd => by
      have hc := HCB.out W hg
      exact k.map_ (w' := W) hg hm hi (fun c h => ⟨k.cuts c (hsub c h), k.nk c (hsub c h)⟩) hd)
    have HNDB : Hid (∀ ts, (((leftK v.ks ts).map (·.b)).Nodup ∧ ∀ c ∈ leftK v.ks ts, c ∈ v.ks)) := hidb (fun ts => ⟨List.Nodup.sublist (List.Sublist.map _ List.filter_sublist) k.nd, fun c hc => (List.mem_filter.1 hc).1⟩)
    have HP0 := hidb k.mp
    have HPI := hidb k.mis
    have HMBS : Hid (∀ W, w.grownBy W (some mb) → Kept (PlS Sh p ap g mb v.ks) w W) := hidb (fun W hg => (Kept.refl _ w).grown hg (fun b e => by injection e with e; subst e; exact Or.inl (by unfold PlS; simp)))
    obtain ⟨i0, hi, hz0, hz1, hz2⟩ := info_parts info_int
    obtain ⟨ks, hks⟩ : ∃ ks, v.ks = ks := ⟨_, rfl⟩
    rw [hks] at cr HDS HIN HCB HNDB HPI
    have HKS := hidb hks
    clear hks k o hh hws hst hlen
    go_enter Tryz.func106, Tryz.ntmps106
    go_wp2_with (first
      | (go_at_call 112; (with_reducible refine cp.mono ?_); rintro e w1 ⟨rfl, hb1⟩)
      | (go_at_call 57; (with_reducible refine (cr _ (hb1.alloc hb1.size _)).mono ?_); rintro e w2 ⟨ds, hd, A, c, rfl, hrow, hb2'⟩))
    have hbX := hb1.alloc hb1.size (.cells #[.pointer (some ⟨hp, 0, none⟩), .pointer (some ⟨ap, 0, none⟩), .map (some mb), .bool false] 119)
    have hb2 := hbX.trans (hb2'.mono hbX.size)
    have y0 : w2.cell? ⟨w1.heap.size, 0, none⟩ = some (.pointer (some ⟨hp, 0, none⟩)) := (hb2'.cell (p := ⟨w1.heap.size, 0, none⟩) (by simp)).trans (by simp)
    have y2 : w2.cell? ⟨w1.heap.size, 2, none⟩ = some (.map (some mb)) := (hb2'.cell (p := ⟨w1.heap.size, 2, none⟩) (by simp)).trans (by simp)
    obtain ⟨hN, hsub, hperm, hleft⟩ := HDS.out ds hd
    generalize ds.filter wholeK = ts at hN hsub hperm hleft hrow
    obtain ⟨N, hNe⟩ : ∃ N, ts.length = N := ⟨_, rfl⟩
    rw [hNe] at hrow hN
    rw [hNe]
    have hsz1 : w.heap.size ≤ w1.heap.size := hb1.size
    have hsz2 := hb2.size
    have hob : ∀ a, A = some a → mb < a.block := fun a ha => by
      subst ha
      have hsx : (w1.alloc (.cells #[.pointer (some ⟨hp, 0, none⟩), .pointer (some ⟨ap, 0, none⟩), .map (some mb), .bool false] 119)).heap.size = w1.heap.size + 1 := by simp
      rcases hrow.2 with ⟨h, _⟩ | ⟨g', cap, cur, h, hg', _⟩
      · cases h
      · injection h with h1
        injection h1 with h1
        rw [h1]
        show mb < g'
        omega
    have hsl : Sl w2 w2.heap.size A N (ts.map pv) := by rw [cellsAll_p] at hrow; exact Sl.of_own hrow
    have HX : Hid (∀ W, w2.grownBy W (some mb) → W.cell? ⟨w1.heap.size, 0, none⟩ = some (.pointer (some ⟨hp, 0, none⟩)) ∧ W.cell? ⟨w1.heap.size, 2, none⟩ = some (.map (some mb)) ∧ Sl W W.heap.size A N (ts.map pv) ∧ (∀ c ∈ ks, CutAt W c) ∧ w.grownBy W (some mb)) := hidb (fun W hg => by
      have hlt1 : w1.heap.size < w2.heap.size := lt_of_cell y0
      have hbx := hg.block w1.heap.size hlt1 (fun e => by injection e with e; omega)
      have hgw := grown_trans (below_to_grown hb2 (some mb)) hg
      exact ⟨(World.cell?_of_block (w := w2) (a := ⟨w1.heap.size, 0, none⟩) hbx).trans y0, (World.cell?_of_block (w := w2) (a := ⟨w1.heap.size, 2, none⟩) hbx).trans y2, (hsl.beside hg (fun _ a ha e => by have := hob a ha; omega)).more hg.size, HCB.out W hgw, hgw⟩)
    have HT0 : Hid (TrimSt w2 w2 mb m D ks ts 0 none 0) := hidb (by
      refine ⟨grownSelf _ _, ownsMap_block HP0.out (hb2.block mb hmb), ?_, ?_⟩
      · rw [List.take_zero, leftK_nil]; exact HPI.out
      · rw [List.take_zero]; exact World.ownsRow_nil _ _ _ _)
    have hmb2 : mb < w2.heap.size := by omega
    have HNE := hidb hNe
    have HSUB := hidb hsub
    have HB2 := hidb hb2
    clear hrow hd hob hsl y0 y2 hbX hb2' HDS HCB HP0 HPI hNe hsub cr hb2 cp
    go_loopw [3, 5, 13] (fun s3 _ s13 wr => ∃ (j : Nat) (A' : Option Addr) (c' : Nat) (D' : DataW Unit), s13 = .int .i64 j ∧ s3 = .slice A' j c' ∧ j ≤ N ∧ Hid (TrimSt w2 wr mb m D' ks ts j A' c')) (fun _ _ s13 _ => (N - intOf s13).toNat)
    case atStart => exact ⟨0, none, 0, D, rfl, rfl, by omega, HT0⟩
    case round =>
      obtain ⟨j, A', c', D', rfl, rfl, hj, HT⟩ := hrel
      by_cases hlt : j < N
      · obtain ⟨y0, y2, hsl, hcut, hgw⟩ := HX.out wr HT.out.gr
        obtain ⟨b, off, u, rfl, _, hx, hc⟩ := hsl.at_ hlt
        obtain ⟨q, hq, rfl⟩ : ∃ q, ts[j]? = some q ∧ pv q = u := by
          rw [List.getElem?_map] at hx
          exact Option.map_eq_some_iff.1 hx
        have hqk := HSUB.out q (List.mem_of_getElem? hq)
        have hid := HIN.out q hqk
        have hk0 := (hcut q hqk).c0
        have hj0 : (0 : Int) ≤ (j : Int) := by omega
        have hj1 : (j : Int) < (N : Int) := by omega
        have HQ := hidb hq
        clear hx hq
        unfold pv at hc
        have hown := HT.out.row
        have hsz3 := HT.out.gr.size
        obtain ⟨id, hidq⟩ : ∃ id, q.s.1 = id := ⟨_, rfl⟩
        rw [hidq] at hid hk0
        have hqb : q.b < wr.heap.size := lt_of_cell hk0
        have HQS := hidb hidq
        clear hidq hsl hcut hgw
        go_wp2_with (first
          | (at_builtin; refine wpList_append_one wr rfl _ _ 38 rfl w2.heap.size 3 i0 (.int .i64 0) 8 Tryz.underlying38 hi hz0 hz1 hz2 rfl _ _ _ rfl (by exact hown) hsz3 (.int .i64 id) rfl _ rfl (by unfold maxLen; omega) (by omega) ?_; intro v3 w3 hown3 hb3; obtain ⟨A3, c3, rfl⟩ := own_form hown3))
        obtain ⟨hg3, hm3⟩ := HT.out.app hmb2 hb3
        obtain ⟨w4, hrun, hown4, hturn⟩ := World.ownsMap.drop (P := Tryz.prog) (w := w3.drew) (ownsMap_block (w' := w3.drew) hm3 rfl) keyed Tryz.underlying117 (key_of hid) 0
        have hg4 : w3.drew.grownBy w4 (some mb) := hturn.grown
        have hg24 : w2.grownBy w4 (some mb) := grown_trans (grown_draw hg3) hg4
        have HT4 : Hid (TrimSt w2 w4 mb m (D'.del (.int .i64 id)) ks ts (j + 1) A3 c3) := hidb (by
          have e : ts.take (j + 1) = ts.take j ++ [q] := by rw [List.take_add_one, HQ.out]; rfl
          refine ⟨hg24, hown4, ?_, ?_⟩
          · rw [e, leftK_snoc, HQS.out]
            exact HT.out.mis.del id
          · rw [e, List.map_append]
            have h1 := own_past (W := w3.drew) (W' := w4) (b := mb) (base := w2.heap.size) (by exact hown3) hmb2 hg4
            rw [show [q].map (fun k => iv k.s.1) = [iv id] by simp [HQS.out]]
            exact h1)
        obtain ⟨x0, x2, _, hcut3, _⟩ := HX.out w3 hg3
        have xk := (hcut3 q hqk).c0
        rw [HQS.out] at xk
        have S4 : Hid (w4.cell? ⟨w1.heap.size, 2, none⟩ = some (.map (some mb)) ∧ w4.cell? ⟨q.b, 0, none⟩ = some (.int .i64 id)) := hidb (by
          obtain ⟨_, z2, _, hcut4, _⟩ := HX.out w4 hg24
          have zk := (hcut4 q hqk).c0
          rw [HQS.out] at zk
          exact ⟨z2, zk⟩)
        clear hown3 hb3 hg3 hm3 hturn hg4 hg24 hown4 hcut3 hown y0 y2 hk0 x0
        go_region_held3 (fun w' => w'.cell? ⟨w1.heap.size, 2, none⟩ = some (.map (some mb)) ∧ w'.cell? ⟨q.b, 0, none⟩ = some (.int .i64 id)) (first | exact S4.out | (go_keep; done)) (fail)
        go_wp2
        go_roundw
        case rel => exact ⟨j + 1, A3, c3, _, by go_num, rfl, by omega, HT4⟩
        case measure => simp [intOf]; omega
      · obtain rfl : j = N := by omega
        obtain ⟨y0, y2, _, _, hgw⟩ := HX.out wr HT.out.gr
        have ht : ts.take j = ts := List.take_of_length_le (by rw [HNE.out]; exact Nat.le_refl _)
        have hrow := HT.out.row
        rw [ht] at hrow
        have hsl : Sl wr wr.heap.size A' j ((ts.map (·.s.1)).map iv) := by rw [List.map_map]; exact Sl.of_own hrow
        obtain ⟨hnd, hsub2⟩ := HNDB.out ts
        have hmis := HT.out.mis
        rw [ht] at hmis
        have hpl := HMAP.out wr D' (leftK ks ts) hgw HT.out.mp hmis (by rw [HKS.out]; exact hsub2) hnd
        have hf := code_hfree hpl.hp_ A' j c' (ts.map (·.s.1)) hsl (by omega) (fun i hi => by
          obtain ⟨q, hq, rfl⟩ := List.mem_map.1 hi
          exact HIN.out q (HSUB.out q hq))
        have HPL := hidb hpl
        have HGW := hidb hgw
        have HFIN : Hid (∀ w5, Hp w5 (more Sh wr w5) hp (hDrop v.h (ts.map (·.s.1))).1 → Kept Sh wr w5 → Trimmed w Sh p hp ap g mb n m v (.returned (.tuple #[])) w5) := hidb (fun w5 h1 h2 => HEND.out wr D' (leftK ks ts) _ (ts.map (·.s.1)) w5 HPL.out (HMBS.out wr HGW.out) (by rw [HKS.out]; exact hleft) (by rw [HKS.out]; exact hperm) h1 h2 rfl)
        unfold FreedHp at hf
        clear hrow hsl hmis hpl hgw HT HX hnd hsub2
        go_wp2_with (go_at_call 143; (with_reducible refine hf.mono ?_); rintro e w5 ⟨rfl, hp5, hk5⟩; have P := hidb (HFIN.out w5 hp5 hk5))
        exact bodyPost_ret (v := .tuple #[]) (by simp [results, Tryz.results106, go_sem]) rfl P.out

/-- What Hold does. -/
def holdV (v : PoolW) (on : Bool) : PoolW := trimV { v with held := on }
def Held (w : World) (Sh : Nat → Prop) (p hp ap g mb n m : Nat) (v : PoolW) (on : Bool) (e : Ending) (w' : World) : Prop :=
  e = .returned (.bool v.held) ∧ ∃ Sh' D', PlAt w' Sh' p hp ap g mb n m D' (holdV v on) ∧ PlOk n m (holdV v on) ∧ Kept (PlS Sh p ap g mb v.ks) w w' ∧ ∀ b, Sh' b → Sh b ∨ w.heap.size ≤ b
theorem code_phold {w : World} {Sh : Nat → Prop} {p hp ap g mb n m : Nat} {D : DataW Unit} {v : PoolW} (k : PlAt w Sh p hp ap g mb n m D v) (o : PlOk n m v) (on : Bool) :
    Calls Tryz.prog 54 #[.pointer (some ⟨p, 0, none⟩), .bool on] w (Held w Sh p hp ap g mb n m v on) := by
  have k2 := k.hold on
  have o2 : PlOk n m { v with held := on } := ⟨o.len, o.wide, o.mem, o.four, o.lst, o.sub, o.ids, o.cnt⟩
  have ct := code_ptrim k2 o2
  have HE : Hid (∀ w', Trimmed (w.setCell ⟨p, 3, none⟩ (.bool on)) Sh p hp ap g mb n m { v with held := on } (.returned (.tuple #[])) w' → Held w Sh p hp ap g mb n m v on (.returned (.bool v.held)) w') := hidb (fun w' ⟨_, Sh', D', q1, q2, q3, q4⟩ => by
    refine ⟨rfl, Sh', D', q1, q2, ?_, fun b hb => by simpa using q4 b hb⟩
    exact (((Kept.refl (PlS Sh p ap g mb v.ks) w).set (a := ⟨p, 3, none⟩) (Or.inl (by unfold PlS; simp)) (.bool on))).trans q3 (fun b hb h => h))
  have c3 := k.c3
  have f3 := k.fz 3
  obtain ⟨held, hh⟩ : ∃ held, v.held = held := ⟨_, rfl⟩
  rw [hh] at c3 HE
  clear k k2 o o2 hh
  go_enter Tryz.func54, Tryz.ntmps54
  go_wp2_with (go_at_call 106; (with_reducible refine ct.mono ?_); rintro e w1 ht; have he := ht.1; subst he; have P := hidb (HE.out _ ht); clear ht)
  go_ret
  exact P.out

end Go.Proofs.YtcgfmpegakpddaaGreat
/- Plain facts: what Push and Pop leave of the other chains; a pool one of whose chains is another one. -/
namespace Go.Proofs.YtcgfmpegakpddaaGreat
open Go.RowKit Go.Maps
set_option linter.unusedVariables false

theorem links_keep : ∀ {m : List Int} {s : List Nat × (Int × Int)} {h : Int} {l : List Int}, (∀ x ∈ m, 0 ≤ x ∧ x ∉ l) → Links s.1 h l → Links (cAll s m).1 h l
  | [], s, h, l, _, k => k
  | a :: m, s, h, l, hm, k => by
    have ha := hm a (List.mem_cons_self ..)
    exact links_keep (m := m) (s := cStep s a) (fun x hx => hm x (List.mem_cons_of_mem _ hx)) (k.set_ ha.1 ha.2)
theorem list_keep {ws : List Nat} {c : Int × Int} {l m : List Int} (c0 : Int × Int) (h : cList ws c = some l) (hm : ∀ x ∈ m, 0 ≤ x ∧ x ∉ l) : cList (cAll (ws, c0) m).1 c = some l := by
  obtain ⟨c1, c2⟩ := c
  obtain ⟨h1, h2, h3⟩ := cList_iff.1 h
  exact cList_iff.2 ⟨links_keep (s := (ws, c0)) hm h1, h2, h3⟩
theorem nodup_at {l : List Int} (hd : l.Nodup) {i : Nat} (hi : i < l.length) : l.getD i 0 ∉ l.take i := fun c => by
  obtain ⟨j, hj, e⟩ := List.mem_iff_getElem.1 c
  rw [List.length_take] at hj
  rw [List.getElem_take, List.getD_eq_getElem?_getD, List.getElem?_eq_getElem hi] at e
  exact absurd e ((List.pairwise_iff_getElem.1 hd) j i (by omega) hi (by omega))
/-- A push that is right. -/
theorem push_right {ws : List Nat} {c : Int × Int} {l m : List Int} (h : cList ws c = some l) (hd : (m ++ l).Nodup) (hr : ∀ x ∈ m, 0 ≤ x ∧ x < (ws.length : Int)) (hw : Wide ws) (hn : ws.length ≤ 65536) :
    ∃ ws' c', cPush ws c m = (ws', c', 0) ∧ cList ws' c' = some (m.reverse ++ l) ∧ ws'.length = ws.length ∧ Wide ws' ∧ ∀ c2 l2, cList ws c2 = some l2 → (∀ x ∈ m, x ∉ l2) → cList ws' c2 = some l2 := by
  have h1 : cIn ws.length m = true := by
    unfold cIn
    rw [List.all_eq_true]
    exact fun x hx => decide_eq_true (hr x hx)
  have hdm := (List.nodup_append.1 hd).1
  have h2 : cClash l m = false := cClash_no fun i hi => ⟨fun c2 => (List.nodup_append.1 hd).2.2 (m.getD i 0) (by rw [List.getD_eq_getElem?_getD, List.getElem?_eq_getElem hi]; exact List.getElem_mem _) _ c2 rfl, nodup_at hdm hi⟩
  refine ⟨(cAll (ws, c) m).1, (cAll (ws, c) m).2, ?_, push_list h hd hr, cAll_length .., ?_, fun c2 l2 h3 h4 => list_keep c h3 fun x hx => ⟨(hr x hx).1, h4 x hx⟩⟩
  · unfold cPush
    rw [h]
    simp only
    rw [h1, h2]; rfl
  · obtain ⟨c1, c2⟩ := c
    have h5 := (cList_iff.1 h).1.range
    exact Wide.cAll hw (by show c1.toNat < _; omega) fun x hx => by have := hr x hx; omega
/-- A pop of a chain that has blocks. -/
theorem pop_right {ws : List Nat} {c : Int × Int} {a : Int} {l : List Int} (h : cList ws c = some (a :: l)) (hw : Wide ws) (hn : ws.length ≤ 65536) :
    ∃ ws' c', cPop ws c = (ws', c', a, 0) ∧ cList ws' c' = some l ∧ ws'.length = ws.length ∧ Wide ws' ∧ ∀ c2 l2, cList ws c2 = some l2 → (∀ x ∈ a :: l, x ∉ l2) → cList ws' c2 = some l2 := by
  obtain ⟨hd, hr, hlen⟩ := cList_some h
  have har := hr a (List.mem_cons_self ..)
  obtain ⟨h1, _, _, h4⟩ := without_list h (List.mem_cons_self ..)
  have hf : (a :: l).filter (fun x => x != a) = l := by
    have := (List.nodup_cons.1 hd).1
    rw [List.filter_cons_of_neg (by simp)]
    exact List.filter_eq_self.2 fun x hx => by simpa using fun e : x = a => this (e ▸ hx)
  rw [hf] at h1
  have hm : ∀ x ∈ (a :: l).reverse.filter (fun x => x != a), x ∈ a :: l := fun x hx => List.mem_reverse.1 (List.mem_filter.1 hx).1
  refine ⟨_, _, by unfold cPop; rw [h], h1, h4, ?_, fun c2 l2 h3 h5 => ?_⟩
  · unfold cWithout
    exact Wide.cAll (hw.set _ (by omega)) (by show (0 : Int).toNat < _; decide) fun x hx => by have := hr x (hm x hx); omega
  · unfold cWithout
    have h6 : cList (ws.set a.toNat 0) c2 = some l2 := by
      obtain ⟨p, q⟩ := c2
      obtain ⟨q1, q2, q3⟩ := cList_iff.1 h3
      exact cList_iff.2 ⟨q1.set_ har.1 (h5 a (List.mem_cons_self ..)), q2, q3⟩
    exact list_keep (0, 0) h6 fun x hx => ⟨(hr x (hm x hx)).1, h5 x (hm x hx)⟩

section
variable {n m : Nat} {v : PoolW}
/-- Blocks of two cut spans are different ones. -/
theorem PlOk.blocks_apart (o : PlOk n m v) (k : HOk v.h) {c d : CutV} (hc : c ∈ v.ks) (hd : d ∈ v.ks) {a : Int} (h1 : a ∈ pBlocks c.s) (h2 : a ∈ pBlocks d.s) : c = d := by
  obtain ⟨f1, f2, f3⟩ := o.four c hc
  obtain ⟨g1, g2, g3⟩ := o.four d hd
  have e := k.apart (o.mem c hc) (o.mem d hd) (blocks_page h1 f1 ⟨f2, f3⟩) (blocks_page h2 g1 ⟨g2, g3⟩)
  exact kids_inj o.ids hc hd (by rw [e])
/-- .. and within the arena. -/
theorem PlOk.block_range (o : PlOk n m v) (k : HOk v.h) {c : CutV} (hc : c ∈ v.ks) {a : Int} (h1 : a ∈ pBlocks c.s) : 0 ≤ a ∧ a < (n : Int) := by
  obtain ⟨f1, f2, f3⟩ := o.four c hc
  have h2 := blocks_in h1 f1 ⟨f2, f3⟩
  have h3 := (pMany_16 c.s.2.2.2 f2 f3).2.2.2
  have h4 := k.start (o.mem c hc)
  have h5 := o.len
  rw [f1] at h4
  omega
theorem PlOk.chain (o : PlOk n m v) (hd : (v.ks.map (·.b)).Nodup) {i : Nat} {c : CutV} (hi : v.ks[i]? = some c) {ws' : List Nat} {c' : Int × Int} {l' : List Int} (hw : Wide ws') (hl : cList ws' c' = some l') (hs : ∀ x ∈ l', x ∈ pBlocks c.s)
    (hk : ∀ k ∈ v.ks, k.b ≠ c.b → cList ws' k.c = some k.l) : PlOk n m { v with ws := ws', ks := setC v.ks i c c' l' } := by
  have hcm := List.mem_of_getElem? hi
  refine ⟨o.len, hw, fun x hx => ?_, fun x hx => ?_, fun x hx => ?_, fun x hx => ?_, ?_, o.cnt⟩
  · rcases setC_mem hi hx hd with rfl | ⟨h1, h2⟩
    · exact o.mem c hcm
    · exact o.mem x h1
  · rcases setC_mem hi hx hd with rfl | ⟨h1, h2⟩
    · exact o.four c hcm
    · exact o.four x h1
  · rcases setC_mem hi hx hd with rfl | ⟨h1, h2⟩
    · exact hl
    · exact hk x h1 h2
  · rcases setC_mem hi hx hd with rfl | ⟨h1, h2⟩
    · exact hs
    · exact o.sub x h1
  · show ((setC v.ks i c c' l').map (·.s.1)).Nodup
    rw [setC_map (·.s.1) (fun _ _ _ => rfl) hi]
    exact o.ids
end

/-- Chains that have none of these blocks are as they were. -/
def Stays (ws ws' : List Nat) (T : Int → Prop) : Prop := ∀ c l, cList ws c = some l → (∀ x ∈ l, ¬ T x) → cList ws' c = some l
theorem Stays.refl (ws : List Nat) (T : Int → Prop) : Stays ws ws T := fun _ _ h _ => h
theorem Stays.trans {a b c : List Nat} {T T' U : Int → Prop} (h : Stays a b T) (h' : Stays b c T') (i : ∀ x, T x → U x) (i' : ∀ x, T' x → U x) : Stays a c U := fun q l hl hn => h' q l (h q l hl fun x hx ht => hn x hx (i x ht)) fun x hx ht => hn x hx (i' x ht)
theorem Stays.mono {a b : List Nat} {T U : Int → Prop} (h : Stays a b T) (i : ∀ x, T x → U x) : Stays a b U := fun q l hl hn => h q l hl fun x hx ht => hn x hx (i x ht)
/-- A block of a cut span that is in no list. -/
def OutOf (ks : List CutV) (x : Int) : Prop := ∃ k ∈ ks, x ∈ pBlocks k.s ∧ x ∉ k.l
/-- What a call leaves of a pool. -/
def Went (w : World) (Sh : Nat → Prop) (p hp ap g mb n : Nat) (ks : List CutV) (w' : World) (v' : PoolW) : Prop :=
  ∃ Sh' m' D', PlAt w' Sh' p hp ap g mb n m' D' v' ∧ PlOk n m' v' ∧ Kept (PlS Sh p ap g mb ks) w w' ∧ ∀ b, PlS Sh' p ap g mb v'.ks b → PlS Sh p ap g mb ks b ∨ w.heap.size ≤ b
theorem Went.trans {w w' w'' : World} {Sh Sh' : Nat → Prop} {p hp ap g mb n : Nat} {ks : List CutV} {v' v'' : PoolW} (hk : Kept (PlS Sh p ap g mb ks) w w') (hs : ∀ b, PlS Sh' p ap g mb v'.ks b → PlS Sh p ap g mb ks b ∨ w.heap.size ≤ b) (h : Went w' Sh' p hp ap g mb n v'.ks w'' v'') : Went w Sh p hp ap g mb n ks w'' v'' := by
  obtain ⟨S2, m2, D2, q1, q2, q3, q4⟩ := h
  refine ⟨S2, m2, D2, q1, q2, hk.trans q3 (fun b hb h2 => ?_), fun b hb => ?_⟩
  · rcases hs b h2 with h3 | h3
    · exact h3
    · omega
  · rcases q4 b hb with h2 | h2
    · exact hs b h2
    · exact Or.inr (Nat.le_trans hk.size h2)
theorem Trimmed.went {w w' : World} {Sh : Nat → Prop} {p hp ap g mb n m : Nat} {v : PoolW} {e : Ending} (h : Trimmed w Sh p hp ap g mb n m v e w') : Went w Sh p hp ap g mb n v.ks w' (trimV v) := by
  obtain ⟨_, S2, D2, q1, q2, q3, q4⟩ := h
  refine ⟨S2, m, D2, q1, q2, q3, fun b hb => ?_⟩
  have hsub : ∀ c ∈ (trimV v).ks, c ∈ v.ks := fun c hc => by
    unfold trimV at hc
    split at hc
    · exact hc
    · exact (List.mem_filter.1 hc).1
  rcases hb with h | h | h | h | h | ⟨c, hc, e⟩
  · rcases q4 b h with h2 | h2
    · exact Or.inl (Or.inl h2)
    · exact Or.inr h2
  · exact Or.inl (Or.inr (Or.inl h))
  · exact Or.inl (Or.inr (Or.inr (Or.inl h)))
  · exact Or.inl (Or.inr (Or.inr (Or.inr (Or.inl h))))
  · exact Or.inl (Or.inr (Or.inr (Or.inr (Or.inr (Or.inl h)))))
  · exact Or.inl (Or.inr (Or.inr (Or.inr (Or.inr (Or.inr ⟨c, hsub c hc, e⟩)))))

end Go.Proofs.YtcgfmpegakpddaaGreat
/- What Take and Give of the document's own pool come to, plainly; which span is the first one. -/
namespace Go.Proofs.YtcgfmpegakpddaaGreat
open Go.RowKit Go.Maps
set_option linter.unusedVariables false

abbrev PL := List ((Int × Int × Int × Int) × List Int)
def fsP (l : PL) (order from' : Int) (s : Bool) (j : Nat) : Option Nat := (List.range j).foldl (pStep order from' s l) none
theorem fsP_succ (l : PL) (order from' : Int) (s : Bool) (j : Nat) : fsP l order from' s (j + 1) = pStep order from' s l (fsP l order from' s j) j := by
  unfold fsP; rw [List.range_succ, List.foldl_append]; rfl
/-- The best of the first j places. -/
theorem fsP_spec (l : PL) (order from' : Int) (s : Bool) : ∀ j, j ≤ l.length → (fsP l order from' s j = none ∧ ∀ i c, i < j → l[i]? = some c → pFits order from' s c = false) ∨ ∃ b c, fsP l order from' s j = some b ∧ b < j ∧ l[b]? = some c ∧ pFits order from' s c = true ∧ ∀ i d, i < j → l[i]? = some d → pFits order from' s d = true → c.1.2.1 ≤ d.1.2.1
  | 0, _ => Or.inl ⟨rfl, fun i c h => absurd h (Nat.not_lt_zero _)⟩
  | j + 1, hj => by
    have ih := fsP_spec l order from' s j (by omega)
    have hx : l[j]? = some l[j] := List.getElem?_eq_getElem (by omega)
    rw [fsP_succ]
    unfold pStep
    rw [hx]
    simp only
    by_cases hf : pFits order from' s l[j] = true
    · rw [if_pos hf]
      rcases ih with ⟨e, h⟩ | ⟨b, c, e, hb, hc, hfc, hm⟩
      · rw [e]
        refine Or.inr ⟨j, l[j], rfl, by omega, hx, hf, fun i d hi hd hfd => ?_⟩
        by_cases hij : i = j
        · subst hij; rw [hx] at hd; injection hd with hd; rw [hd]; exact Int.le_refl _
        · have := h i d (by omega) hd; rw [hfd] at this; cases this
      · rw [e]
        simp only
        rw [hc]
        simp only
        by_cases hlt : l[j].1.2.1 < c.1.2.1
        · rw [if_pos hlt]
          refine Or.inr ⟨j, l[j], rfl, by omega, hx, hf, fun i d hi hd hfd => ?_⟩
          by_cases hij : i = j
          · subst hij; rw [hx] at hd; injection hd with hd; rw [hd]; exact Int.le_refl _
          · have := hm i d (by omega) hd hfd; omega
        · rw [if_neg hlt]
          refine Or.inr ⟨b, c, rfl, by omega, hc, hfc, fun i d hi hd hfd => ?_⟩
          by_cases hij : i = j
          · subst hij; rw [hx] at hd; injection hd with hd; rw [← hd]; omega
          · exact hm i d (by omega) hd hfd
    · rw [if_neg hf]
      have hf2 : pFits order from' s l[j] = false := by simpa using hf
      rcases ih with ⟨e, h⟩ | ⟨b, c, e, hb, hc, hfc, hm⟩
      · refine Or.inl ⟨e, fun i c hi hc => ?_⟩
        by_cases hij : i = j
        · subst hij; rw [hx] at hc; injection hc with hc; rw [← hc]; exact hf2
        · exact h i c (by omega) hc
      · refine Or.inr ⟨b, c, e, by omega, hc, hfc, fun i d hi hd hfd => ?_⟩
        by_cases hij : i = j
        · subst hij; rw [hx] at hd; injection hd with hd; rw [← hd, hf2] at hfd; cases hfd
        · exact hm i d (by omega) hd hfd
theorem pFirst_spec (l : PL) (order from' : Int) (s : Bool) : (pFirst l order from' s = none ∧ ∀ c ∈ l, pFits order from' s c = false) ∨ ∃ b c, pFirst l order from' s = some b ∧ l[b]? = some c ∧ pFits order from' s c = true ∧ ∀ d ∈ l, pFits order from' s d = true → c.1.2.1 ≤ d.1.2.1 := by
  rcases fsP_spec l order from' s l.length (Nat.le_refl _) with ⟨e, h⟩ | ⟨b, c, e, hb, hc, hf, hm⟩
  · refine Or.inl ⟨e, fun c hc => ?_⟩
    obtain ⟨i, hi, rfl⟩ := List.mem_iff_getElem.1 hc
    exact h i _ hi (List.getElem?_eq_getElem hi)
  · refine Or.inr ⟨b, c, e, hc, hf, fun d hd hfd => ?_⟩
    obtain ⟨i, hi, rfl⟩ := List.mem_iff_getElem.1 hd
    exact hm i _ hi (List.getElem?_eq_getElem hi) hfd
theorem starts_inj {n m : Nat} {v : PoolW} (o : PlOk n m v) (k : HOk v.h) {a b : CutV} (ha : a ∈ v.ks) (hb : b ∈ v.ks) (h : a.s.2.1 = b.s.2.1) : a = b := by
  refine kids_inj o.ids ha hb ?_
  have h1 := k.start (o.mem a ha)
  have h2 := k.start (o.mem b hb)
  rw [k.apart (o.mem a ha) (o.mem b hb) (p := a.s.2.1) ⟨Int.le_refl _, by omega⟩ (by omega)]
/-- The first one of those in order is the one with the least start. -/
theorem rising_first {n m : Nat} {v : PoolW} (o : PlOk n m v) (k : HOk v.h) {ds : List CutV} (hd : InOrderP v.ks ds) (f : CutV → Bool) (order : Int) (s : Bool) (hf : ∀ c ∈ v.ks, f c = pFits order 0 s c.plain) :
    (ds.filter f = [] ∧ pFirst (v.ks.map CutV.plain) order 0 s = none) ∨ ∃ c r i, ds.filter f = c :: r ∧ v.ks[i]? = some c ∧ f c = true ∧ pFirst (v.ks.map CutV.plain) order 0 s = some i := by
  cases e : ds.filter f with
  | nil =>
    refine Or.inl ⟨rfl, ?_⟩
    rcases pFirst_spec (v.ks.map CutV.plain) order 0 s with ⟨h, _⟩ | ⟨b, c, h, hc, hfc, _⟩
    · exact h
    · rw [List.getElem?_map] at hc
      obtain ⟨q, hq, rfl⟩ := Option.map_eq_some_iff.1 hc
      have hm := List.mem_of_getElem? hq
      have := List.filter_eq_nil_iff.1 e q ((hd.2.1 q).2 hm)
      rw [hf q hm, hfc] at this
      exact absurd rfl this
  | cons c r =>
    have hc : c ∈ ds.filter f := by rw [e]; exact List.mem_cons_self ..
    obtain ⟨h1, h2⟩ := List.mem_filter.1 hc
    have hck := (hd.2.1 c).1 h1
    have hmin : ∀ d ∈ v.ks, f d = true → c.s.2.1 ≤ d.s.2.1 := fun d hdm hfd => by
      have h3 : d ∈ c :: r := by rw [← e]; exact List.mem_filter.2 ⟨(hd.2.1 d).2 hdm, hfd⟩
      have h4 : (c :: r).Pairwise (fun a b : CutV => a.s.2.1 ≤ b.s.2.1) := by rw [← e]; exact hd.2.2.filter _
      rcases List.mem_cons.1 h3 with rfl | h3
      · exact Int.le_refl _
      · exact (List.pairwise_cons.1 h4).1 d h3
    rcases pFirst_spec (v.ks.map CutV.plain) order 0 s with ⟨_, h⟩ | ⟨b, d, h, hdb, hfd, hm⟩
    · have := h c.plain (List.mem_map.2 ⟨c, hck, rfl⟩)
      rw [← hf c hck, h2] at this; cases this
    · rw [List.getElem?_map] at hdb
      obtain ⟨q, hq, rfl⟩ := Option.map_eq_some_iff.1 hdb
      have hqm := List.mem_of_getElem? hq
      have h5 : q = c := starts_inj o k hqm hck (by
        have h6 := hmin q hqm (by rw [hf q hqm]; exact hfd)
        have h7 := hm c.plain (List.mem_map.2 ⟨c, hck, rfl⟩) (by rw [← hf c hck]; exact h2)
        have h8 : q.s.2.1 ≤ c.s.2.1 := h7
        omega)
      subst h5
      exact Or.inr ⟨q, r, b, rfl, hq, h2, h⟩

/-- Take. -/
def pTake (p : PoolV) (order : Int) : PoolV × Int × Int :=
  if order < 0 ∨ 3 < order then (p, 0, 1) else
  match pFirst p.l order 0 true with
  | some i => (match p.l[i]? with
    | some c => ({ p with l := p.l.set i (c.1, c.2.tail) }, c.2.headD 0, 0)
    | none => (p, 0, 0))
  | none => if (hMake p.heap 4 order).2.2 = 0 then (⟨(hMake p.heap 4 order).1, p.l ++ [((hMake p.heap 4 order).2.1, (pBlocks (hMake p.heap 4 order).2.1).tail)], p.held⟩, (pBlocks (hMake p.heap 4 order).2.1).headD 0, 0) else (p, 0, (hMake p.heap 4 order).2.2)

end Go.Proofs.YtcgfmpegakpddaaGreat
