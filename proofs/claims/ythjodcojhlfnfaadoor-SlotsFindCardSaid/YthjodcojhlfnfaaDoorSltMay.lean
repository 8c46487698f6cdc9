/- What the code of layer 16 (slots) returns: own, May. -/
import Derived.Test.YthjodcojhlfnfaaDoorSltAll
import Derived.Laws.StructEq
namespace Go.Proofs.YthjodcojhlfnfaaDoor
open Go.RowKit
set_option linter.unusedVariables false

/-- A value with the fields of its Kind alone. -/
def vOwn (v : VlV) : VlV := if v.kind = 1 then ⟨1, v.bits, 0, 0⟩ else if v.kind = 2 then ⟨2, 0, v.depth, v.slot⟩ else vl0
theorem vMay_own (v : VlV) : vMay v = (decide (v = vOwn v) && decide (0 ≤ v.depth ∧ 0 ≤ v.slot)) := by
  obtain ⟨k, b, d, i⟩ := v
  unfold vMay vOwn vl0
  simp only
  by_cases h1 : k = 1
  · subst h1
    simp only [if_true, VlV.mk.injEq]
    by_cases hd : d = 0 <;> by_cases hi : i = 0 <;> simp [hd, hi]
  · by_cases h2 : k = 2
    · subst h2
      simp
    · rw [if_neg h1, if_neg h2]
      by_cases h0 : k = 0
      · subst h0
        simp
        by_cases hb : b = 0 <;> by_cases hd : d = 0 <;> by_cases hi : i = 0 <;> simp [hb, hd, hi]
      · simp [h0]
        intro h; omega
theorem neq_valS (x y : VlV) (W : World) : (binOp .neq 42 (.agg #[.int .u8 x.kind, .int .u64 x.bits, .int .i64 x.depth, .int .i64 x.slot]) (.agg #[.int .u8 y.kind, .int .u64 y.bits, .int .i64 y.depth, .int .i64 y.slot])).run Tryd.prog W = .ok (.bool (!(decide (x = y)))) W := by
  obtain ⟨a, b, c, d⟩ := x
  obtain ⟨a', b', c', d'⟩ := y
  simp [go_sem]
  by_cases h1 : a = a' <;> by_cases h2 : b = b' <;> by_cases h3 : c = c' <;> by_cases h4 : d = d' <;> simp [h1, h2, h3, h4] <;> omega

theorem c_own (v : VlV) (w : World) : Calls Tryd.prog 25 #[.agg #[.int .u8 v.kind, .int .u64 v.bits, .int .i64 v.depth, .int .i64 v.slot]] w fun e w' => e = .returned (.agg #[.int .u8 (vOwn v).kind, .int .u64 (vOwn v).bits, .int .i64 (vOwn v).depth, .int .i64 (vOwn v).slot]) ∧ Below w.heap.size w w' := by
  obtain ⟨k, b, d, i⟩ := v
  unfold vOwn vl0
  simp only
  by_cases h1 : k = 1
  · subst h1
    rw [if_pos rfl]
    --@1
    go_enter Tryd.func25, Tryd.ntmps25
    go_wp2
    exact bodyPost_ret (v := .agg #[.int .u8 1, .int .u64 (b : Int), .int .i64 0, .int .i64 0]) (by simp [results, Tryd.results25, go_sem]) rfl ⟨rfl, belF_al (belF_al (Below.refl _ _) _) _⟩
  · rw [if_neg h1]
    by_cases h2 : k = 2
    · subst h2
      rw [if_pos rfl]
      --@2
      go_enter Tryd.func25, Tryd.ntmps25
      go_wp2
      exact bodyPost_ret (v := .agg #[.int .u8 2, .int .u64 0, .int .i64 d, .int .i64 i]) (by simp [results, Tryd.results25, go_sem]) rfl ⟨rfl, belF_al (belF_al (Below.refl _ _) _) _⟩
    · rw [if_neg h2]
      have g1 : ((k : Int) == 1) = false := by simp; omega
      have g2 : ((k : Int) == 2) = false := by simp; omega
      --@3
      go_enter Tryd.func25, Tryd.ntmps25
      go_wp2
      exact bodyPost_ret (v := .agg #[.int .u8 0, .int .u64 0, .int .i64 0, .int .i64 0]) (by simp [results, Tryd.results25, go_sem]) rfl ⟨rfl, belF_al (belF_al (Below.refl _ _) _) _⟩

set_option maxRecDepth 100000 in
set_option maxHeartbeats 2000000 in
theorem c_vmay1 (v : VlV) (hi1 : in64 v.depth) (hi2 : in64 v.slot) (w : World) (b : Bool) (hb : vMay v = b) : Calls Tryd.prog 24 #[.agg #[.int .u8 v.kind, .int .u64 v.bits, .int .i64 v.depth, .int .i64 v.slot]] w fun e w' => e = .returned (.bool (!b)) ∧ Below w.heap.size w w' := by
  rw [vMay_own] at hb
  have co := c_own v
  have HNE := hidb (neq_valS v (vOwn v))
  generalize vOwn v = u at *
  obtain ⟨W0, hW0⟩ : ∃ W0, W0 = w.alloc (.cells #[.int .u8 v.kind, .int .u64 v.bits, .int .i64 v.depth, .int .i64 v.slot] 42) := ⟨_, rfl⟩
  have hb0 : Below w.heap.size w W0 := by rw [hW0]; exact belF_al (Below.refl _ _) _
  have HC : Hid (∀ W, Below W0.heap.size W0 W → (W.cell? ⟨w.heap.size, 0, none⟩ = some (.int .u8 v.kind) ∧ W.cell? ⟨w.heap.size, 1, none⟩ = some (.int .u64 v.bits)) ∧ W.cell? ⟨w.heap.size, 2, none⟩ = some (.int .i64 v.depth) ∧ W.cell? ⟨w.heap.size, 3, none⟩ = some (.int .i64 v.slot)) := hidb (fun W hb => by
    have hz : W0.heap.size = w.heap.size + 1 := by rw [hW0]; simp
    refine ⟨⟨?_, ?_⟩, ?_, ?_⟩ <;> (rw [hb.cell (by show w.heap.size < _; omega), hW0]; simp))
  have HB := hidb hb0
  have HW0 := hidb hW0
  obtain ⟨k, bb, d, i⟩ := v
  simp only at *
  cases hq : decide (({ kind := k, bits := bb, depth := d, slot := i } : VlV) = u) with
  | false =>
    rw [hq, Bool.false_and] at hb
    subst hb
    rw [hq] at HNE
    have hne := HNE.out
    simp only [Bool.not_false] at hne
    clear hb0 hW0 hq
    --@4
    go_enter Tryd.func24, Tryd.ntmps24
    go_wp2
    rw [← HW0.out]
    refine wp_begin (by kernel_rfl) 13 rfl ?_
    refine wp_tail (C := fun W => Below W0.heap.size W0 W) 0 13 _ (by kernel_rfl) rfl (by kernel_rfl) (by kernel_rfl) (belF_dr (Below.refl _ _)) ?_
    simp only [List.drop_zero]
    go_big_quiet_want
    apply Exists.intro
    refine ⟨fun W hC => ?_, ?_⟩
    · obtain ⟨⟨d0, d1⟩, d2, d3⟩ := HC.out W hC
      unfold Oper.quietAt
      go_simp
      rfl
    go_big_quiet_on
    simp only [Act.put, List.setIfInBounds_toArray, List.set_cons_zero, List.set_cons_succ]
    go_big_quiet_want
    apply Exists.intro
    refine ⟨fun W hC => ?_, ?_⟩
    · obtain ⟨⟨d0, d1⟩, d2, d3⟩ := HC.out W hC
      unfold Oper.quietAt
      go_simp
      rfl
    go_big_quiet_on
    simp only [Act.put, List.setIfInBounds_toArray, List.set_cons_zero, List.set_cons_succ]
    go_big_quiet_want
    apply Exists.intro
    refine ⟨fun W hC => ?_, ?_⟩
    · unfold Oper.quietAt
      go_simp
      exact (co W).mono fun e w' h => ⟨h.1, belF_tr hC h.2⟩
    go_big_quiet_on
    simp only [Act.put, List.setIfInBounds_toArray, List.set_cons_zero, List.set_cons_succ]
    repeat (first | go_big_quiet_skip | (go_big_quiet_want; (apply Exists.intro); refine ⟨fun W hC => ?_, ?_⟩; (unfold Oper.quietAt; go_simp; done); go_big_quiet_on; simp only [Act.put, List.setIfInBounds_toArray, List.set_cons_zero, List.set_cons_succ]) | (go_big_quiet_want; (apply Exists.intro); refine ⟨fun W hC => ?_, ?_⟩; (unfold Oper.quietAt; go_simp; rfl); go_big_quiet_on; simp only [Act.put, List.setIfInBounds_toArray, List.set_cons_zero, List.set_cons_succ]))
    refine wpQuiet_nil ?_
    intro w4 hC
    have HB4 := hidb hC
    go_wp2
    go_ret
    exact ⟨rfl, belF_tr HB.out HB4.out⟩
  | true =>
    rw [hq, Bool.true_and] at hb
    rw [hq] at HNE
    have hne := HNE.out
    simp only [Bool.not_true] at hne
    have hmb : (decide (min d i < 0)) = !b := by rw [← hb, ← decide_not, decide_eq_decide]; omega
    clear hb0 hW0 hq hb
    --@5
    go_enter Tryd.func24, Tryd.ntmps24
    go_wp2
    rw [← HW0.out]
    (first | go_region_held3 (fun W => (W.cell? ⟨w.heap.size, 0, none⟩ = some (.int .u8 k) ∧ W.cell? ⟨w.heap.size, 1, none⟩ = some (.int .u64 bb)) ∧ W.cell? ⟨w.heap.size, 2, none⟩ = some (.int .i64 d) ∧ W.cell? ⟨w.heap.size, 3, none⟩ = some (.int .i64 i))
      (first | ((with_reducible refine HC.out _ ?_); (repeat (first | with_reducible exact Below.refl _ _ | with_reducible exact Hid.out (by assumption) | with_reducible apply belF_al | with_reducible apply belF_dr)); done) | (go_keep; done))
      (first
        | (go_at_call 25; (refine (co _).mono ?_); rintro e w1 ⟨rfl, hb1⟩; have HB1 : Hid (Below W0.heap.size W0 w1) := hidb (belF_tr (by (repeat (first | with_reducible exact Below.refl _ _ | with_reducible exact Hid.out (by assumption) | with_reducible apply belF_al | with_reducible apply belF_dr))) hb1); have hc1 := HC.out w1 HB1.out; clear hb1)) | fail)
    all_goals go_wp2
    all_goals go_ret
    all_goals exact ⟨by first | exact congrArg Ending.returned (congrArg Value.bool hmb) | (rw [← hmb]; rfl), belF_tr HB.out HB1.out⟩

/-- slices.IndexFunc at values. -/
theorem c_vidx (A : Option Addr) (n c : Nat) (vs : List VlV) (w : World) (B : Nat) (hr : VlRow w B A n vs) (hB : B ≤ w.heap.size) (hn : n ≤ 1000000) (h6 : ∀ v ∈ vs, in64 v.depth ∧ in64 v.slot) (b : Bool) (hb : vs.all vMay = b) :
    Calls Tryd.prog 43 #[.slice A n c, .func (.func 24) #[] #[]] w fun e w' => ∃ r : Int, e = .returned (.int .i64 r) ∧ (decide (0 ≤ r) = !b) ∧ Below w.heap.size w w' := by
  have HR := hidb hr
  have H6 := hidb h6
  have HB9 := hidb hB
  have HBV := hidb hb
  clear hr h6 hb
  go_enter Tryd.func43, Tryd.ntmps43
  go_wp2
  go_loopw [8] (fun k wr => ∃ j : Nat, j ≤ n ∧ Hid ((vs.take j).all vMay = true) ∧ k = .int .i64 j ∧ Hid (Below w.heap.size w wr)) (fun k _ => (n - intOf k).toNat)
  case atStart => exact ⟨0, by omega, hidb (by simp), rfl, hidb (Below.refl _ _)⟩
  case round =>
    obtain ⟨j, hj, HA, rfl, HB⟩ := hrel
    by_cases hlt : j < n
    · obtain ⟨bk, off, v, rfl, hbl, hv, hc0, hc1, hc2, hc3⟩ := HR.out.at_ hlt
      have hbl2 : bk < w.heap.size := Nat.lt_of_lt_of_le hbl HB9.out
      have d0 := (HB.out.cell (p := ⟨bk, off + j * 4, none⟩) hbl2).trans hc0
      have d1 := (HB.out.cell (p := ⟨bk, off + j * 4 + 1, none⟩) hbl2).trans hc1
      have d2 := (HB.out.cell (p := ⟨bk, off + j * 4 + 2, none⟩) hbl2).trans hc2
      have d3 := (HB.out.cell (p := ⟨bk, off + j * 4 + 3, none⟩) hbl2).trans hc3
      have hmem : v ∈ vs := List.mem_of_getElem? hv
      obtain ⟨bv, hbv⟩ : ∃ bv, vMay v = bv := ⟨_, rfl⟩
      have cm := c_vmay1 v (H6.out v hmem).1 (H6.out v hmem).2 wr bv hbv
      have hstep : (vs.take (j + 1)).all vMay = ((vs.take j).all vMay && vMay v) := by rw [List.take_add_one, hv]; simp
      have g0 : (0 : Int) ≤ (j : Int) := by omega
      have g1 : (j : Int) < (n : Int) := by omega
      clear hc0 hc1 hc2 hc3
      cases bv with
      | false =>
        have hall : b = false := by
          rw [← HBV.out, ← List.take_append_drop (j + 1) vs, List.all_append, hstep, hbv]; simp
        have HE := hidb hall
        clear hstep hall hbv hv hmem
        --@6
        go_wp2_with (first | (go_at_call 24; (with_reducible refine cm.mono ?_); rintro e w1 ⟨rfl, hb1⟩))
        go_ret
        exact ⟨(j : Int), rfl, by rw [HE.out]; exact decide_eq_true (by omega), belF_tr HB.out hb1⟩
      | true =>
        have HN : Hid ((vs.take (j + 1)).all vMay = true) := hidb (by rw [hstep, HA.out, hbv]; rfl)
        clear hstep hbv hv hmem
        --@7
        go_wp2_with (first | (go_at_call 24; (with_reducible refine cm.mono ?_); rintro e w1 ⟨rfl, hb1⟩))
        go_roundw
        case rel => exact ⟨j + 1, by omega, HN, by go_num, hidb (belF_tr HB.out hb1)⟩
        case measure => simp [intOf]; omega
    · have HE : Hid (b = true) := hidb (by
        rw [← HBV.out, ← HA.out, List.take_of_length_le (by rw [HR.out.len]; omega)])
      --@8
      go_wp2
      go_ret
      exact ⟨-1, rfl, by rw [HE.out]; rfl, HB.out⟩
theorem c_vhas (A : Option Addr) (n c : Nat) (vs : List VlV) (w : World) (B : Nat) (hr : VlRow w B A n vs) (hB : B ≤ w.heap.size) (hn : n ≤ 1000000) (h6 : ∀ v ∈ vs, in64 v.depth ∧ in64 v.slot) (b : Bool) (hb : vs.all vMay = b) :
    Calls Tryd.prog 23 #[.slice A n c, .func (.func 24) #[] #[]] w fun e w' => e = .returned (.bool (!b)) ∧ Below w.heap.size w w' := by
  have c1 := c_vidx A n c vs w B hr hB hn h6 b hb
  clear hr h6 hb
  go_enter Tryd.func23, Tryd.ntmps23
  --@9
  go_wp2_with (first | (go_at_call 43; (with_reducible refine c1.mono ?_); rintro e w1 ⟨r, rfl, hrb, hb1⟩))
  go_ret
  exact ⟨by first | exact congrArg Ending.returned (congrArg Value.bool hrb) | (rw [← hrb]; rfl), hb1⟩
/-- May, of any row of values. -/
theorem code_vmay (A : Option Addr) (n c : Nat) (vs : List VlV) (w : World) (B : Nat) (hr : VlRow w B A n vs) (hB : B ≤ w.heap.size) (hn : n ≤ 1000000) (h6 : ∀ v ∈ vs, in64 v.depth ∧ in64 v.slot) (b : Bool) (hb : vs.all vMay = b) :
    Calls Tryd.prog 14 #[.slice A n c] w fun e w' => e = .returned (.bool b) ∧ Below w.heap.size w w' := by
  have c1 := c_vhas A n c vs w B hr hB hn h6 b hb
  clear hr h6 hb
  go_enter Tryd.func14, Tryd.ntmps14
  --@10
  go_wp2_with (first | (go_at_call 23; (with_reducible refine c1.mono ?_); rintro e w1 ⟨rfl, hb1⟩))
  go_ret
  exact ⟨by simp, hb1⟩
end Go.Proofs.YthjodcojhlfnfaaDoor
