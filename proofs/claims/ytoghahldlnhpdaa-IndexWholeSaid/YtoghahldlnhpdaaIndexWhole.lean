/- The walk of layer 5's statement that the runs of all numbers are all pages, each once. -/
import Derived.Test.YtoghahldlnhpdaaIndexWhole0
namespace Go.Proofs.Ytoghahldlnhpdaa
open Go.RowKit
set_option linter.unusedVariables false

set_option maxRecDepth 100000 in
set_option maxHeartbeats 4000000 in
theorem indexWhole_any (pages : Int) (A : Option Addr) (L c : Nat) (l : List Act5) (w : World) (h0 : in64 pages) (hL : L ≤ maxLen) (hl : RowOf (Act5Is w) 3 w w.heap.size A L l) :
    Calls Try.prog 4 #[.int .i64 pages, .slice A L c] w fun e w' => e = .returned (.bool true) ∧ Below w.heap.size w w' := by
  have ca := fun W => awake5 W
  unfold maxLen at hL
  by_cases g1 : 100 < L
  · clear hl
    go_enter Try.func4, Try.ntmps4
    go_wp2_with (go_at_call 7; refine (ca _).mono ?_; rintro e w1 ⟨rfl, hb1⟩)
    go_ret
    exact ⟨rfl, hb1⟩
  obtain ⟨i0, hi, hz0, hz1, hz2⟩ := info_parts info_int
  have cn := code_xnew pages w h0
  unfold ResIx at cn
  obtain ⟨n, hn⟩ : ∃ n, (max 0 (min pages 1024)).toNat = n := ⟨_, rfl⟩
  rw [hn] at cn
  have hn2 : n ≤ 1024 := by omega
  have HRow := hidb hl
  obtain ⟨x0, hx0⟩ : ∃ x0, xNew pages = x0 := ⟨_, rfl⟩
  have F0 := hidb (few_new pages)
  rw [hx0] at cn F0
  clear hl hx0 hn h0
  go_enter Try.func4, Try.ntmps4
  go_wp2_with (first
    | (go_at_call 8; (with_reducible refine cn.mono ?_); rintro e w1 ⟨p, g, rfl, hx1, hb1⟩))
  have R0 : Hid (At5 w w1 p g n x0) := hidb ⟨hx1, hb1⟩
  clear hx1 hb1 cn
  go_loopw [6] (fun k wr => ∃ (j : Nat) (x : List Int), j ≤ L ∧ k = .int .i64 j ∧ Hid (At5 w wr p g n x) ∧ Hid (Few x)) (fun k _ => (L - intOf k).toNat)
  case atStart => exact ⟨0, _, by omega, rfl, R0, F0⟩
  case round =>
    obtain ⟨j, x, hj, rfl, HR, HF⟩ := hrel
    by_cases hlt : j < L
    · obtain ⟨b, off, y, cs, rfl, hbw, hy, hcl, hcs, hact⟩ := HRow.out.at_ hlt
      obtain ⟨drop, k, A2, len2, cap2, rs⟩ := y
      obtain ⟨rfl, ik, il, iR, ir⟩ := hact
      simp only at ik il iR ir hcs
      have HQ : Hid (∀ W, Below w.heap.size w W → W.cell? ⟨b, off + j * 3, none⟩ = some (.bool drop) ∧ W.cell? ⟨b, off + j * 3 + 1, none⟩ = some (.int .i64 k) ∧ W.cell? ⟨b, off + j * 3 + 2, none⟩ = some (.slice A2 len2 cap2)) := hidb (fun W hB =>
        ⟨by rw [hB.cell hbw]; exact hcs 0 (by omega), by rw [hB.cell hbw]; exact hcs 1 (by omega), by rw [hB.cell hbw]; exact hcs 2 (by omega)⟩)
      obtain ⟨q0, q1, q2⟩ := HQ.out wr HR.out.bel
      have hi0 : (0 : Int) ≤ (j : Int) := by omega
      have hi1 : (j : Int) < (L : Int) := by omega
      unfold maxLen at il
      by_cases g4 : 20 < len2
      · clear hcs hcl hy hbw iR ir ik
        have HB := hidb HR.out.bel
        go_wp2_with (go_at_call 7; refine (ca _).mono ?_; rintro e w3 ⟨rfl, hb3⟩)
        go_ret
        exact ⟨rfl, HB.out.trans (hb3.mono HB.out.size)⟩
      by_cases g5 : 9 < k
      · clear hcs hcl hy hbw iR ir ik
        have HB := hidb HR.out.bel
        go_wp2_with (go_at_call 7; refine (ca _).mono ?_; rintro e w3 ⟨rfl, hb3⟩)
        go_ret
        exact ⟨rfl, HB.out.trans (hb3.mono HB.out.size)⟩
      obtain ⟨N, hN⟩ : ∃ N, xPut x k rs drop = N := ⟨_, rfl⟩
      obtain ⟨x', no⟩ := N
      have HF2 : Hid (Few x') := hidb (by
        have := few_put (k := k) (rs := rs) (drop := drop) HF.out (Or.inr (by omega))
        rw [hN] at this; exact this)
      cases drop with
      | true =>
        have cd := a_drop HR.out k A2 len2 cap2 rs x' no hN ((iR.below HR.out.bel).more HR.out.bel.size) (HR.out.apart iR) (by omega) ir
        clear hcs hcl hy iR ir ik hN
        go_wp2_with (go_at_call 11; (with_reducible refine cd.mono ?_); rintro e w4 ⟨rfl, S4, hg4⟩)
        go_roundw
        case rel => exact ⟨j + 1, _, by omega, by go_num, hidb S4, HF2⟩
        case measure => simp [intOf]; omega
      | false =>
        have cd := a_set HR.out.drew k A2 len2 cap2 rs x' no hN ((iR.below HR.out.drew.bel).more HR.out.drew.bel.size) (HR.out.drew.apart iR) (by omega) ir ik
        clear hcs hcl hy iR ir ik hN
        go_wp2
        go_region_held3 (fun w' => w'.cell? ⟨b, off + j * 3, none⟩ = some (.bool false) ∧ w'.cell? ⟨b, off + j * 3 + 1, none⟩ = some (.int .i64 k) ∧ w'.cell? ⟨b, off + j * 3 + 2, none⟩ = some (.slice A2 len2 cap2)) (go_keep)
          (first | (go_at_call 12; (with_reducible refine cd.mono ?_); rintro e w4 ⟨rfl, S4, hg4⟩; obtain ⟨y0, y1, y2⟩ := HQ.out _ S4.bel))
        clear cd
        go_wp2
        go_roundw
        case rel => exact ⟨j + 1, _, by omega, by go_num, hidb S4, HF2⟩
        case measure => simp [intOf]; omega
    · have cp := HR.out.ix.pages wr (Below.refl _ _)
      have hgl := HR.out.ix.lt
      have hpl := HR.out.ix.ltp
      have hwl := HR.out.bel.size
      have hlx := HR.out.ix.hlen
      have HLX := hidb hlx
      clear hlx
      obtain ⟨wo, rfl⟩ : ∃ wo : World, wo = wr := ⟨_, rfl⟩
      go_wp2_with (first
        | (go_at_call 16; (with_reducible refine cp.mono ?_); rintro e w' ⟨rfl, rfl⟩)
        | (at_make; refine wpList_make_full wo rfl _ _ 26 rfl w.heap.size 3 i0 (.int .i64 0) 1 Try.underlying26 hi hz0 hz1 .i64 .i64 _ _ n rfl rfl (by omega) (by omega) (by rw [hz2]; omega) (by unfold maxLen; omega) hwl ?_; intro w1 hown hgrow))
      have W0 : Hid (Wh w w1 p g wo.heap.size n x []) := hidb (by
        rw [noughts, ← seenRow_nil] at hown
        have hb : Below wo.heap.size wo w1 := (Below.refl _ _).grown hgrow (Nat.le_refl _) (fun k hk => by cases hk)
        exact ⟨HR.out.below hb, hown, by omega, by omega⟩)
      clear hown hgrow cp
      go_loopw [8] (fun k wr => ∃ i : Nat, i ≤ 10 ∧ k = .int .i64 i ∧ Hid (Wh w wr p g wo.heap.size n x (whole x i))) (fun k _ => (10 - intOf k).toNat)
      case atStart => exact ⟨0, by omega, rfl, W0⟩
      case round =>
        obtain ⟨i, hi10, rfl, HW⟩ := hrel
        by_cases hlt2 : i < 10
        · have cr := w_runs HW.out (i : Int) (in64_mk (by omega) (by omega))
          unfold NewRuns at cr
          obtain ⟨K, hK⟩ : ∃ K, (xRuns x (i : Int)).length = K := ⟨_, rfl⟩
          have HK := hidb hK
          have hKn : K ≤ 1024 := by have h1 := xRuns_le x (i : Int); have h2 := HLX.out; omega
          rw [hK] at cr
          have hgs := HW.out.lt
          clear hK
          go_wp2_with (go_at_call 18; (with_reducible refine cr.mono ?_); rintro e w3 ⟨A3, c3, rfl, hR3, hne3, hb3⟩)
          have HW3 := hidb (HW.out.below hb3)
          have HR3 := hidb hR3
          have HN3 : Hid (∀ b off, 0 < K → A3 = some ⟨b, off, none⟩ → b ≠ wo.heap.size) := hidb (fun b off hp e => by have := hne3 b off hp e; omega)
          clear cr hR3 hne3 hb3
          go_loopw [10] (fun v wr => ∃ k : Nat, k ≤ K ∧ v = .int .i64 k ∧ Hid (Wh w wr p g wo.heap.size n x (whole x i ++ pgs ((xRuns x (i : Int)).take k))) ∧ Hid (Rn wr wr.heap.size A3 K (xRuns x (i : Int)))) (fun v _ => (K - intOf v).toNat)
          case atStart => exact ⟨0, by omega, rfl, by simpa [pgs] using HW3, HR3⟩
          case round =>
            obtain ⟨k, hk, rfl, HWk, HRk⟩ := hrel
            by_cases hlt3 : k < K
            · obtain ⟨b, off, s, l, rfl, hbl, hx, hc1, hc2⟩ := HRk.out.at_ hlt3
              obtain ⟨S, L, e, hL1, hS0, hSL, hin⟩ := run_at hx
              injection e with e1 e2
              subst e1 e2
              have HIN := hidb hin
              have HX := hidb hx
              rw [HLX.out] at hSL
              have hS1 : (S : Int) + (L : Int) ≤ (n : Int) := by omega
              have hSw : IntKind.i64.wrap ((S : Int) + (L : Int)) = (S : Int) + (L : Int) := IntWalk.i64_in _ (by omega)
              have hL2 : (1 : Int) ≤ (L : Int) := by omega
              have hS2 : (0 : Int) ≤ (S : Int) := by omega
              have hk0 : (0 : Int) ≤ (k : Int) := by omega
              have hk1 : (k : Int) < (K : Int) := by omega
              have d1 : decide ((L : Int) < 1) = false := decide_eq_false (by omega)
              have d2 : decide ((S : Int) < 0) = false := decide_eq_false (by omega)
              have d3 : decide ((n : Int) < (S : Int) + (L : Int)) = false := decide_eq_false (by omega)
              clear hx hin
              by_cases hkz : k = 0
              · have d4 : decide ((0 : Int) < (k : Int)) = false := decide_eq_false (by omega)
                have d4' : decide (0 < k) = false := decide_eq_false (by omega)
                clear hkz
                have HWQ : Hid (∀ Q, Hid (Wh w (wr.drewN Q) p g wo.heap.size n x (whole x i ++ pgs ((xRuns x (i : Int)).take k)))) := hidb (fun Q => hidb (HWk.out.drewN Q))
                have HRQ : Hid (∀ Q, Hid (Rn (wr.drewN Q) (wr.drewN Q).heap.size (some ⟨b, off, none⟩) K (xRuns x (i : Int)))) := hidb (fun Q => HRk)
                have HCELL : Hid (∀ W, Rn W W.heap.size (some ⟨b, off, none⟩) K (xRuns x (i : Int)) → W.cell? ⟨b, off + (k) * 2, none⟩ = some (.int .i64 (S : Int)) ∧ W.cell? ⟨b, off + (k) * 2 + 1, none⟩ = some (.int .i64 (L : Int))) := hidb (fun W hW => by
                  obtain ⟨b2, off2, e1, _, h2⟩ := hW.2 (by omega)
                  injection e1 with e1; injection e1 with e1 e3
                  subst e1 e3
                  exact h2 _ _ HX.out)
                go_wp2
                go_quiet (fail)
                go_wp2
                go_loopw [11] (fun v wr => ∃ u : Nat, u ≤ L ∧ v = .int .i64 ((S : Int) + (u : Int)) ∧ Hid (Wh w wr p g wo.heap.size n x (whole x i ++ pgs ((xRuns x (i : Int)).take k) ++ (List.range u).map (S + ·))) ∧ Hid (Rn wr wr.heap.size (some ⟨b, off, none⟩) K (xRuns x (i : Int)))) (fun v _ => (S + L - intOf v).toNat)
                case atStart => exact ⟨0, by omega, by simp, by simpa using HWQ.out _, HRQ.out _⟩
                case round =>
                  obtain ⟨u, hu, rfl, HWu, HRu⟩ := hrel
                  obtain ⟨hcu1, hcu2⟩ := HCELL.out _ HRu.out
                  have hso0 : (0 : Int) ≤ (S : Int) + (u : Int) := by omega
                  by_cases hul : u < L
                  · have hlt4 : (S : Int) + (u : Int) < (S : Int) + (L : Int) := by omega
                    have hso1 : (S : Int) + (u : Int) < (n : Int) := by omega
                    have hbn : ((S : Int) + (u : Int)).toNat = S + u := by omega
                    have hcs := HWu.out.cell (q := S + u) (by omega)
                    have hfs := HWu.out.seen.frozenAt (S + u)
                    have hcb := count_small n x (by have := HLX.out; omega) i k u S (S + u) (by omega) (by omega) (i : Int)
                    obtain ⟨cnt, hcnt⟩ : ∃ cnt, (whole x i ++ pgs ((xRuns x (i : Int)).take k) ++ (List.range u).map (S + ·)).count (S + u) = cnt := ⟨_, rfl⟩
                    rw [hcnt] at hcs hcb
                    have HBU : Hid (∀ Q, Wh w ((wr.drewN Q).setCell ⟨wo.heap.size, S + u, none⟩ (.int .i64 ((cnt : Int) + 1))) p g wo.heap.size n x (whole x i ++ pgs ((xRuns x (i : Int)).take k) ++ (List.range (u + 1)).map (S + ·)) ∧ Rn ((wr.drewN Q).setCell ⟨wo.heap.size, S + u, none⟩ (.int .i64 ((cnt : Int) + 1))) ((wr.drewN Q).setCell ⟨wo.heap.size, S + u, none⟩ (.int .i64 ((cnt : Int) + 1))).heap.size (some ⟨b, off, none⟩) K (xRuns x (i : Int))) := hidb (fun Q => by
                      have hb := (HWu.out.drewN Q).bump (q := S + u) (by omega)
                      rw [hcnt] at hb
                      refine ⟨?_, Rn.grown (show Rn (wr.drewN Q) (wr.drewN Q).heap.size (some ⟨b, off, none⟩) K (xRuns x (i : Int)) from HRu.out) HN3.out hb.2⟩
                      have e : whole x i ++ pgs ((xRuns x (i : Int)).take k) ++ (List.range (u + 1)).map (S + ·) = whole x i ++ pgs ((xRuns x (i : Int)).take k) ++ (List.range u).map (S + ·) ++ [S + u] := by
                        rw [List.range_succ, List.map_append, List.append_assoc, List.append_assoc, List.append_assoc]; rfl
                      rw [e]; exact hb.1)
                    have COF : Hid (∀ Q, Calls Try.prog 13 #[.pointer (some ⟨p, 0, none⟩), .int .i64 ((S : Int) + (u : Int))] ((wr.drewN Q).setCell ⟨wo.heap.size, S + u, none⟩ (.int .i64 ((cnt : Int) + 1))) fun e w' => e = .returned (.int .i64 (i : Int)) ∧ ((wr.drewN Q).setCell ⟨wo.heap.size, S + u, none⟩ (.int .i64 ((cnt : Int) + 1))) = w') := hidb (fun Q => by
                      have := w_of (HBU.out Q).1 (S + u) (by omega)
                      rw [HIN.out u hul, Int.natCast_add] at this
                      exact this)
                    have cof := fun Q => COF.out Q
                    clear hcnt
                    go_wp2
                    go_quiet (fail)
                    go_wp2_with (go_at_call 13; (with_reducible refine (cof _).mono ?_); rintro e w' ⟨rfl, rfl⟩)
                    go_roundw
                    case rel => exact ⟨u + 1, by omega, by go_num, hidb (HBU.out _).1, hidb (HBU.out _).2⟩
                    case measure => simp [intOf]; omega
                  · have huL : Hid (u = L) := hidb (by omega)
                    have hlt4 : ¬ (S : Int) + (u : Int) < (S : Int) + (L : Int) := by omega
                    have HW5 : Hid (∀ Q, Wh w (wr.drewN Q) p g wo.heap.size n x (whole x i ++ pgs ((xRuns x (i : Int)).take (k + 1)))) := hidb (fun Q => by
                      rw [take_run HX.out, ← huL.out, ← List.append_assoc]; exact HWu.out.drewN Q)
                    have HR5 : Hid (∀ Q, Rn (wr.drewN Q) (wr.drewN Q).heap.size (some ⟨b, off, none⟩) K (xRuns x (i : Int))) := hidb (fun Q => HRu.out)
                    go_wp2
                    go_quiet (fail)
                    go_wp2
                    go_roundw
                    case rel => exact ⟨k + 1, by omega, by go_num, hidb (HW5.out _), hidb (HR5.out _)⟩
                    case measure => simp [intOf]; omega
              · obtain ⟨kp, rfl⟩ : ∃ kp, k = kp + 1 := ⟨k - 1, by omega⟩
                obtain ⟨b', off', s', l', e', _, hx', hc1', hc2'⟩ := HRk.out.at_ (k := kp) (by omega)
                injection e' with e'; injection e' with e1' e2'
                subst e1' e2'
                have hnx := run_next hx' HX.out
                simp only at hnx
                obtain ⟨S', L', e, hL1', hS0', hSL', _⟩ := run_at hx'
                injection e with e1 e2
                subst e1 e2
                clear hx'
                have d4 : decide ((0 : Int) < ((kp + 1 : Nat) : Int)) = true := decide_eq_true (by omega)
                have d5 : decide ((S : Int) ≤ (S' : Int) + (L' : Int)) = false := decide_eq_false (by omega)
                have d6 : IntKind.i64.wrap ((kp : Int) + 1 - 1) = (kp : Int) := by rw [IntWalk.i64_in _ (by omega)]; omega
                have d7 : IntKind.i64.wrap (((kp + 1 : Nat) : Int) - 1) = (kp : Int) := by rw [IntWalk.i64_in _ (by omega)]; omega
                have hkp1 : (kp : Int) < (K : Int) := by omega
                have hkp0 : (0 : Int) ≤ (kp : Int) := by omega
                have hSw' : IntKind.i64.wrap ((S' : Int) + (L' : Int)) = (S' : Int) + (L' : Int) := IntWalk.i64_in _ (by omega)
                have HWQ : Hid (∀ Q, Hid (Wh w (wr.drewN Q) p g wo.heap.size n x (whole x i ++ pgs ((xRuns x (i : Int)).take (kp + 1))))) := hidb (fun Q => hidb (HWk.out.drewN Q))
                have HRQ : Hid (∀ Q, Hid (Rn (wr.drewN Q) (wr.drewN Q).heap.size (some ⟨b, off, none⟩) K (xRuns x (i : Int)))) := hidb (fun Q => HRk)
                have HCELL : Hid (∀ W, Rn W W.heap.size (some ⟨b, off, none⟩) K (xRuns x (i : Int)) → W.cell? ⟨b, off + (kp + 1) * 2, none⟩ = some (.int .i64 (S : Int)) ∧ W.cell? ⟨b, off + (kp + 1) * 2 + 1, none⟩ = some (.int .i64 (L : Int))) := hidb (fun W hW => by
                  obtain ⟨b2, off2, e1, _, h2⟩ := hW.2 (by omega)
                  injection e1 with e1; injection e1 with e1 e3
                  subst e1 e3
                  exact h2 _ _ HX.out)
                go_wp2
                go_quiet (fail)
                go_wp2
                go_loopw [11] (fun v wr => ∃ u : Nat, u ≤ L ∧ v = .int .i64 ((S : Int) + (u : Int)) ∧ Hid (Wh w wr p g wo.heap.size n x (whole x i ++ pgs ((xRuns x (i : Int)).take (kp + 1)) ++ (List.range u).map (S + ·))) ∧ Hid (Rn wr wr.heap.size (some ⟨b, off, none⟩) K (xRuns x (i : Int)))) (fun v _ => (S + L - intOf v).toNat)
                case atStart => exact ⟨0, by omega, by simp, by simpa using HWQ.out _, HRQ.out _⟩
                case round =>
                  obtain ⟨u, hu, rfl, HWu, HRu⟩ := hrel
                  obtain ⟨hcu1, hcu2⟩ := HCELL.out _ HRu.out
                  have hso0 : (0 : Int) ≤ (S : Int) + (u : Int) := by omega
                  by_cases hul : u < L
                  · have hlt4 : (S : Int) + (u : Int) < (S : Int) + (L : Int) := by omega
                    have hso1 : (S : Int) + (u : Int) < (n : Int) := by omega
                    have hbn : ((S : Int) + (u : Int)).toNat = S + u := by omega
                    have hcs := HWu.out.cell (q := S + u) (by omega)
                    have hfs := HWu.out.seen.frozenAt (S + u)
                    have hcb := count_small n x (by have := HLX.out; omega) i (kp + 1) u S (S + u) (by omega) (by omega) (i : Int)
                    obtain ⟨cnt, hcnt⟩ : ∃ cnt, (whole x i ++ pgs ((xRuns x (i : Int)).take (kp + 1)) ++ (List.range u).map (S + ·)).count (S + u) = cnt := ⟨_, rfl⟩
                    rw [hcnt] at hcs hcb
                    have HBU : Hid (∀ Q, Wh w ((wr.drewN Q).setCell ⟨wo.heap.size, S + u, none⟩ (.int .i64 ((cnt : Int) + 1))) p g wo.heap.size n x (whole x i ++ pgs ((xRuns x (i : Int)).take (kp + 1)) ++ (List.range (u + 1)).map (S + ·)) ∧ Rn ((wr.drewN Q).setCell ⟨wo.heap.size, S + u, none⟩ (.int .i64 ((cnt : Int) + 1))) ((wr.drewN Q).setCell ⟨wo.heap.size, S + u, none⟩ (.int .i64 ((cnt : Int) + 1))).heap.size (some ⟨b, off, none⟩) K (xRuns x (i : Int))) := hidb (fun Q => by
                      have hb := (HWu.out.drewN Q).bump (q := S + u) (by omega)
                      rw [hcnt] at hb
                      refine ⟨?_, Rn.grown (show Rn (wr.drewN Q) (wr.drewN Q).heap.size (some ⟨b, off, none⟩) K (xRuns x (i : Int)) from HRu.out) HN3.out hb.2⟩
                      have e : whole x i ++ pgs ((xRuns x (i : Int)).take (kp + 1)) ++ (List.range (u + 1)).map (S + ·) = whole x i ++ pgs ((xRuns x (i : Int)).take (kp + 1)) ++ (List.range u).map (S + ·) ++ [S + u] := by
                        rw [List.range_succ, List.map_append, List.append_assoc, List.append_assoc, List.append_assoc]; rfl
                      rw [e]; exact hb.1)
                    have COF : Hid (∀ Q, Calls Try.prog 13 #[.pointer (some ⟨p, 0, none⟩), .int .i64 ((S : Int) + (u : Int))] ((wr.drewN Q).setCell ⟨wo.heap.size, S + u, none⟩ (.int .i64 ((cnt : Int) + 1))) fun e w' => e = .returned (.int .i64 (i : Int)) ∧ ((wr.drewN Q).setCell ⟨wo.heap.size, S + u, none⟩ (.int .i64 ((cnt : Int) + 1))) = w') := hidb (fun Q => by
                      have := w_of (HBU.out Q).1 (S + u) (by omega)
                      rw [HIN.out u hul, Int.natCast_add] at this
                      exact this)
                    have cof := fun Q => COF.out Q
                    clear hcnt
                    go_wp2
                    go_quiet (fail)
                    go_wp2_with (go_at_call 13; (with_reducible refine (cof _).mono ?_); rintro e w' ⟨rfl, rfl⟩)
                    go_roundw
                    case rel => exact ⟨u + 1, by omega, by go_num, hidb (HBU.out _).1, hidb (HBU.out _).2⟩
                    case measure => simp [intOf]; omega
                  · have huL : Hid (u = L) := hidb (by omega)
                    have hlt4 : ¬ (S : Int) + (u : Int) < (S : Int) + (L : Int) := by omega
                    have HW5 : Hid (∀ Q, Wh w (wr.drewN Q) p g wo.heap.size n x (whole x i ++ pgs ((xRuns x (i : Int)).take ((kp + 1) + 1)))) := hidb (fun Q => by
                      rw [take_run HX.out, ← huL.out, ← List.append_assoc]; exact HWu.out.drewN Q)
                    have HR5 : Hid (∀ Q, Rn (wr.drewN Q) (wr.drewN Q).heap.size (some ⟨b, off, none⟩) K (xRuns x (i : Int))) := hidb (fun Q => HRu.out)
                    go_wp2
                    go_quiet (fail)
                    go_wp2
                    go_roundw
                    case rel => exact ⟨(kp + 1) + 1, by omega, by go_num, hidb (HW5.out _), hidb (HR5.out _)⟩
                    case measure => simp [intOf]; omega
            · have hW5 : Hid (Wh w wr p g wo.heap.size n x (whole x (i + 1))) := hidb (by
                have := HWk.out
                rwa [List.take_of_length_le (by have := HK.out; omega)] at this)
              go_wp2
              go_roundw
              case rel => exact ⟨i + 1, by omega, by go_num, hW5⟩
              case measure => simp [intOf]; omega
        · have h10 : Hid (i = 10) := hidb (by omega)
          have hlt6 : ¬ (i : Int) ≤ 9 := by omega
          have HW10 : Hid (Wh w wr p g wo.heap.size n x (whole x 10)) := hidb (by rw [← h10.out]; exact HW.out)
          have HC1 : Hid (∀ q, q < n → wr.cell? ⟨wo.heap.size, q, none⟩ = some (.int .i64 1)) := hidb (fun q hq => by
            have h := HW10.out.cell hq
            rw [whole_count x q (by have := HLX.out; omega), if_pos ⟨(HF.out q).1, by have := (HF.out q).2; omega⟩] at h
            exact h)
          have HBW := hidb HW10.out.a.bel
          clear hi10
          obtain ⟨wq, rfl⟩ : ∃ wq : World, wq = wr := ⟨_, rfl⟩
          go_wp2
          go_loop [12] (fun v => ∃ q : Nat, q ≤ n ∧ v = .int .i64 q) (fun v => (n - intOf v).toNat)
          case atStart => exact ⟨0, by omega, rfl⟩
          case round =>
            obtain ⟨q, hq, rfl⟩ := hrel
            by_cases hqn : q < n
            · have hcq := HC1.out q hqn
              have hq0 : (0 : Int) ≤ (q : Int) := by omega
              have hq1 : (q : Int) < (n : Int) := by omega
              go_wp2
              go_round
              case rel => exact ⟨q + 1, by omega, by go_num⟩
              case measure => simp [intOf]; omega
            · go_wp2_with (go_at_call 7; (with_reducible refine (ca _).mono ?_); rintro e w8 ⟨rfl, hb8⟩)
              go_ret
              exact ⟨rfl, HBW.out.trans (hb8.mono HBW.out.size)⟩

end Go.Proofs.Ytoghahldlnhpdaa
