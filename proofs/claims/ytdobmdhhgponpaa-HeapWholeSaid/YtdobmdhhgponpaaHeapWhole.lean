/- The walk of layer 7's statement that free runs and spans are all pages, each once. -/
import Derived.Test.YtdobmdhhgponpaaHeapEnds
import Derived.Test.YtdobmdhhgponpaaHeapWhole0
namespace Go.Proofs.Ytdobmdhhgponpaa
open Go.RowKit
set_option linter.unusedVariables false

theorem cell_two_new (w : World) (x y : Value) (t : TypeId) : ∀ j u, [x, y][j]? = some u → (w.alloc (.cells #[x, y] t)).cell? ((⟨w.heap.size, 0, none⟩ : Addr).add j) = some u := by
  intro j u hj
  match j, hj with
  | 0, hj =>
    simp at hj
    subst hj
    simp [Addr.add]
  | 1, hj =>
    simp at hj
    subst hj
    simp [Addr.add]

set_option maxRecDepth 100000 in
set_option maxHeartbeats 8000000 in
theorem heapWhole_any (pages : Int) (A : Option Addr) (m c : Nat) (l : List Act7) (w : World) (h0 : in64 pages) (hm : m ≤ maxLen) (hs : RowOf (Act7Is w) 4 w w.heap.size A m l) :
    Calls Try.prog 3 #[.int .i64 pages, .slice A m c] w fun e w' => e = .returned (.bool true) ∧ Below w.heap.size w w' := by
  have cw := fun W => awake7 W
  unfold maxLen at hm
  by_cases hbad : pages < 4 ∨ 1024 < pages
  · have cn := code_hnew_no pages w hbad
    by_cases g1 : 100 < m
    · have g2 : (100 : Int) < (m : Int) := by omega
      clear hs hbad
      go_enter Try.func3, Try.ntmps3
      go_wp2_with (first
        | (go_at_call 6; (with_reducible refine cn.mono ?_); rintro e w1 ⟨rfl, rfl⟩)
        | (go_at_call 7; (with_reducible refine (cw _).mono ?_); rintro e w2 ⟨rfl, hb2⟩))
      go_ret
      exact ⟨rfl, hb2⟩
    · have g2 : ¬ (100 : Int) < (m : Int) := by omega
      clear hs hbad
      go_enter Try.func3, Try.ntmps3
      go_wp2_with (first
        | (go_at_call 6; (with_reducible refine cn.mono ?_); rintro e w1 ⟨rfl, rfl⟩)
        | (go_at_call 7; (with_reducible refine (cw _).mono ?_); rintro e w2 ⟨rfl, hb2⟩))
      go_ret
      exact ⟨rfl, hb2⟩
  obtain ⟨N, rfl⟩ : ∃ N : Nat, pages = (N : Int) := ⟨pages.toNat, by omega⟩
  have hN0 : 4 ≤ N ∧ N ≤ 1024 := by omega
  obtain ⟨F, hN, cn⟩ := t_hnew (N : Int) w (by omega) (by omega)
  clear hN
  by_cases g1 : 100 < m
  · have g2 : (100 : Int) < (m : Int) := by omega
    clear hs hbad h0
    go_enter Try.func3, Try.ntmps3
    go_wp2_with (first
      | (go_at_call 6; (with_reducible refine cn.mono ?_); rintro e w1 ⟨p, S, rfl, s1⟩; have S1 := hidb s1; clear s1)
      | (go_at_call 7; (with_reducible refine (cw _).mono ?_); rintro e w2 ⟨rfl, hb2⟩))
    go_ret
    exact ⟨rfl, S1.out.bel.trans (hb2.mono S1.out.bel.size)⟩
  have g2 : ¬ (100 : Int) < (m : Int) := by omega
  have HR := hidb hs
  have hm50 : m ≤ 100 := by omega
  clear hs hbad h0
  go_enter Try.func3, Try.ntmps3
  go_wp2_with (first
    | (go_at_call 6; (with_reducible refine cn.mono ?_); rintro e w1 ⟨p, S, rfl, s1⟩; have S1 := hidb s1; clear s1))
  clear cn
  go_loopw [7] (fun v wr => ∃ (j : Nat) (S' : Nat → Prop) (h : HeapV), j ≤ m ∧ v = .int .i64 j ∧ Hid (HeapSt w wr p S' h j (N : Int))) (fun v _ => (m - intOf v).toNat)
  case atStart => exact ⟨0, S, _, Nat.zero_le _, rfl, S1⟩
  case round =>
    obtain ⟨j, S', h, hj, rfl, HS⟩ := hrel
    by_cases hlt : j < m
    · obtain ⟨b, off, a, rfl, hbz, hx, ha, hc0, hc1, hc2, hc3⟩ := act_at (HR.out.below HS.out.bel) hlt
      obtain ⟨_, ha1, ha2, ha3, ha4, ha5⟩ := ha
      have HSL := hidb ((ha2.below HS.out.bel).more HS.out.bel.size)
      have HA3 := hidb ha3
      have hi0 : (0 : Int) ≤ (j : Int) := by omega
      have hi1 : (j : Int) < (m : Int) := by omega
      obtain ⟨af, aA, alen, acap, aids, apg, aor⟩ := a
      simp only at hc0 hc1 hc2 hc3 ha1 ha4 ha5 HSL HA3
      unfold maxLen at ha1
      clear hx ha2 ha3
      by_cases gl : 10 < alen
      · have gl2 : (10 : Int) < (alen : Int) := by omega
        go_wp2_with (first
          | (go_at_call 7; (with_reducible refine (cw _).mono ?_); rintro e w2 ⟨rfl, hb2⟩))
        go_ret
        exact ⟨rfl, HS.out.bel.trans (hb2.mono HS.out.bel.size)⟩
      have gl2 : ¬ (10 : Int) < (alen : Int) := by omega
      have hk9 : j + 1 ≤ 1000000000 := by omega
      cases af with
      | true =>
        obtain ⟨⟨h', no⟩, hD⟩ : ∃ r, hDrop h aids = r := ⟨_, rfl⟩
        have cf := t_hfree HS.out aA alen acap aids HSL.out (by omega) HA3.out h' no hD
        clear hD
        go_wp2_with (first
          | (go_at_call 8; (with_reducible refine cf.mono ?_); rintro e w2 ⟨rfl, S2, s2, _⟩; have HS2 := hidb s2; clear s2))
        go_roundw
        case rel => exact ⟨j + 1, S2, h', by omega, by go_num, hidb ⟨HS2.out.hp, HS2.out.low, HS2.out.bel, by have := HS2.out.la; omega, HS2.out.pg⟩⟩
        case measure => simp [intOf]; omega
      | false =>
        obtain ⟨⟨h', ⟨s1, s2, s3, s4⟩, no⟩, hM⟩ : ∃ r, hMake h apg aor = r := ⟨_, rfl⟩
        have cm := t_hmake (HS.out.below (Below.refl _ wr).drew) hk9 apg aor ha4 ha5 h' s1 s2 s3 s4 no hM
        have HCE : Hid (∀ w2, Below w.heap.size w w2 → w2.cell? ⟨b, off + j * 4 + 2, none⟩ = some (.int .i64 apg) ∧ w2.cell? ⟨b, off + j * 4 + 3, none⟩ = some (.int .i64 aor)) := hidb (fun w2 hb => by
          rw [hb.cell (p := ⟨b, off + j * 4 + 2, none⟩) hbz, hb.cell (p := ⟨b, off + j * 4 + 3, none⟩) hbz, ← HS.out.bel.cell (p := ⟨b, off + j * 4 + 2, none⟩) hbz, ← HS.out.bel.cell (p := ⟨b, off + j * 4 + 3, none⟩) hbz]
          exact ⟨hc2, hc3⟩)
        clear hM
        go_wp2
        go_region_held3 (fun w' => w'.cell? ⟨b, off + j * 4 + 2, none⟩ = some (.int .i64 apg) ∧ w'.cell? ⟨b, off + j * 4 + 3, none⟩ = some (.int .i64 aor)) (go_keep)
          (first | (go_at_call 9; (with_reducible refine cm.mono ?_); rintro e w2 ⟨rfl, S2, s2', _⟩; have HS2 := hidb s2'; clear s2'; obtain ⟨c2', c3'⟩ := HCE.out _ HS2.out.bel))
        go_wp2
        go_roundw
        case rel => exact ⟨j + 1, S2, h', by omega, by go_num, hidb ⟨HS2.out.hp, HS2.out.low, HS2.out.bel, by have := HS2.out.la; omega, HS2.out.pg⟩⟩
        case measure => simp [intOf]; omega
    · obtain rfl : j = m := by omega
      obtain ⟨LR, hLR⟩ : ∃ LR, fList h.free = LR := ⟨_, rfl⟩
      obtain ⟨LS, hLS⟩ : ∃ LS, hSpans h = LS := ⟨_, rfl⟩
      obtain ⟨L0, hL0⟩ : ∃ L0, LR.length = L0 := ⟨_, rfl⟩
      obtain ⟨n, hn⟩ : ∃ n, LS.length = n := ⟨_, rfl⟩
      have hl1 : L0 ≤ 65536 := by rw [← hL0, ← hLR]; have h2 := fList_len h.free; have h3 := HS.out.hp.ok.fl; omega
      have hl2 : n ≤ 100 := by rw [← hn, ← hLS]; have h2 := spans_len2 HS.out.hp.ok HS.out.la; omega
      have HPT : Hid (Disj (LR ++ LS.map rnOf) ∧ (∀ r ∈ LR ++ LS.map rnOf, 0 ≤ r.1 ∧ 1 ≤ r.2 ∧ r.1 + r.2 ≤ (N : Int)) ∧ ∀ p : Int, Cov (LR ++ LS.map rnOf) p ↔ 0 ≤ p ∧ p < (N : Int)) := hidb (by
        have := heap_parts HS.out.hp.ok
        rwa [hLR, hLS, HS.out.pg] at this)
      have HL0 := hidb hL0
      have HNL := hidb hn
      have cr := t_hruns HS.out LR hLR
      rw [hL0] at cr
      have CS : Hid (∀ W p S, HeapSt w W p S h j (N : Int) → Calls Try.prog 11 #[.pointer (some ⟨p, 0, none⟩)] W fun e w' => ∃ A c, e = .returned (.slice A n c) ∧ w'.ownsRow W.heap.size 35 4 (.slice A n c) n (cellsAll scells LS) ∧ Below W.heap.size W w') := hidb (fun W p S st => by
        have := t_hspans st LS hLS
        rwa [hn] at this)
      have HB0 := hidb HS.out.bel
      have ST := HS
      clear hLR hLS hL0 hn HS
      obtain ⟨i0, hi, hz0, hz1, hz2⟩ := info_parts info_int
      obtain ⟨j0, hj0, jz0, jz1, jz2⟩ := info_parts info_run
      obtain ⟨wo, rfl⟩ : ∃ wo : World, wo = wr := ⟨_, rfl⟩
      go_wp2_with (first
        | (go_at_call 10; (with_reducible refine cr.mono ?_); rintro e w2 ⟨A2, c2, rfl, hr2, hb2⟩; have HR2 := hidb hr2; have HB2 := hidb hb2; replace ST := hidb (ST.out.below hb2); clear hr2 hb2 cr)
        | (go_at_call 11; (with_reducible refine (CS.out _ _ _ ST.out).mono ?_); rintro e w3 ⟨A3, c3, rfl, hr3, hb3⟩; have HR3 := hidb hr3; have HB3 := hidb hb3; replace ST := hidb (ST.out.below hb3); clear hr3 hb3)
        | (go_at_call 12; (with_reducible refine (t_hsize ST.out).mono ?_); rintro e w4 ⟨rfl, hb4⟩; have HB4 := hidb hb4; have hwl : w.heap.size ≤ w4.heap.size := (by have h1 := ST.out.bel.size; have h2 := hb4.size; omega); clear hb4)
        | (at_make; refine wpList_make_full w4 rfl _ _ 28 rfl w.heap.size 3 i0 (.int .i64 0) 1 Try.underlying28 hi hz0 hz1 .i64 .i64 _ _ N rfl rfl (by omega) (by omega) (by rw [hz2]; omega) (by unfold maxLen; omega) hwl ?_; intro w5 hown hgrow))
      have P0 : Hid (Pre w w5 LR LS n 0 L0 A2 c2 A3 c3 w4.heap.size N) := hidb (Pre.start HB0.out HB2.out HL0.out HR2.out HB3.out HR3.out HB4.out hown hgrow)
      clear hown hgrow
      clear ST CS
      go_loopw [8, 11] (fun v u wr => ∃ (i m2 : Nat) (Ai : Option Addr) (ci : Nat), i ≤ n ∧ m2 ≤ 70000 ∧ v = .slice Ai m2 ci ∧ u = .int .i64 i ∧ Hid (Pre w wr LR LS n i m2 Ai ci A3 c3 w4.heap.size N)) (fun _ u _ => (n - intOf u).toNat)
      case atStart => exact ⟨0, L0, A2, c2, Nat.zero_le _, by omega, rfl, rfl, P0⟩
      case round =>
        obtain ⟨i, m2, Ai, ci, hin, hm2, rfl, rfl, HP⟩ := hrel
        by_cases hlt2 : i < n
        · obtain ⟨b, off, y1, y2, y3, y4, rfl, hy, c1, c2', c3', c4'⟩ := Sn.span_own HP.out.s HNL.out hlt2
          have HY := hidb hy
          have hi0 : (0 : Int) ≤ (i : Int) := by omega
          have hi1 : (i : Int) < (n : Int) := by omega
          have HONE : Hid (∀ u ∈ [Value.int .i64 y2, .int .i64 y3], u.oneCell' = true) := hidb (ints_oneCell .i64 [y2, y3])
          have HBS : Hid (w.heap.size ≤ (wr.alloc (.cells #[.int .i64 y2, .int .i64 y3] 33)).heap.size) := hidb (by have := HP.out.bel.size; simp; omega)
          have hm3 : m2 + 1 ≤ 70000 := by have h1 := HP.out.hm; have h2 := HL0.out; omega
          clear c1 c4' hy
          go_wp2_with (first
            | (at_builtin; refine wpList_append_own_at _ rfl _ _ 38 rfl w.heap.size 33 j0 (.agg #[.int .i64 0, .int .i64 0]) 2 16 Try.underlying38 hj0 jz0 jz1 jz2 rfl (by decide) _ _ _ rfl (HP.out.r.alloc _) ⟨wr.heap.size, 0, none⟩ 1 1 [.int .i64 y2, .int .i64 y3] rfl rfl (cell_two_new _ _ _ _) HONE.out (by unfold maxLen; omega) (by omega) HBS.out ?_; intro v' w6 hown' hgrow hnil hat; obtain ⟨A6, c6, rfl, HQ⟩ := Pre.push HP.out hown' hgrow hat HY.out; clear hown' hgrow hnil hat))
          go_roundw
          case rel => exact ⟨i + 1, m2 + 1, A6, c6, by omega, hm3, rfl, by go_num, HQ⟩
          case measure => simp [intOf]; omega
        · obtain rfl : i = n := by omega
          obtain ⟨rs, hrs⟩ : ∃ rs, LR ++ LS.map rnOf = rs := ⟨_, rfl⟩
          have W0 := hidb (Pre.done HP.out HNL.out hrs)
          rw [hrs] at HPT
          have HPOS : Hid (∀ r ∈ rs, 0 ≤ r.1 ∧ 1 ≤ r.2) := hidb (fun r hr => ⟨(HPT.out.2.1 r hr).1, (HPT.out.2.1 r hr).2.1⟩)
          have HK := hidb W0.out.rn.1
          clear hrs HP
          go_wp2
          go_loopw [12] (fun v wr => ∃ k : Nat, k ≤ m2 ∧ v = .int .i64 k ∧ Hid (Sw w wr w4.heap.size N (pgs (rs.take k)) Ai m2 rs)) (fun v _ => (m2 - intOf v).toNat)
          case atStart => exact ⟨0, Nat.zero_le _, rfl, W0⟩
          case round =>
            obtain ⟨k, hk, rfl, HW⟩ := hrel
            by_cases hlt3 : k < m2
            · obtain ⟨b, off, s, l, rfl, hbl, hx, hc1, hc2⟩ := HW.out.rn.at_ hlt3
              obtain ⟨hs0, hl0, hsl⟩ := HPT.out.2.1 _ (List.mem_of_getElem? hx)
              simp only at hs0 hl0 hsl
              obtain ⟨S, rfl⟩ : ∃ S : Nat, s = (S : Int) := ⟨s.toNat, by omega⟩
              obtain ⟨L, rfl⟩ : ∃ L : Nat, l = (L : Int) := ⟨l.toNat, by omega⟩
              have HX := hidb hx
              have hSw : IntKind.i64.wrap ((S : Int) + (L : Int)) = (S : Int) + (L : Int) := IntWalk.i64_in _ (by omega)
              have hk0 : (0 : Int) ≤ (k : Int) := by omega
              have hk1 : (k : Int) < (m2 : Int) := by omega
              have d1 : decide ((L : Int) < 1) = false := decide_eq_false (by omega)
              have d2 : decide ((S : Int) < 0) = false := decide_eq_false (by omega)
              have d3 : decide ((N : Int) < (S : Int) + (L : Int)) = false := decide_eq_false (by omega)
              have HWQ : Hid (∀ Q, Hid (Sw w (wr.drewN Q) w4.heap.size N (pgs (rs.take k)) (some ⟨b, off, none⟩) m2 rs)) := hidb (fun Q => hidb (HW.out.drewN Q))
              have HCELL : Hid (∀ W, Rn W W.heap.size (some ⟨b, off, none⟩) m2 rs → W.cell? ⟨b, off + k * 2, none⟩ = some (.int .i64 (S : Int)) ∧ W.cell? ⟨b, off + k * 2 + 1, none⟩ = some (.int .i64 (L : Int))) := hidb (fun W hW => by
                obtain ⟨b2, off2, e1, _, h2⟩ := hW.2 (by omega)
                injection e1 with e1; injection e1 with e1 e3
                subst e1 e3
                exact h2 _ _ HX.out)
              clear hx hs0 hl0
              go_wp2
              go_quiet (fail)
              go_wp2
              go_loopw [13] (fun v wr => ∃ u : Nat, u ≤ L ∧ v = .int .i64 ((S : Int) + (u : Int)) ∧ Hid (Sw w wr w4.heap.size N (pgs (rs.take k) ++ (List.range u).map (S + ·)) (some ⟨b, off, none⟩) m2 rs)) (fun v _ => (S + L - intOf v).toNat)
              case atStart => exact ⟨0, Nat.zero_le _, by simp, by simpa using HWQ.out _⟩
              case round =>
                obtain ⟨u, hu, rfl, HWu⟩ := hrel
                obtain ⟨hcu1, hcu2⟩ := HCELL.out _ HWu.out.rn
                have hso0 : (0 : Int) ≤ (S : Int) + (u : Int) := by omega
                by_cases hul : u < L
                · have hlt4 : (S : Int) + (u : Int) < (S : Int) + (L : Int) := by omega
                  have hso1 : (S : Int) + (u : Int) < (N : Int) := by omega
                  have hbn : ((S : Int) + (u : Int)).toNat = S + u := by omega
                  have hcs := HWu.out.cell (q := S + u) (by omega)
                  have hfs := HWu.out.seen.frozenAt (S + u)
                  have hcb := count_few (q := S + u) HX.out HPOS.out hu
                  rw [hits_one HPT.out.1 ((HPT.out.2.2 _).2 (by omega))] at hcb
                  obtain ⟨cnt, hcnt⟩ : ∃ cnt, (pgs (rs.take k) ++ (List.range u).map (S + ·)).count (S + u) = cnt := ⟨_, rfl⟩
                  rw [hcnt] at hcs hcb
                  have HBU : Hid (∀ Q, Sw w ((wr.drewN Q).setCell ⟨w4.heap.size, S + u, none⟩ (.int .i64 ((cnt : Int) + 1))) w4.heap.size N (pgs (rs.take k) ++ (List.range (u + 1)).map (S + ·)) (some ⟨b, off, none⟩) m2 rs) := hidb (fun Q => by
                    have hb := (HWu.out.drewN Q).bump (q := S + u) (by omega)
                    rw [hcnt] at hb
                    have e : pgs (rs.take k) ++ (List.range (u + 1)).map (S + ·) = pgs (rs.take k) ++ (List.range u).map (S + ·) ++ [S + u] := by
                      rw [List.range_succ, List.map_append, List.append_assoc]; rfl
                    rw [e]; exact hb)
                  clear hcnt
                  go_wp2
                  go_quiet (fail)
                  go_wp2
                  go_roundw
                  case rel => exact ⟨u + 1, by omega, by go_num, hidb (HBU.out _)⟩
                  case measure => simp [intOf]; omega
                · have huL : Hid (u = L) := hidb (by omega)
                  have hlt4 : ¬ (S : Int) + (u : Int) < (S : Int) + (L : Int) := by omega
                  have HW5 : Hid (∀ Q, Sw w (wr.drewN Q) w4.heap.size N (pgs (rs.take (k + 1))) (some ⟨b, off, none⟩) m2 rs) := hidb (fun Q => by
                    rw [take_run2 HX.out, ← huL.out]; exact HWu.out.drewN Q)
                  go_wp2
                  go_quiet (fail)
                  go_wp2
                  go_roundw
                  case rel => exact ⟨k + 1, by omega, by go_num, hidb (HW5.out _)⟩
                  case measure => simp [intOf]; omega
            · have HC1 : Hid (∀ q, q < N → wr.cell? ⟨w4.heap.size, q, none⟩ = some (.int .i64 1)) := hidb (fun q hq => by
                have h := HW.out.cell hq
                rw [List.take_of_length_le (by have := HK.out; omega), pgs_hits q HPOS.out, hits_one HPT.out.1 ((HPT.out.2.2 _).2 (by omega))] at h
                exact h)
              have HBW := hidb HW.out.bel
              clear HW
              obtain ⟨wq, rfl⟩ : ∃ wq : World, wq = wr := ⟨_, rfl⟩
              go_wp2
              go_loop [14] (fun v => ∃ q : Nat, q ≤ N ∧ v = .int .i64 q) (fun v => (N - intOf v).toNat)
              case atStart => exact ⟨0, Nat.zero_le _, rfl⟩
              case round =>
                obtain ⟨q, hq, rfl⟩ := hrel
                by_cases hqn : q < N
                · have hcq := HC1.out q hqn
                  have hq0 : (0 : Int) ≤ (q : Int) := by omega
                  have hq1 : (q : Int) < (N : Int) := by omega
                  go_wp2
                  go_round
                  case rel => exact ⟨q + 1, by omega, by go_num⟩
                  case measure => simp [intOf]; omega
                · go_wp2_with (go_at_call 7; (with_reducible refine (cw _).mono ?_); rintro e w8 ⟨rfl, hb8⟩)
                  go_ret
                  exact ⟨rfl, HBW.out.trans (hb8.mono HBW.out.size)⟩

end Go.Proofs.Ytdobmdhhgponpaa
