/- What Push of the document's own answers to layer 8 (chain) returns: the walk. -/
import Derived.Test.YtcngcibiibchiaaChainPush
import Derived.Deep.RegionHeld3
namespace Go.Proofs.Ytcngcibiibchiaa
open Go.RowKit
set_option linter.unusedVariables false

theorem q_in (A : Option Addr) (n c : Nat) (zs : List Int) (v : Int) (w : World) (q B : Nat) (hs : Sl w B A n (zs.map iv)) (hn : n ≤ 65536) (b : Bool) (hb : decide (v ∈ zs) = b) :
    Calls Try.prog 23 #[.slice A n c, .int .i64 v] (w.drewN q) fun e w'' => e = .returned (.bool b) ∧ ∃ m, w'' = w.drewN m :=
  (ref_bin A n c zs v (w.drewN q) B (hs.drewN q) (by omega)).mono fun e w' h => ⟨by rw [h.1, hb], q, h.2.symm⟩

set_option maxRecDepth 100000 in
set_option maxHeartbeats 4000000 in
theorem ref_cpush (A A2 : Option Addr) (n c m d : Nat) (ws : List Nat) (h0 len : Int) (at' : List Int) (w : World) (hs : Sl w w.heap.size A n (ws.map wv)) (hs2 : Sl w w.heap.size A2 m (at'.map iv)) (hn : n ≤ 65536) (hm : m ≤ 65536) (hmd : m ≤ d) (hd : d ≤ 9223372036854775807)
    (hh : in64 h0) (hl : in64 len) (hat : ∀ x ∈ at', in64 x) :
    Calls Try.prog 9 #[.slice A n c, .agg #[.int .i64 h0, .int .i64 len], .slice A2 m d] w (ResC A w n (cPush ws (h0, len) at')) := by
  have l1 : ws.length = n := by have := hs.1; simpa using this
  have l2 : at'.length = m := by have := hs2.1; simpa using this
  obtain ⟨W0, hW0⟩ : ∃ W0, W0 = (w.alloc (.cells #[.int .i64 h0, .int .i64 len] 23)).alloc (.cells #[.int .i64 0, .int .i64 0] 23) := ⟨_, rfl⟩
  have k0 : PushAt w W0 w.heap.size (w.heap.size + 1) n A A ws h0 len := by rw [hW0]; exact PushAt.start hs h0 len _ _
  have HW0 := hidb hW0
  have HS2 : Hid (∀ W, Below w.heap.size w W → Sl W w.heap.size A2 m (at'.map iv)) := hidb (fun W hb => hs2.below hb)
  have cl := ref_clist A n c ws h0 len W0 k0.sl hn hh hl
  obtain ⟨LL, hLL⟩ : ∃ LL, cList ws (h0, len) = LL := ⟨_, rfl⟩
  rw [hLL] at cl
  unfold ResChain at cl
  have HK0 := hidb k0
  cases LL with
  | none =>
    have HE : Hid (cPush ws (h0, len) at' = (ws, (h0, len), 9)) := hidb (by unfold cPush; rw [hLL])
    clear hs hs2 l1 l2 hh hl hat hLL k0 hW0
    go_enter Try.func9, Try.ntmps9
    go_wp2_with (first | (go_at_call 17; rw [← HW0.out]; (with_reducible refine cl.mono ?_); rintro e w1 ⟨A1, n1, c1, out, rfl, hsl1, _, hb1, hnw1⟩; have K1 := hidb (HK0.out.below hb1); obtain ⟨p0, p1, r0, r1, rf0, rf1, pf0, pf1⟩ := K1.out.facts; clear hsl1 hb1 hnw1))
    have hne : w.heap.size ≠ w.heap.size + 1 := by omega
    clear HW0 HK0 cl HS2
    go_region
    all_goals go_wp2
    all_goals obtain ⟨s0, s1⟩ := two_cells8 w1 (w.heap.size + 1) (.int .i64 h0) (.int .i64 len) _ _ r0 r1
    all_goals refine bodyPost_ret (v := .tuple #[.slice A n c, .agg #[.int .i64 h0, .int .i64 len], .int .i64 9]) (by simp [results, Try.results9, go_sem, s0, s1]) rfl ?_
    all_goals rw [HE.out]
    all_goals exact K1.out.fin c 9 (by first | exact (Below.refl _ _).drew | exact Below.refl _ _)
  | some l =>
    obtain ⟨hnd, hlr, hlen⟩ := cList_some hLL
    obtain ⟨hh0, hh1⟩ := cList_head hLL
    simp only at hlen hh0 hh1
    rw [l1] at hh1
    have hl65 : l.length ≤ 65536 := by
      have := nodup_le ws.length l hnd hlr
      omega
    have HATL : Hid (∀ (i : Nat) (x : Int), at'[i]? = some x → in64 x) := hidb (fun i x h => hat x (List.mem_of_getElem? h))
    have HLL := hidb hLL
    have L1 := hidb l1
    have L2 := hidb l2
    have hlen0 : 0 ≤ len := by omega
    have hlen1 : len ≤ 65536 := by omega
    clear hs hs2 l1 l2 hh hl hat hLL k0 hW0 hnd hlr hlen
    go_enter Try.func9, Try.ntmps9
    go_wp2_with (first | (go_at_call 17; rw [← HW0.out]; (with_reducible refine cl.mono ?_); rintro e w1 ⟨A1, n1, c1, out, rfl, hsl1, hout, hb1, hnw1⟩; obtain rfl := hout _ rfl; have K1 := hidb (HK0.out.below hb1); have HSL := hidb hsl1; clear hsl1 hb1 hnw1))
    clear HW0 HK0 cl
    clear hout
    have hne : w.heap.size ≠ w.heap.size + 1 := by omega
    go_loopw [26] (fun iv wr => ∃ j : Nat, j ≤ m ∧ iv = .int .i64 j ∧ Hid (∀ i, i < j → ∀ x : Int, at'[i]? = some x → 0 ≤ x ∧ x < (n : Int)) ∧ Hid (Below w1.heap.size w1 wr)) (fun iv _ => (m - intOf iv).toNat)
    case atStart => exact ⟨0, Nat.zero_le _, rfl, hidb (fun i h => absurd h (Nat.not_lt_zero _)), hidb (Below.refl _ _)⟩
    case round =>
      obtain ⟨j, hj, rfl, HA, HB⟩ := hrel
      have K2 := hidb (K1.out.below HB.out)
      have hj0 : (0 : Int) ≤ (j : Int) := by omega
      by_cases hjm : j < m
      · have hj1 : (j : Int) < (m : Int) := by omega
        obtain ⟨b, off, x, rfl, hx, hc⟩ := (HS2.out _ K2.out.bel).int_ hjm
        obtain ⟨hx0, hx1⟩ := HATL.out _ _ hx
        by_cases g0 : x < 0
        · have HE : Hid (cPush ws (h0, len) at' = (ws, (h0, len), 2)) := hidb (by
            unfold cPush; rw [HLL.out]; simp only; rw [L1.out, cIn_no hx (by omega)]; rfl)
          clear hx
          obtain ⟨p0, p1, r0, r1, rf0, rf1, pf0, pf1⟩ := K2.out.facts
          go_wp2
          go_region
          all_goals go_wp2
          all_goals obtain ⟨s0, s1⟩ := two_cells8 wr (w.heap.size + 1) (.int .i64 h0) (.int .i64 len) _ _ r0 r1
          all_goals refine bodyPost_ret (v := .tuple #[.slice A n c, .agg #[.int .i64 h0, .int .i64 len], .int .i64 2]) (by simp [results, Try.results9, go_sem, s0, s1]) rfl ?_
          all_goals rw [HE.out]
          all_goals exact K2.out.fin c 2 (by first | exact (Below.refl _ _).drew | exact Below.refl _ _)
        by_cases g1 : (n : Int) ≤ x
        · have HE : Hid (cPush ws (h0, len) at' = (ws, (h0, len), 2)) := hidb (by
            unfold cPush; rw [HLL.out]; simp only; rw [L1.out, cIn_no hx (by omega)]; rfl)
          clear hx
          obtain ⟨p0, p1, r0, r1, rf0, rf1, pf0, pf1⟩ := K2.out.facts
          go_wp2
          go_region
          all_goals go_wp2
          all_goals obtain ⟨s0, s1⟩ := two_cells8 wr (w.heap.size + 1) (.int .i64 h0) (.int .i64 len) _ _ r0 r1
          all_goals refine bodyPost_ret (v := .tuple #[.slice A n c, .agg #[.int .i64 h0, .int .i64 len], .int .i64 2]) (by simp [results, Try.results9, go_sem, s0, s1]) rfl ?_
          all_goals rw [HE.out]
          all_goals exact K2.out.fin c 2 (by first | exact (Below.refl _ _).drew | exact Below.refl _ _)
        have HX := hidb hx
        clear hx
        go_wp2
        go_roundw
        case rel => exact ⟨j + 1, by omega, by go_num, hidb (fun i hi y hy => by
          by_cases e : i = j
          · subst e; rw [HX.out] at hy; obtain rfl := Option.some.inj hy; omega
          · exact HA.out i (by omega) y hy), (by first | exact HB | exact hidb (belowN HB.out _))⟩
        case measure => simp [intOf]; omega
      · obtain rfl : m = j := by omega
        have HCI : Hid (cIn ws.length at' = true) := hidb (cIn_yes (fun i x h => by
          rw [L1.out]
          have hi : i < m := by
            rcases Nat.lt_or_ge i m with c | c
            · exact c
            · rw [List.getElem?_eq_none (by rw [L2.out]; exact c)] at h; cases h
          exact HA.out i hi x h))
        have HA0 := hidb HA.out
        have hn1 : n1 ≤ 65536 := by have := HSL.out.1; rw [List.length_map] at this; omega
        clear HA
        go_wp2
        obtain ⟨wo, rfl⟩ : ∃ wo : World, wo = wr := ⟨_, rfl⟩
        go_loopw [48] (fun iv wr => ∃ j : Nat, j ≤ m ∧ iv = .int .i64 j ∧ Hid (∀ i, i < j → at'.getD i 0 ∉ out ∧ at'.getD i 0 ∉ at'.take i) ∧ Hid (Below wo.heap.size wo wr)) (fun iv _ => (m - intOf iv).toNat)
        case atStart => exact ⟨0, Nat.zero_le _, rfl, hidb (fun i h => absurd h (Nat.not_lt_zero _)), hidb (Below.refl _ _)⟩
        case round =>
          obtain ⟨j, hj, rfl, HD, HB2⟩ := hrel
          have K3 := hidb (K2.out.below HB2.out)
          have hj0 : (0 : Int) ≤ (j : Int) := by omega
          by_cases hjm : j < m
          · have hj1 : (j : Int) < (m : Int) := by omega
            have hjd : (j : Int) ≤ (d : Int) := by omega
            have hs2r := HS2.out _ K3.out.bel
            have ht := hs2r.take_ (j := j) (by omega)
            obtain ⟨b, off, x, rfl, hx, hc⟩ := hs2r.int_ hjm
            obtain ⟨hx0, hx1⟩ := HATL.out _ _ hx
            have hgd := getD_of hx
            have hb1 : Below w1.heap.size w1 wr := HB.out.trans (HB2.out.mono HB.out.size)
            have hc : wr.cell? ⟨b, off + j, none⟩ = some (.int .i64 x) := hc
            have hq1 := HSL.out.below hb1
            by_cases g0 : x ∈ out
            · have HE : Hid (cPush ws (h0, len) at' = (ws, (h0, len), 1)) := hidb (by
                unfold cPush; rw [HLL.out]; simp only; rw [HCI.out, if_pos rfl, cClash_yes (i := j) (by rw [L2.out]; exact hjm) (Or.inl (by rw [hgd]; exact g0))]; rfl)
              have ci1 := fun q => q_in A1 n1 c1 out x wr q w1.heap.size hq1 hn1 true (decide_eq_true g0)
              clear hx ht hs2r hgd g0 hb1 hq1
              go_wp2
              go_quiet (first
                | (go_at_call 23; (with_reducible exact ci1 _))
                | (go_at_call 23; (with_reducible exact ci2 _)))
              go_wp2
              have K4 := hidb (K3.out.below (W := wr.drewN nq) (belowN (Below.refl _ _) nq))
              obtain ⟨wz, hwz⟩ : ∃ wz, wz = wr.drewN nq := ⟨_, rfl⟩
              rw [← hwz] at K4 ⊢
              obtain ⟨p0, p1, r0, r1, rf0, rf1, pf0, pf1⟩ := K4.out.facts
              clear hwz hc ci1
              go_region
              all_goals go_wp2
              all_goals obtain ⟨s0, s1⟩ := two_cells8 wz (w.heap.size + 1) (.int .i64 h0) (.int .i64 len) _ _ r0 r1
              all_goals refine bodyPost_ret (v := .tuple #[.slice A n c, .agg #[.int .i64 h0, .int .i64 len], .int .i64 1]) (by simp [results, Try.results9, go_sem, s0, s1]) rfl ?_
              all_goals rw [HE.out]
              all_goals exact K4.out.fin c 1 (by first | exact (Below.refl _ _).drew | exact Below.refl _ _)
            have ci1 := fun q => q_in A1 n1 c1 out x wr q w1.heap.size hq1 hn1 false (decide_eq_false g0)
            by_cases g1 : x ∈ at'.take j
            · have HE : Hid (cPush ws (h0, len) at' = (ws, (h0, len), 1)) := hidb (by
                unfold cPush; rw [HLL.out]; simp only; rw [HCI.out, if_pos rfl, cClash_yes (i := j) (by rw [L2.out]; exact hjm) (Or.inr (by rw [hgd]; exact g1))]; rfl)
              have ci2 := fun q => q_in (some ⟨b, off, none⟩) j d (at'.take j) x wr q w.heap.size ht (by omega) true (decide_eq_true g1)
              clear hx ht hs2r hgd g0 g1 hb1 hq1
              go_wp2
              go_quiet (first
                | (go_at_call 23; (with_reducible exact ci1 _))
                | (go_at_call 23; (with_reducible exact ci2 _)))
              go_wp2
              have K4 := hidb (K3.out.below (W := wr.drewN nq) (belowN (Below.refl _ _) nq))
              obtain ⟨wz, hwz⟩ : ∃ wz, wz = wr.drewN nq := ⟨_, rfl⟩
              rw [← hwz] at K4 ⊢
              obtain ⟨p0, p1, r0, r1, rf0, rf1, pf0, pf1⟩ := K4.out.facts
              clear hwz hc ci1
              go_region
              all_goals go_wp2
              all_goals obtain ⟨s0, s1⟩ := two_cells8 wz (w.heap.size + 1) (.int .i64 h0) (.int .i64 len) _ _ r0 r1
              all_goals refine bodyPost_ret (v := .tuple #[.slice A n c, .agg #[.int .i64 h0, .int .i64 len], .int .i64 1]) (by simp [results, Try.results9, go_sem, s0, s1]) rfl ?_
              all_goals rw [HE.out]
              all_goals exact K4.out.fin c 1 (by first | exact (Below.refl _ _).drew | exact Below.refl _ _)
            have ci2 := fun q => q_in (some ⟨b, off, none⟩) j d (at'.take j) x wr q w.heap.size ht (by omega) false (decide_eq_false g1)
            have HD2 : Hid (∀ i, i < j + 1 → at'.getD i 0 ∉ out ∧ at'.getD i 0 ∉ at'.take i) := hidb (fun i hi => by
              by_cases e : i = j
              · subst e; rw [hgd]; exact ⟨g0, g1⟩
              · exact HD.out i (by omega))
            clear hx ht hs2r hgd g0 g1 hb1 hq1
            go_wp2
            go_quiet (first
              | (go_at_call 23; (with_reducible exact ci1 _))
              | (go_at_call 23; (with_reducible exact ci2 _)))
            go_wp2
            go_roundw
            case rel => exact ⟨j + 1, by omega, by go_num, HD2, (by first | exact HB2 | exact hidb (belowN HB2.out _) | exact hidb HB2.out.drew)⟩
            case measure => simp [intOf]; omega
          · obtain rfl : m = j := by omega
            have HCC : Hid (cClash out at' = false) := hidb (cClash_no (fun i hi => HD.out i (by rw [L2.out] at hi; exact hi)))
            clear HD
            have HEND : Hid (cPush ws (h0, len) at' = ((cAll (ws, (h0, len)) at').1, (cAll (ws, (h0, len)) at').2, 0)) := hidb (by
              unfold cPush; rw [HLL.out]; simp only; rw [HCI.out, HCC.out]; rfl)
            clear HSL HCC HCI HLL
            go_wp2
            obtain ⟨wq, rfl⟩ : ∃ wq : World, wq = wr := ⟨_, rfl⟩
            go_loopw [0, 72] (fun wv' iv wr => ∃ (j : Nat) (A' : Option Addr) (c' : Nat), j ≤ m ∧ iv = .int .i64 j ∧ wv' = .slice A' n c' ∧ Hid (PushAt w wr w.heap.size (w.heap.size + 1) n A A' (cAll (ws, (h0, len)) (at'.take j)).1 (cAll (ws, (h0, len)) (at'.take j)).2.1 (cAll (ws, (h0, len)) (at'.take j)).2.2)) (fun _ iv _ => (m - intOf iv).toNat)
            case atStart => exact ⟨0, A, c, Nat.zero_le _, rfl, rfl, hidb (by rw [List.take_zero]; exact K3.out)⟩
            case round =>
              obtain ⟨j, A', c', hj, rfl, rfl, KJ⟩ := hrel
              have hj0 : (0 : Int) ≤ (j : Int) := by omega
              obtain ⟨Sj, hSj⟩ : ∃ Sj, cAll (ws, (h0, len)) (at'.take j) = Sj := ⟨_, rfl⟩
              have hlj : Sj.1.length = n := by rw [← hSj, cAll_length]; exact L1.out
              have hhj : 0 ≤ Sj.2.1 ∧ Sj.2.1 ≤ (n : Int) := by
                rw [← hSj]
                refine cAll_head _ _ n ⟨hh0, hh1⟩ (fun x hx => ?_)
                obtain ⟨i, hi, e⟩ := List.getElem_of_mem (List.mem_of_mem_take hx)
                exact HA0.out i (by rw [L2.out] at hi; exact hi) x (by rw [List.getElem?_eq_getElem hi, e])
              have hcj : Sj.2.2 = len + j := by
                rw [← hSj, cAll_count, List.length_take, L2.out, Nat.min_eq_left hj]
              obtain ⟨wj, hj', lj⟩ := Sj
              simp only at hlj hhj hcj
              rw [hSj] at KJ
              simp only at KJ
              obtain ⟨hn', rfl⟩ : ∃ hn' : Nat, hj' = (hn' : Int) := ⟨hj'.toNat, by omega⟩
              subst hcj
              by_cases hjm : j < m
              · have hj1 : (j : Int) < (m : Int) := by omega
                obtain ⟨b, off, x, rfl, hx, hc⟩ := (HS2.out _ KJ.out.bel).int_ hjm
                obtain ⟨hx0, hx1⟩ := HA0.out j hjm x hx
                obtain ⟨xa, rfl⟩ : ∃ xa : Nat, x = (xa : Int) := ⟨x.toNat, by omega⟩
                have HC : Hid (∀ W, Below w.heap.size w W → W.cell? ⟨b, off + j, none⟩ = some (.int .i64 (xa : Int))) := hidb (fun W hb => by
                  obtain ⟨b2, off2, x2, hA2, hx2, hc2⟩ := (HS2.out W hb).int_ hjm
                  obtain ⟨rfl, rfl⟩ : b = b2 ∧ off = off2 := by simpa using hA2
                  obtain rfl : (xa : Int) = x2 := by rw [hx] at hx2; exact Option.some.inj hx2
                  exact hc2)
                have HSN : Hid (cAll (ws, (h0, len)) (at'.take (j + 1)) = (wj.set xa hn', ((xa : Int) + 1, len + (j : Int) + 1))) := hidb (by
                  rw [List.take_add_one, hx, show (some (xa : Int)).toList = [(xa : Int)] from rfl, cAll_snoc, hSj]; rfl)
                have KD := hidb (KJ.out.below (Below.refl _ _).drew)
                have cwi := ref_cwith A' n c' wj xa hn' wr.drew KD.out.sl (by omega) (by omega)
                have hle : (wj.set xa hn').length = n := by rw [List.length_set, hlj]
                unfold OwnWords at cwi
                rw [hle] at cwi
                obtain ⟨p0, p1, r0, r1, rf0, rf1, pf0, pf1⟩ := KD.out.facts
                have hc : wr.drew.cell? ⟨b, off + j, none⟩ = some (.int .i64 (xa : Int)) := HC.out _ KD.out.bel
                have hwr : IntKind.u64.wrap (hn' : Int) = (hn' : Int) := IntWalk.u64_in _ (by omega)
                clear hx hSj hle hlj
                go_wp2
                go_region_held3 (fun W => W.cell? ⟨w.heap.size, 0, none⟩ = some (.int .i64 (hn' : Int)) ∧ W.cell? ⟨b, off + j, none⟩ = some (.int .i64 (xa : Int)))
                  (first | (go_keep; done) | (exact ⟨by assumption, by assumption⟩))
                  (first
                    | (go_at_call 25; ((with_reducible refine cwi.mono ?_); rintro e w2 ⟨A5, c5, rfl, hown5, hb5⟩; have K5 := hidb (KD.out.words hb5 hown5); obtain ⟨t0, t1, v0, v1, vf0, vf1, tf0, tf1⟩ := K5.out.facts; have hc5 := HC.out _ K5.out.bel; clear hown5 hb5 p0 p1 r0 r1 rf0 rf1 pf0 pf1)))
                go_wp2
                go_region
                all_goals go_wp2
                all_goals refine ⟨⟨j + 1, A5, c5, by omega, by go_num, rfl, hidb ?_⟩, by simp [intOf]; omega⟩
                all_goals rw [HSN.out]
                all_goals exact (K5.out.set_ _ _).below (by first | exact (Below.refl _ _).drew | exact Below.refl _ _)
              · obtain rfl : m = j := by omega
                have HE : Hid (cPush ws (h0, len) at' = (wj, ((hn' : Int), len + (m : Int)), 0)) := hidb (by
                  rw [HEND.out]
                  rw [List.take_of_length_le (by rw [L2.out]; exact Nat.le_refl _)] at hSj
                  rw [hSj])
                obtain ⟨p0, p1, r0, r1, rf0, rf1, pf0, pf1⟩ := KJ.out.facts
                clear hSj hlj
                go_wp2
                go_region
                all_goals go_wp2
                all_goals obtain ⟨s0, s1⟩ := two_cells8 wr (w.heap.size + 1) (.int .i64 (hn' : Int)) (.int .i64 (len + (m : Int))) _ _ r0 r1
                all_goals refine bodyPost_ret (v := .tuple #[.slice A' n c', .agg #[.int .i64 (hn' : Int), .int .i64 (len + (m : Int))], .int .i64 0]) (by simp [results, Try.results9, go_sem, s0, s1]) rfl ?_
                all_goals rw [HE.out]
                all_goals exact KJ.out.fin c' 0 (by first | exact (Below.refl _ _).drew | exact Below.refl _ _)

end Go.Proofs.Ytcngcibiibchiaa
