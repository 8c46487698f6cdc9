/- What Remove of the document's own answers to layer 8 (chain) returns: the walk. -/
import Derived.Test.YtcngcibiibchiaaChainRemove
namespace Go.Proofs.Ytcngcibiibchiaa
open Go.RowKit
set_option linter.unusedVariables false

set_option maxRecDepth 100000 in
set_option maxHeartbeats 4000000 in
theorem ref_cremove (A : Option Addr) (n c : Nat) (ws : List Nat) (h0 len a : Int) (w : World) (hs : Sl w w.heap.size A n (ws.map wv)) (hn : n ≤ 65536) (hh : in64 h0) (hl : in64 len) (ha : in64 a) :
    Calls Try.prog 13 #[.slice A n c, .agg #[.int .i64 h0, .int .i64 len], .int .i64 a] w (ResC A w n (cRemove ws (h0, len) a)) := by
  have l1 : ws.length = n := by have := hs.1; simpa using this
  obtain ⟨W0, hW0⟩ : ∃ W0, W0 = (w.alloc (.cells #[.int .i64 h0, .int .i64 len] 23)).alloc (.cells #[.int .i64 0, .int .i64 0] 23) := ⟨_, rfl⟩
  have k0 : PushAt w W0 w.heap.size (w.heap.size + 1) n A A ws h0 len := by rw [hW0]; exact PushAt.start hs h0 len _ _
  have HW0 := hidb hW0
  have cl := ref_clist A n c ws h0 len W0 k0.sl hn hh hl
  obtain ⟨LL, hLL⟩ : ∃ LL, cList ws (h0, len) = LL := ⟨_, rfl⟩
  rw [hLL] at cl
  unfold ResChain at cl
  have HK0 := hidb k0
  have ha0 := ha.1
  have ha1 := ha.2
  have hne : w.heap.size ≠ w.heap.size + 1 := by omega
  cases LL with
  | none =>
    have HE : Hid (cRemove ws (h0, len) a = (ws, (h0, len), 9)) := hidb (by unfold cRemove; rw [hLL])
    clear hs l1 hh hl ha hLL k0 hW0
    go_enter Try.func13, Try.ntmps13
    go_wp2_with (first | (go_at_call 17; rw [← HW0.out]; (with_reducible refine cl.mono ?_); rintro e w1 ⟨A1, n1, c1, out, rfl, hsl1, _, hb1, hnw1⟩; have K1 := hidb (HK0.out.below hb1); obtain ⟨p0, p1, r0, r1, rf0, rf1, pf0, pf1⟩ := K1.out.facts; clear hsl1 hb1 hnw1))
    clear HW0 HK0 cl
    go_region
    all_goals go_wp2
    all_goals obtain ⟨s0, s1⟩ := two_cells8 w1 (w.heap.size + 1) (.int .i64 h0) (.int .i64 len) _ _ r0 r1
    all_goals refine bodyPost_ret (v := .tuple #[.slice A n c, .agg #[.int .i64 h0, .int .i64 len], .int .i64 9]) (by simp [results, Try.results13, go_sem, s0, s1]) rfl ?_
    all_goals rw [HE.out]
    all_goals exact K1.out.fin c 9 (by first | exact (Below.refl _ _).drew | exact Below.refl _ _)
  | some l =>
    obtain ⟨hnd, hlr, hlen⟩ := cList_some hLL
    have hl65 : l.length ≤ 65536 := by
      have := nodup_le ws.length l hnd hlr
      omega
    have HLR := hidb hlr
    have L1 := hidb l1
    by_cases hin : a ∈ l
    · have hab := hlr a hin
      obtain ⟨an, rfl⟩ : ∃ an : Nat, a = (an : Int) := ⟨a.toNat, by omega⟩
      have HE : Hid (cRemove ws (h0, len) (an : Int) = ((cRest ws l (an : Int) 0).1, (cRest ws l (an : Int) 0).2, 0)) := hidb (by unfold cRemove; rw [hLL]; simp only; rw [if_pos hin]; rfl)
      have hde : decide ((an : Int) ∈ l) = true := decide_eq_true hin
      clear hs l1 hh hl ha hLL k0 hW0 hnd hlr hlen hin
      go_enter Try.func13, Try.ntmps13
      go_wp2_with (first
        | (go_at_call 17; rw [← HW0.out]; (with_reducible refine cl.mono ?_); rintro e w1 ⟨A1, n1, c1, out, rfl, hsl1, hout, hb1, hnw1⟩; obtain rfl := hout _ rfl; have K1 := hidb (HK0.out.below hb1); have HSL := hidb hsl1; have ci := ref_bin A1 n1 c1 out (an : Int) w1 w1.heap.size hsl1 (by have := hsl1.1; rw [List.length_map] at this; omega); rw [hde] at ci; clear hsl1 hb1 hnw1)
        | (go_at_call 23; (with_reducible refine ci.mono ?_); rintro e w' ⟨rfl, rfl⟩))
      have K2 := hidb (K1.out.rest 23)
      have cw := ref_cwith A n c ws an 0 _ K2.out.sl hn (by have := L1.out; omega)
      unfold OwnWords at cw
      rw [List.length_set, L1.out, show ((0 : Nat) : Int) = 0 from rfl] at cw
      refine cw.mono ?_
      rintro e w2 ⟨A3, c3, rfl, hown3, hb3⟩
      have K3 := hidb (K2.out.words hb3 hown3)
      have HB3 : Hid (Below w1.heap.size w1 w2) := hidb (((Below.refl w1.heap.size w1).alloc (Nat.le_refl _) _).trans (hb3.mono (by simp)))
      have hn1 : n1 ≤ 65536 := by have := HSL.out.1; rw [List.length_map] at this; omega
      have hl1 : out.length = n1 := by have := HSL.out.1; rw [List.length_map] at this; omega
      have HLO := hidb hl1
      clear hown3 hb3 cw ci cl HW0 HK0 K2 hl1 hl65
      go_wp2
      go_loopw [12, 13] (fun ov iv wr => ∃ (t : Nat) (i : Int) (A' : Option Addr) (c' : Nat), t ≤ n1 ∧ iv = .int .i64 i ∧ i = (t : Int) - 1 ∧ ov = .slice A' n c' ∧ Hid (PushAt w wr w1.heap.size (w.heap.size + 1) n A A' (cRest ws out (an : Int) t).1 (cRest ws out (an : Int) t).2.1 (cRest ws out (an : Int) t).2.2) ∧ Hid (Below w1.heap.size w1 wr)) (fun _ iv _ => (intOf iv + 1).toNat)
      case atStart => exact ⟨n1, _, A3, c3, Nat.le_refl _, rfl, rfl, rfl, hidb (by rw [← HLO.out, cRest_end]; exact K3.out), HB3⟩
      case round =>
        obtain ⟨t, i, A', c', ht, rfl, hit, rfl, KT, HB⟩ := hrel
        clear K3 HB3
        by_cases ht0 : t = 0
        · subst ht0
          obtain rfl : i = -1 := by omega
          clear hit
          obtain ⟨Sj, hSj⟩ : ∃ Sj, cRest ws out (an : Int) 0 = Sj := ⟨_, rfl⟩
          obtain ⟨wj, hj', lj⟩ := Sj
          rw [hSj] at KT HE
          simp only at KT HE
          obtain ⟨p0, p1, r0, r1, rf0, rf1, pf0, pf1⟩ := KT.out.facts
          clear hSj
          go_wp2
          go_region
          all_goals go_wp2
          all_goals obtain ⟨s0, s1⟩ := two_cells8 wr (w.heap.size + 1) (.int .i64 hj') (.int .i64 lj) _ _ r0 r1
          all_goals refine bodyPost_ret (v := .tuple #[.slice A' n c', .agg #[.int .i64 hj', .int .i64 lj], .int .i64 0]) (by simp [results, Try.results13, go_sem, s0, s1]) rfl ?_
          all_goals rw [HE.out]
          all_goals exact KT.out.fin c' 0 (by first | exact (Below.refl _ _).drew | exact Below.refl _ _)
        · obtain ⟨u, rfl⟩ : ∃ u, t = u + 1 := ⟨t - 1, by omega⟩
          obtain rfl : i = (u : Int) := by omega
          clear hit
          have hi0 : (0 : Int) ≤ (u : Int) := by omega
          have hi1 : (u : Int) < (n1 : Int) := by omega
          obtain ⟨f1, f2, f3, f4⟩ := cRest_facts (ws := ws) (l := out) (a := (an : Int)) (t := u + 1) HLR.out
          rw [L1.out] at f1 f2
          rw [HLO.out] at f4
          obtain ⟨b, off, x, rfl, hx, hc⟩ := (HSL.out.below HB.out).int_ (j := u) (by omega)
          obtain ⟨hx0, hx1⟩ := HLR.out x (List.mem_of_getElem? hx)
          rw [L1.out] at hx1
          obtain ⟨xa, rfl⟩ : ∃ xa : Nat, x = (xa : Int) := ⟨x.toNat, by omega⟩
          have HC : Hid (∀ W, Below w1.heap.size w1 W → W.cell? ⟨b, off + u, none⟩ = some (.int .i64 (xa : Int))) := hidb (fun W hb => by
            obtain ⟨b2, off2, x2, hA2, hx2, hc2⟩ := (HSL.out.below hb).int_ (j := u) (by omega)
            obtain ⟨rfl, rfl⟩ : b = b2 ∧ off = off2 := by simpa using hA2
            obtain rfl : (xa : Int) = x2 := by rw [hx] at hx2; exact Option.some.inj hx2
            exact hc2)
          by_cases e : (xa : Int) = (an : Int)
          · have hne2 : ((xa : Int) != (an : Int)) = false := by simpa using e
            have HS := hidb (cRest_same (ws := ws) hx e)
            clear hx e f1 f2 f3 f4
            go_wp2
            go_roundw
            case rel => exact ⟨u, _, A', c', by omega, by go_num, rfl, rfl, hidb (by rw [HS.out]; exact KT.out), HB⟩
            case measure => simp [intOf]
          · have hne2 : ((xa : Int) != (an : Int)) = true := by simpa using e
            have HSN := hidb (cRest_step (ws := ws) hx e)
            obtain ⟨Sj, hSj⟩ : ∃ Sj, cRest ws out (an : Int) (u + 1) = Sj := ⟨_, rfl⟩
            rw [hSj] at KT f1 f2 f3 f4 HSN
            obtain ⟨wj, hj', lj⟩ := Sj
            simp only at KT f1 f2 f3 f4 HSN
            obtain ⟨hn', rfl⟩ : ∃ hn' : Nat, hj' = (hn' : Int) := ⟨hj'.toNat, by omega⟩
            have KD := hidb (KT.out.below (Below.refl _ _).drew)
            have cwi := ref_cwith A' n c' wj xa hn' wr.drew KD.out.sl (by omega) (by omega)
            have hle : (wj.set xa hn').length = n := by rw [List.length_set, f1]
            unfold OwnWords at cwi
            rw [hle] at cwi
            obtain ⟨p0, p1, r0, r1, rf0, rf1, pf0, pf1⟩ := KD.out.facts
            have hc0 : wr.cell? ⟨b, off + u, none⟩ = some (.int .i64 (xa : Int)) := HC.out _ HB.out
            have hc : wr.drew.cell? ⟨b, off + u, none⟩ = some (.int .i64 (xa : Int)) := HC.out _ HB.out.drew
            have hwr : IntKind.u64.wrap (hn' : Int) = (hn' : Int) := IntWalk.u64_in _ (by omega)
            have HBD := hidb HB.out.drew
            clear hx hSj hle e f1
            go_wp2
            go_region_held3 (fun W => W.cell? ⟨w1.heap.size, 0, none⟩ = some (.int .i64 (hn' : Int)) ∧ W.cell? ⟨b, off + u, none⟩ = some (.int .i64 (xa : Int)))
              (first | (go_keep; done) | (exact ⟨by assumption, by assumption⟩))
              (first
                | (go_at_call 25; ((with_reducible refine cwi.mono ?_); rintro e w2 ⟨A5, c5, rfl, hown5, hb5⟩; have K5 := hidb (KD.out.words hb5 hown5); obtain ⟨t0, t1, v0, v1, vf0, vf1, tf0, tf1⟩ := K5.out.facts; have HB5 := hidb (HBD.out.trans (hb5.mono HBD.out.size)); have hc5 := HC.out _ HB5.out; clear hown5 hb5 p0 p1 r0 r1 rf0 rf1 pf0 pf1)))
            go_wp2
            go_region
            all_goals go_wp2
            all_goals refine ⟨⟨u, _, A5, c5, by omega, rfl, rfl, rfl, hidb ?_, hidb ?_⟩, by simp [intOf]⟩
            · rw [HSN.out]
              exact (K5.out.set_ _ _).below (by first | exact (Below.refl _ _).drew | exact Below.refl _ _)
            · exact ((HB5.out.setCell (p := ⟨w1.heap.size, 0, none⟩) (Nat.le_refl _) _).setCell (p := ⟨w1.heap.size, 1, none⟩) (Nat.le_refl _) _).drew
    · have HE : Hid (cRemove ws (h0, len) a = (ws, (h0, len), 6)) := hidb (by unfold cRemove; rw [hLL]; simp only; rw [if_neg hin])
      have hde : decide (a ∈ l) = false := decide_eq_false hin
      clear hs l1 hh hl ha hLL k0 hW0 hnd hlr hlen hin
      go_enter Try.func13, Try.ntmps13
      go_wp2_with (first
        | (go_at_call 17; rw [← HW0.out]; (with_reducible refine cl.mono ?_); rintro e w1 ⟨A1, n1, c1, out, rfl, hsl1, hout, hb1, hnw1⟩; obtain rfl := hout _ rfl; have K1 := hidb (HK0.out.below hb1); obtain ⟨p0, p1, r0, r1, rf0, rf1, pf0, pf1⟩ := K1.out.facts; have ci := ref_bin A1 n1 c1 out a w1 w1.heap.size hsl1 (by have := hsl1.1; rw [List.length_map] at this; omega); rw [hde] at ci; clear hsl1 hb1 hnw1)
        | (go_at_call 23; (with_reducible refine ci.mono ?_); rintro e w' ⟨rfl, rfl⟩))
      clear HW0 HK0 cl
      go_region
      all_goals go_wp2
      all_goals obtain ⟨s0, s1⟩ := two_cells8 w1 (w.heap.size + 1) (.int .i64 h0) (.int .i64 len) _ _ r0 r1
      all_goals refine bodyPost_ret (v := .tuple #[.slice A n c, .agg #[.int .i64 h0, .int .i64 len], .int .i64 6]) (by simp [results, Try.results13, go_sem, s0, s1]) rfl ?_
      all_goals rw [HE.out]
      all_goals exact K1.out.fin c 6 (by first | exact (Below.refl _ _).drew | exact Below.refl _ _)

end Go.Proofs.Ytcngcibiibchiaa
