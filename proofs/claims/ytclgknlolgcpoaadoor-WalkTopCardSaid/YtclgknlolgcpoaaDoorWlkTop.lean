/- Layer 15's statement WalkTop. -/
import Derived.Test.YtclgknlolgcpoaaDoorWlkTop0
namespace Go.Proofs.YtclgknlolgcpoaaDoor
open Go.RowKit Go.ChangeShapes Go.WideShapes
set_option linter.unusedVariables false

set_option maxRecDepth 100000 in
set_option maxHeartbeats 8000000 in
theorem walkTop_any (A : Option Addr) (n c : Nat) (us : List Nat) (A2 : Option Addr) (n2 c2 : Nat) (ys : List FnV) (s : StV) (w : World) (hs : Sl w w.heap.size A n (us.map wv)) (hu : Wd us) (hm : n ≤ maxLen) (hr : FnRow w 0 w.heap.size A2 n2 ys) (hy : ∀ y ∈ ys, y.n ≤ 17592186044416) (hm2 : n2 ≤ maxLen) (h0 : in64 s.lo) (h1 : in64 s.size) (h2 : in64 s.sp) (ht : TabDB w) :
    Calls Tryd.prog 5 #[.slice A n c, .slice A2 n2 c2, .agg #[.int .i64 s.lo, .int .i64 s.size, .int .i64 s.sp]] w fun e w' => e = .returned (.bool true) ∧ Below w.heap.size w w' := by
  unfold maxLen at hm hm2
  obtain ⟨X, hX⟩ : ∃ X, X = w.alloc (.cells #[.int .i64 s.lo, .int .i64 s.size, .int .i64 s.sp] 25) := ⟨_, rfl⟩
  have hbX : Below w.heap.size w X := by rw [hX]; exact belF_al (Below.refl _ _) _
  have hzX : X.heap.size = w.heap.size + 1 := by rw [hX]; simp
  have HBX := hidb hbX
  have HC : Hid (∀ W, Below X.heap.size X W → W.cell? ⟨w.heap.size, 0, none⟩ = some (.int .i64 s.lo) ∧ W.cell? ⟨w.heap.size, 1, none⟩ = some (.int .i64 s.size) ∧ W.cell? ⟨w.heap.size, 2, none⟩ = some (.int .i64 s.sp)) := hidb (fun W hb => by refine ⟨?_, ?_, ?_⟩ <;> (rw [hb.cell (by show w.heap.size < _; omega), hX]; simp))
  have hrX : FnRow X 0 X.heap.size A2 n2 ys := (hr.below hbX).more (Nat.le_refl _) hbX.size
  have HRX := hidb hrX
  have CG : Hid (∀ W b, fGreat (vals ys) = b → Below X.heap.size X W → Calls Tryd.prog 6 #[.slice A2 n2 c2] W fun e w' => e = .returned (.bool b) ∧ W = w') := hidb (fun W b hb hbw => by rw [← hb]; exact ref_fgreat A2 n2 c2 ys 0 W.heap.size W ((HRX.out.below hbw).more (Nat.le_refl _) hbw.size) (by omega))
  have HT := hidb (TabDB.below ht hbX)
  have KA := fun W (s : Hid (Below X.heap.size X W)) => (awake15 W (TabDB.below HT.out s.out)).mono fun e w' h => (⟨h.1, hidb (belF_tr s.out h.2)⟩ : e = _ ∧ Hid (Below X.heap.size X w'))
  have HXX := hidb hX
  cases hT : fTab (vals ys) with
  | false =>
    have kn : Calls Tryd.prog 9 #[.slice A2 n2 c2] X fun e w' => e = .returned (.tuple #[.pointer none, .int .i64 1]) ∧ Hid (Below X.heap.size X w') := by
      by_cases h100 : 100 < n2
      · exact (code_fNew_big A2 n2 c2 X h100 (by omega)).mono fun e w' h => ⟨h.1, hidb h.2⟩
      · exact (code_fNew_no A2 n2 c2 ys 0 X hrX (by omega) hy hT).mono fun e w' h => ⟨h.1, hidb h.2⟩
    by_cases hbig : 256 < n
    · have hb : (256 : Int) < (n : Int) := by omega
      clear hs hr hrX hX hbX hzX hbig ht hT hy
      --@1
      go_enter Tryd.func5, Tryd.ntmps5
      go_wp2_with (first
        | (go_at_call 9; rw [← HXX.out]; (with_reducible refine kn.mono ?_); rintro e w1 ⟨rfl, hs1⟩)
        | (go_at_call 7; (with_reducible refine (KA _ hs1).mono ?_); rintro e w2 ⟨rfl, hs2⟩))
      go_ret
      exact ⟨rfl, belF_tr HBX.out hs2.out⟩
    · have hnb : ¬ ((256 : Int) < (n : Int)) := by omega
      obtain ⟨b, hbg⟩ : ∃ b, fGreat (vals ys) = b := ⟨_, rfl⟩
      have cg := fun W h => CG.out W b hbg h
      clear hs hr hrX hX hbX hzX hbig ht hT hy hbg
      cases b with
      | true =>
        --@2
        go_enter Tryd.func5, Tryd.ntmps5
        go_wp2_with (first
          | (go_at_call 9; rw [← HXX.out]; (with_reducible refine kn.mono ?_); rintro e w1 ⟨rfl, hs1⟩)
          | (go_at_call 6; (with_reducible refine (cg _ hs1.out).mono ?_); rintro e w' ⟨rfl, rfl⟩)
          | (go_at_call 7; (with_reducible refine (KA _ hs1).mono ?_); rintro e w2 ⟨rfl, hs2⟩))
        go_ret
        exact ⟨rfl, belF_tr HBX.out hs2.out⟩
      | false =>
        --@3
        go_enter Tryd.func5, Tryd.ntmps5
        go_wp2_with (first
          | (go_at_call 9; rw [← HXX.out]; (with_reducible refine kn.mono ?_); rintro e w1 ⟨rfl, hs1⟩)
          | (go_at_call 6; (with_reducible refine (cg _ hs1.out).mono ?_); rintro e w' ⟨rfl, rfl⟩)
          | (go_at_call 7; (with_reducible refine (KA _ hs1).mono ?_); rintro e w2 ⟨rfl, hs2⟩))
        go_ret
        exact ⟨rfl, belF_tr HBX.out hs2.out⟩
  | true =>
    have h100 : n2 ≤ 100 := by unfold fTab at hT; rw [Bool.and_eq_true, decide_eq_true_iff, vals_length, hr.len] at hT; omega
    have hsz := fTab_sizes hT
    have HSZ2 := hidb (fOwns_sizes hsz)
    have kn : Calls Tryd.prog 9 #[.slice A2 n2 c2] X fun e w' => ∃ q, e = .returned (.tuple #[.pointer (some ⟨q, 0, none⟩), .int .i64 0]) ∧ Hid (S13 X w' (some ⟨q, 0, none⟩) (fOwns (vals ys))) := (code_fNew A2 n2 c2 ys 0 X hrX (by omega) hy HT.out hT).mono fun e w' ⟨q, h1, h2, h3⟩ => ⟨q, h1, hidb ⟨h3, _, _, h2.o, Nat.le_refl _, Nat.le_refl _⟩⟩
    generalize fOwns (vals ys) = O at *
    by_cases hbig : 256 < n
    · have hb : (256 : Int) < (n : Int) := by omega
      clear hs hr hrX hX hbX hzX hbig ht hT hy
      --@4
      go_enter Tryd.func5, Tryd.ntmps5
      go_wp2_with (first
        | (go_at_call 9; rw [← HXX.out]; (with_reducible refine kn.mono ?_); rintro e w1 ⟨tb, rfl, hs1⟩; have hw1 := hidb hs1.out.bel)
        | (go_at_call 7; (with_reducible refine (KA _ hw1).mono ?_); rintro e w2 ⟨rfl, hs2⟩))
      go_ret
      exact ⟨rfl, belF_tr HBX.out hs2.out⟩
    have hnb : ¬ ((256 : Int) < (n : Int)) := by omega
    have hn : n ≤ 256 := by omega
    cases hG : fGreat (vals ys) with
    | true =>
      have cg := fun W h => CG.out W true hG h
      clear hs hr hrX hX hbX hzX hbig ht hT hy hG
      --@5
      go_enter Tryd.func5, Tryd.ntmps5
      go_wp2_with (first
        | (go_at_call 9; rw [← HXX.out]; (with_reducible refine kn.mono ?_); rintro e w1 ⟨tb, rfl, hs1⟩; have hw1 := hidb hs1.out.bel)
        | (go_at_call 6; (with_reducible refine (cg _ hw1.out).mono ?_); rintro e w' ⟨rfl, rfl⟩)
        | (go_at_call 7; (with_reducible refine (KA _ hw1).mono ?_); rintro e w2 ⟨rfl, hs2⟩))
      go_ret
      exact ⟨rfl, belF_tr HBX.out hs2.out⟩
    | false =>
      have cg := fun W h => CG.out W false hG h
      have HU : Hid (Wd (frLaid us)) := hidb (frLaid_wd hu)
      have hul : us.length = n := by have := hs.1; simpa using this
      have hfl : (frLaid us).length = 256 := frLaid_length us (by omega)
      obtain ⟨L, no, hv⟩ : ∃ L no, wkFrames (frLaid us) O s = (L, no) := ⟨_, _, rfl⟩
      have HLL : Hid (L.length ≤ 256) := hidb (by rw [← hfl]; exact wkFrames_len HSZ2.out s L no hv)
      have HTOP : Hid (no = 0 → Tops O (s.lo + s.size) s.sp L) := hidb (fun h => wkFrames_tops HSZ2.out hfl (by rw [hv, h]))
      have HNIL : Hid (no ≠ 0 → L = []) := hidb (fun h => by
        unfold wkFrames at hv
        split at hv
        · injection hv with hv _; exact hv.symm
        · split at hv
          · injection hv with hv _; exact hv.symm
          · injection hv with _ hv; exact absurd hv.symm h)
      have HHI : Hid (no = 0 → 0 ≤ s.lo ∧ 0 ≤ s.size ∧ s.lo + s.size ≤ 256) := hidb (fun h => by
        unfold wkFrames at hv
        split at hv
        · injection hv with _ hv; omega
        · rename_i hm
          have hf := wkGo_few (l := O) (xs := frLaid us) (s := s) (by simpa using hm)
          rw [hfl] at hf
          omega)
      have HS := hidb ((hs.below hbX).more hbX.size)
      have KL : Hid (∀ W tp, Hid (S13 X W tp O) → Calls Tryd.prog 8 #[.slice A n c] W fun e w' => ∃ p g, e = .returned (.pointer (some ⟨p, 0, none⟩)) ∧ Hid (AT X w' p g 256 (frLaid us) tp O)) := hidb (fun W tp st => by
        refine (t_laid (W := W) (c := c) ((HS.out.below st.out.bel).more st.out.bel.size) hn).mono ?_
        rintro e w' ⟨p, g, rfl, h2, h3⟩
        exact ⟨p, g, rfl, hidb (AT.made2 st.out h2 h3)⟩)
      have H0 := hidb h0
      have H1 := hidb h1
      have H2 := hidb h2
      have HV := hidb hv
      have KF : Hid (∀ W p g tp, Hid (AT X W p g 256 (frLaid us) tp O) → Calls Tryd.prog 11 #[.pointer (some ⟨p, 0, none⟩), .pointer tp, .agg #[.int .i64 s.lo, .int .i64 s.size, .int .i64 s.sp]] W fun e w' => ∃ G kG, e = .returned (.tuple #[.slice G L.length kG, .int .i64 no]) ∧ Hid (AT X w' p g 256 (frLaid us) tp O) ∧ Hid (FrRow w' w'.heap.size G L.length L) ∧ Hid (Below W.heap.size W w')) := hidb (fun W p g tp st => t_wframes st HSZ2.out HU.out s H0.out H1.out H2.out L no HV.out)
      have KE : Hid (∀ W p g tp x, Hid (AT X W p g 256 (frLaid us) tp O) → frNear x → Calls Tryd.prog 21 #[.pointer tp, .agg #[.int .i64 x.at_, .int .i64 x.fn, .int .i64 x.link]] W fun e w' => e = .returned (.int .i64 (frEnd O x)) ∧ Below W.heap.size W w') := hidb (fun W p g tp x st hx => by
        obtain ⟨lo, hi, g1, g2, _⟩ := st.out.tb
        exact code_frend g1 g2 HSZ2.out x hx)
      obtain ⟨lo, size, sp⟩ := s
      simp only at *
      clear hs hr hrX hX hbX hzX hbig ht hT hy hG hu hul hfl hv h0 h1 h2 hsz hm2 hm
      go_enter Tryd.func5, Tryd.ntmps5
      go_wp2_with (first
        | (go_at_call 9; rw [← HXX.out]; (with_reducible refine kn.mono ?_); rintro e w1 ⟨tb, rfl, hs1⟩; have hw1 := hidb hs1.out.bel)
        | (go_at_call 6; (with_reducible refine (cg _ hw1.out).mono ?_); rintro e w' ⟨rfl, rfl⟩))
      have HX1 : Hid (∀ W, Below w1.heap.size w1 W → W.cell? ⟨w.heap.size, 0, none⟩ = some (.int .i64 lo) ∧ W.cell? ⟨w.heap.size, 1, none⟩ = some (.int .i64 size) ∧ W.cell? ⟨w.heap.size, 2, none⟩ = some (.int .i64 sp)) := hidb (fun W hb => HC.out W (belF_tr hw1.out hb))
      have HSD := hidb (hs1.out.step (belF_dr (Below.refl _ _)))
      have kl := KL.out _ _ HSD
      clear cg kn
      go_cut [9, 10] from 31 to 38 (fun v9 v10 wx => ∃ p g G kG, v9 = .slice G L.length kG ∧ v10 = .int .i64 no ∧ Hid (AT X wx p g 256 (frLaid us) (some ⟨tb, 0, none⟩) O) ∧ Hid (FrRow wx wx.heap.size G L.length L))
      case first =>
        --@6
        (first | go_region_held3 (fun W => W.cell? ⟨w.heap.size, 0, none⟩ = some (.int .i64 lo) ∧ W.cell? ⟨w.heap.size, 1, none⟩ = some (.int .i64 size) ∧ W.cell? ⟨w.heap.size, 2, none⟩ = some (.int .i64 sp))
          (first | ((with_reducible refine HX1.out _ ?_); (repeat (first | with_reducible exact Below.refl _ _ | with_reducible exact Hid.out (by assumption) | with_reducible apply belF_al | with_reducible apply belF_dr)); done) | (go_keep; done))
          (first
            | (go_at_call 8; (with_reducible refine kl.mono ?_); rintro e w3 ⟨p, g, rfl, hs3⟩; have hcx3 := HC.out w3 hs3.out.bel)
            | (go_at_call 11; (with_reducible refine (KF.out _ _ _ _ hs3).mono ?_); rintro e w4 ⟨G, kG, rfl, hs4, hG4, hb4⟩; have hcx4 := HC.out w4 hs4.out.bel)) | fail)
        all_goals (go_wp2_with fail; go_meet; exact ⟨p, g, G, kG, rfl, rfl, hs4, hG4⟩)
      case rest =>
        obtain ⟨p, g, G, kG, rfl, rfl, HS4, HG4⟩ := hcut
        have kaw := fun W h => KA W h
        have HBC := hidb HS4.out.bel
        by_cases hn0 : no = 0
        · subst hn0
          by_cases hl0 : L = []
          · subst hl0
            clear kl
            simp only [List.length_nil]
            --@7
            go_wp2_with (first
              | (go_at_call 7; (with_reducible refine (kaw _ HBC).mono ?_); rintro e w5 ⟨rfl, hs5⟩))
            go_ret
            exact ⟨rfl, belF_tr HBX.out hs5.out⟩
          · have hlen : 0 < L.length := List.length_pos_iff.2 hl0
            have hln : ¬ L.length = 0 := by omega
            have hlb : ((L.length : Int) == 0) = false := by simpa using hln
            have HTP := hidb (HTOP.out rfl)
            obtain ⟨g0, g1, g2⟩ := HHI.out rfl
            obtain ⟨m, hm⟩ : ∃ m, L.length = m := ⟨_, rfl⟩
            have HM := hidb hm
            rw [hm] at HG4 hlen hln hlb
            have hm256 : m ≤ 256 := by rw [← hm]; exact HLL.out
            rw [hm]
            have HXC : Hid (∀ W, Below wc.heap.size wc W → W.cell? ⟨w.heap.size, 0, none⟩ = some (.int .i64 lo) ∧ W.cell? ⟨w.heap.size, 1, none⟩ = some (.int .i64 size) ∧ W.cell? ⟨w.heap.size, 2, none⟩ = some (.int .i64 sp)) := hidb (fun W hb => HC.out W (belF_tr HBC.out hb))
            clear kl hl0 hm
            --@8
            go_wp2
            go_loopw [11, 12, 13] (fun v11 _ _ wr => ∃ d : Nat, d ≤ m ∧ v11 = .int .i64 d ∧ Hid (Below wc.heap.size wc wr)) (fun v11 _ _ _ => (m - intOf v11).toNat)
            case atStart => exact ⟨0, by omega, rfl, hidb (Below.refl _ _)⟩
            case round =>
              obtain ⟨d, hd, rfl, HB⟩ := hrel
              obtain ⟨q0, q1, q2⟩ := HXC.out wr HB.out
              by_cases hlt : d < m
              · obtain ⟨b, off, x, rfl, _, hx, hc0, hc1, hc2⟩ := (HG4.out.below HB.out).at_ hlt
                have hnr := HTP.out.near x (List.mem_of_getElem? hx)
                have HSR := hidb (HS4.out.step HB.out)
                obtain ⟨xa, xf, xl⟩ := x
                simp only at hc0 hc1 hc2
                have HRL : Hid (∀ q, Below wr.heap.size wr (wr.drewN q)) := hidb (fun q => belowN (Below.refl _ _) q)
                have ke := fun W (h : Below wr.heap.size wr W) => KE.out W p g (some ⟨tb, 0, none⟩) ⟨xa, xf, xl⟩ (hidb (HSR.out.step h)) hnr.1
                rw [hnr.2] at ke
                have hd0 : (0 : Int) ≤ (d : Int) := by omega
                have hd1 : (d : Int) < (m : Int) := by omega
                have hwlo : wrap64 (lo + size) = lo + size := by unfold wrap64; omega
                cases d with
                | zero =>
                  obtain ⟨t1, t2⟩ := HTP.out.head _ hx
                  simp only [Nat.zero_mul, Nat.add_zero] at hc0 hc1 hc2
                  simp only at t2
                  rw [t1] at ke
                  subst t2
                  clear hnr hx t1
                  have KEE := hidb ke
                  have z1 : ((-1 : Int) != -1) = false := by simp
                  have z2 : (lo + size != lo + size) = false := by simp
                  clear ke
                  --@9
                  go_wp2
                  go_quiet (fail)
                  have HBQ := HRL.out nq
                  go_wp2_with (first
                    | (go_at_call 21; (with_reducible refine (KEE.out _ HBQ).mono ?_); rintro e w6 ⟨rfl, hb6⟩))
                  go_roundw
                  case rel => exact ⟨1, by omega, by first | rfl | go_num, hidb (belF_tr HB.out (belF_tr HBQ hb6))⟩
                  case measure => simp [intOf]; omega
                | succ d' =>
                  obtain ⟨b2, off2, y, e2, _, hy2, hy0, hy1, hy22⟩ := (HG4.out.below HB.out).at_ (j := d') (by omega)
                  injection e2 with e2
                  injection e2 with e2 e3
                  subst e2 e3
                  obtain ⟨t1, t2⟩ := HTP.out.con.at_ d' y _ hy2 hx
                  obtain ⟨ya, yf, yl⟩ := y
                  simp only at t1 t2 hy0
                  rw [t2] at ke
                  subst t1
                  clear hnr hx t2 hy2 hy1 hy22
                  have KEE := hidb ke
                  have z1 : (xl != xl) = false := by simp
                  have e1 : ((d' + 1 : Nat) : Int) - 1 = (d' : Int) := by omega
                  have hp : (0 : Int) < ((d' + 1 : Nat) : Int) := by omega
                  have hdd0 : (0 : Int) ≤ (d' : Int) := by omega
                  have hdd1 : (d' : Int) < (m : Int) := by omega
                  clear ke
                  --@10
                  go_wp2
                  go_quiet (fail)
                  have HBQ := HRL.out nq
                  go_wp2_with (first
                    | (go_at_call 21; (with_reducible refine (KEE.out _ HBQ).mono ?_); rintro e w6 ⟨rfl, hb6⟩))
                  go_roundw
                  case rel => exact ⟨d' + 1 + 1, by omega, by go_num, hidb (belF_tr HB.out (belF_tr HBQ hb6))⟩
                  case measure => simp [intOf]; omega
              · obtain rfl : d = m := by omega
                obtain ⟨b, off, x, rfl, _, hx, hc0, hc1, hc2⟩ := (HG4.out.below HB.out).at_ (j := d - 1) (by omega)
                have t1 := HTP.out.last x (by rw [HM.out]; exact hx)
                have HKA := hidb (belF_tr HBC.out HB.out)
                obtain ⟨xa, xf, xl⟩ := x
                simp only at hc0 t1
                subst t1
                have z1 : (xa == xa) = true := by simp
                have hdd0 : (0 : Int) ≤ (d : Int) - 1 := by omega
                have hdd1 : (d : Int) - 1 < (d : Int) := by omega
                have e1 : IntKind.i64.wrap ((d : Int) - 1) = (d : Int) - 1 := by rw [IntKind.wrap_i64]; omega
                have e2 : ((d : Int) - 1).toNat = d - 1 := by omega
                have hdd2 : (1 : Int) ≤ (d : Int) := by omega
                have hdd3 : 1 ≤ d := by omega
                have hdd4 : 0 < d := by omega
                have HCW : Hid (∀ W, Below wr.heap.size wr W → W.cell? ⟨w.heap.size, 2, none⟩ = some (.int .i64 xa) ∧ W.cell? ⟨b, off + (d - 1) * 3, none⟩ = some (.int .i64 xa)) := hidb (fun W hb => ⟨(HXC.out W (belF_tr HB.out hb)).2.2, (hb.cell (p := ⟨b, off + (d - 1) * 3, none⟩) (lt_of_cell' hc0)).trans hc0⟩)
                have KAW : Hid (∀ W, Below wr.heap.size wr W → Calls Tryd.prog 7 #[] W fun e w' => e = .returned (.bool true) ∧ Below W.heap.size W w') := hidb (fun W hb => awake15 W (TabDB.below HT.out (belF_tr HKA.out hb)))
                clear hx hc1 hc2 kaw
                --@11
                go_wp2
                (first | go_region_held3 (fun W => W.cell? ⟨w.heap.size, 2, none⟩ = some (.int .i64 xa) ∧ W.cell? ⟨b, off + (d - 1) * 3, none⟩ = some (.int .i64 xa))
                  (first | ((with_reducible refine HCW.out _ ?_); (repeat (first | with_reducible exact Below.refl _ _ | with_reducible exact Hid.out (by assumption) | with_reducible apply belF_al | with_reducible apply belF_dr)); done) | (go_keep; done))
                  (first
                    | (go_at_call 7; (with_reducible refine (KAW.out _ (by (repeat (first | with_reducible exact Below.refl _ _ | with_reducible exact Hid.out (by assumption) | with_reducible apply belF_al | with_reducible apply belF_dr)))).mono ?_); rintro e u1 ⟨rfl, hv1⟩; have HV1 : Hid (Below wr.heap.size wr u1) := hidb (belF_tr (by (repeat (first | with_reducible exact Below.refl _ _ | with_reducible exact Hid.out (by assumption) | with_reducible apply belF_al | with_reducible apply belF_dr))) hv1); have hcu1 := HCW.out u1 HV1.out; clear hv1)) | fail)
                all_goals go_wp2
                all_goals go_ret
                all_goals exact ⟨rfl, belF_tr HBX.out (belF_tr HKA.out HV1.out)⟩
        · obtain rfl := HNIL.out hn0
          have hnb2 : (no != 0) = true := by simpa using hn0
          simp only [List.length_nil]
          clear kl hn0
          --@12
          go_wp2_with (first
            | (go_at_call 7; (with_reducible refine (kaw _ HBC).mono ?_); rintro e w5 ⟨rfl, hs5⟩))
          go_ret
          exact ⟨rfl, belF_tr HBX.out hs5.out⟩
end Go.Proofs.YtclgknlolgcpoaaDoor
