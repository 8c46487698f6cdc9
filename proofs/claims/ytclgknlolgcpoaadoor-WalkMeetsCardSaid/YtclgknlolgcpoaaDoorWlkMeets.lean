/- Layer 15's statement WalkMeets. -/
import Derived.Test.YtclgknlolgcpoaaDoorWlkMeets0
namespace Go.Proofs.YtclgknlolgcpoaaDoor
open Go.RowKit Go.ChangeShapes Go.WideShapes
set_option linter.unusedVariables false

theorem sl_one {W : World} {q x : Nat} (hc : W.cell? ⟨q, 0, none⟩ = some (.int .u64 (x : Int))) : Sl W W.heap.size (some ⟨q, 0, none⟩) 1 ([x].map wv) := ⟨rfl, fun _ => ⟨q, 0, rfl, lt_of_cell' hc, fun j hj => by
  obtain rfl : j = 0 := by omega
  simpa [wv] using hc⟩⟩
set_option maxRecDepth 100000 in
set_option maxHeartbeats 8000000 in
theorem walkMeets_any (A2 : Option Addr) (n2 c2 : Nat) (ys : List FnV) (AO : Option Addr) (nO cO : Nat) (zs : List Int) (at' : Int) (spoil : Nat) (w : World) (hr : FnRow w 0 w.heap.size A2 n2 ys) (hm2 : n2 ≤ maxLen) (ho : Sl w w.heap.size AO nO (zs.map iv)) (hmO : nO ≤ maxLen) (hz : ∀ z ∈ zs, in64 z) (ha : in64 at') (hk : spoil < 18446744073709551616) (ht : TabDB w) :
    Calls Tryd.prog 4 #[.slice A2 n2 c2, .slice AO nO cO, .int .i64 at', .int .u64 (spoil : Int)] w fun e w' => e = .returned (.bool true) ∧ Below w.heap.size w w' := by
  unfold maxLen at hm2 hmO
  have cg := ref_fgreat A2 n2 c2 ys 0 w.heap.size w hr (by omega)
  have kw0 := awake15 w ht
  cases hG : fGreat (vals ys) with
  | true =>
    rw [hG] at cg
    clear hr ho hG ht
    --@1
    go_enter Tryd.func4, Tryd.ntmps4
    go_wp2_with (first
      | (go_at_call 6; (with_reducible refine cg.mono ?_); rintro e w' ⟨rfl, rfl⟩)
      | (go_at_call 7; (with_reducible refine kw0.mono ?_); rintro e w1 ⟨rfl, hs1⟩))
    go_ret
    exact ⟨rfl, hs1⟩
  | false =>
    rw [hG] at cg
    by_cases hbig : 30 < nO
    · have hb : (30 : Int) < (nO : Int) := by omega
      clear hr ho hG ht hbig
      --@2
      go_enter Tryd.func4, Tryd.ntmps4
      go_wp2_with (first
        | (go_at_call 6; (with_reducible refine cg.mono ?_); rintro e w' ⟨rfl, rfl⟩)
        | (go_at_call 7; (with_reducible refine kw0.mono ?_); rintro e w1 ⟨rfl, hs1⟩))
      go_ret
      exact ⟨rfl, hs1⟩
    have hnb : ¬ ((30 : Int) < (nO : Int)) := by omega
    have HNO : Hid (nO ≤ 30) := hidb (by omega)
    have HI := hidb (great_in hr hG)
    have HT := hidb ht
    cases hT : fTab (vals ys) with
    | false =>
      have kn := code_fNew_no A2 n2 c2 ys 0 w hr (by have := HI.out.few; omega) HI.out.s1 hT
      have KA := fun W (s : Hid (Below w.heap.size w W)) => (awake15 W (TabDB.below HT.out s.out)).mono fun e w' h => (⟨h.1, hidb (belF_tr s.out h.2)⟩ : e = _ ∧ Hid (Below w.heap.size w w'))
      clear hr ho hG ht hbig kw0 hT
      --@3
      go_enter Tryd.func4, Tryd.ntmps4
      go_wp2_with (first
        | (go_at_call 6; (with_reducible refine cg.mono ?_); rintro e w' ⟨rfl, rfl⟩)
        | (go_at_call 9; (with_reducible refine kn.mono ?_); rintro e w2 ⟨rfl, hs2⟩; have HS2 := hidb hs2)
        | (go_at_call 7; (with_reducible refine (KA _ HS2).mono ?_); rintro e w5 ⟨rfl, hs5⟩))
      go_ret
      exact ⟨rfl, hs5.out⟩
    | true =>
      obtain ⟨i0, hi0, hz0, hz1, hz2⟩ := info_parts info_frame
      have hsz := fTab_sizes hT
      have HSZ := hidb hsz
      have HSZ2 := hidb (fOwns_sizes hsz)
      have HFO : Hid ((fOwns (vals ys)).length ≤ 120) := hidb (by rw [fOwns_length, vals_length, hr.len]; exact HI.out.few)
      have kn : Calls Tryd.prog 9 #[.slice A2 n2 c2] w fun e w' => ∃ q, e = .returned (.tuple #[.pointer (some ⟨q, 0, none⟩), .int .i64 0]) ∧ Hid (S13 w w' (some ⟨q, 0, none⟩) (fOwns (vals ys))) := (code_fNew A2 n2 c2 ys 0 w hr (by have := HI.out.few; omega) HI.out.s1 ht hT).mono fun e w' ⟨q, h1, h2, h3⟩ => ⟨q, h1, hidb ⟨h3, _, _, h2.o, Nat.le_refl _, Nat.le_refl _⟩⟩
      have HVO : Hid (∀ (xs : List Nat) (s : StV), wkFrames xs (fOwns (vals ys)) s = wkFrames xs (vals ys) s) := hidb (fun xs s => wkFrames_owns xs (vals ys) s)
      generalize fOwns (vals ys) = O at *
      have hLZ : frLaid [] = frZ := by unfold frLaid aStore; simp
      have KL : Hid (∀ W tp, Hid (S13 w W tp O) → Calls Tryd.prog 8 #[.slice (some ⟨W.heap.size, 0, none⟩) 0 0] (W.alloc (.cells #[] 46)) fun e w' => ∃ p g, e = .returned (.pointer (some ⟨p, 0, none⟩)) ∧ Hid (AT w w' p g 256 frZ tp O ∧ p < w'.heap.size ∧ g < w'.heap.size ∧ ∃ lo hi, TbO w' lo hi tp O ∧ hi ≤ g ∧ w.heap.size ≤ lo ∧ hi ≤ w'.heap.size)) := hidb (fun W tp s => by
        obtain ⟨X, hX⟩ : ∃ X, X = W.alloc (.cells #[] 46) := ⟨_, rfl⟩
        rw [← hX]
        have sX : S13 w X tp O := by rw [hX]; exact s.out.alloc _
        refine (t_laid (W := X) (c := 0) (us := []) (A := some ⟨W.heap.size, 0, none⟩) (n := 0) ⟨rfl, fun h => absurd h (by omega)⟩ (by omega)).mono ?_
        rintro e w' ⟨p, g, rfl, h2, h3⟩
        rw [hLZ] at h2
        obtain ⟨g1, lo, hi, g2, g3, g4⟩ := sX
        exact ⟨p, g, rfl, hidb ⟨AT.made2 ⟨g1, lo, hi, g2, g3, g4⟩ h2 h3, h2.ltp, h2.lt, lo, hi, g2.below (h3.mono g3), by have := h2.geg; omega, g4, by have := h3.size; omega⟩⟩)
      have KM0 : Hid (∀ W1 p g tp, Hid (AT w W1 p g 256 frZ tp O ∧ p < W1.heap.size ∧ g < W1.heap.size ∧ ∃ lo hi, TbO W1 lo hi tp O ∧ hi ≤ g ∧ w.heap.size ≤ lo ∧ hi ≤ W1.heap.size) → Hid (MSt w ((W1.alloc (.cells #[.int .i64 0, .int .i64 256, .int .i64 256] 25)).alloc (.cells #[] 50)) p g W1.heap.size frZ tp O 256 (some ⟨W1.heap.size + 1, 0, none⟩) 0 0 [])) := hidb (fun W1 p g tp h => by
        obtain ⟨h1, h2, h3, lo, hi, h4, h5, h6, h7⟩ := h.out
        obtain ⟨Y, hY⟩ : ∃ Y, Y = W1.alloc (.cells #[.int .i64 0, .int .i64 256, .int .i64 256] 25) := ⟨_, rfl⟩
        rw [← hY]
        have hbY : Below W1.heap.size W1 Y := by rw [hY]; exact belF_al (Below.refl _ _) _
        have hzY : Y.heap.size = W1.heap.size + 1 := by rw [hY]; simp
        have m0 : MSt w Y p g W1.heap.size frZ tp O 256 none 0 0 [] := ⟨belF_tr h1.bel hbY, h1.ar.below hbY (Nat.le_refl _), ⟨lo, hi, h4.below (hbY.mono h7), h5, h6, h7⟩, by rw [hY]; simp, by rw [hY]; simp, by rw [hY]; simp, by rw [hY]; simp [go_sem], h2, h3, World.ownsRow_nil _ _ _ _, rfl⟩
        have m1 := m0.step (belF_al (Below.refl Y.heap.size Y) (.cells #[] 50))
        exact hidb ⟨m1.bel, m1.ar, m1.tb, m1.q0, m1.q1, m1.q2, m1.fz, m1.pq, m1.gq, own_empty' _ _ _ _ _ (by rw [hzY]) (by rw [hzY]; simp), rfl⟩)
      have KP : Hid (∀ W p g qs xs tp sp A c L f ys' at' no, Hid (MSt w W p g qs xs tp O sp A (List.length L) c L) → Hid (Pushed O xs sp L) → in64 f → frPush xs O 0 sp f (pLink sp) = (ys', at', no) → Calls Tryd.prog 16 #[.pointer (some ⟨p, 0, none⟩), .pointer tp, .int .i64 0, .int .i64 sp, .int .i64 f, .int .i64 (pLink sp)] W fun e w' => e = .returned (.tuple #[.int .i64 at', .int .i64 no]) ∧ Hid (MSt w w' p g qs ys' tp O sp A (List.length L) c L)) := hidb (fun W p g qs xs tp sp A c L f ys' at' no hM hP hf hv => by
        obtain ⟨lo, hi, h1, h2, h3, h4⟩ := hM.out.tb
        have hlt := hM.out.lt
        have c := code_frpush hM.out.ar h1 (by omega) HSZ2.out 0 sp f (pLink sp) (by unfold in64; omega) (by have := hP.out.lo; have := hP.out.hi; unfold in64; omega) (by have := hP.out.lo; have := hP.out.hi; unfold pLink in64; split <;> omega)
        rw [hv] at c
        exact c.mono fun e w' ⟨e1, e2, e3⟩ => ⟨e1, hidb (hM.out.wrote e2 e3)⟩)
      have KF : Hid (∀ W p g qs xs sp A c L tp, Hid (MSt w W p g qs xs tp O sp A (List.length L) c L) → Hid (Pushed O xs sp L) → Calls Tryd.prog 11 #[.pointer (some ⟨p, 0, none⟩), .pointer tp, .agg #[.int .i64 0, .int .i64 256, .int .i64 sp]] W fun e w' => ∃ G kG, e = .returned (.tuple #[.slice G (List.length L) kG, .int .i64 0]) ∧ Hid (MSt w w' p g qs xs tp O sp A (List.length L) c L) ∧ Hid (FrRow w' w'.heap.size G (List.length L) L) ∧ Below W.heap.size W w') := hidb (fun W p g qs xs sp A c L tp hM hP => (t_wframes (hidb hM.out.at_) HSZ2.out hP.out.wd ⟨0, 256, sp⟩ (by unfold in64; simp only; omega) (by unfold in64; simp only; omega) (by have := hP.out.lo; have := hP.out.hi; unfold in64; simp only; omega) L 0 hP.out.frames).mono fun e w' ⟨G, kG, e1, e2, e3, e4⟩ => ⟨G, kG, e1, hidb (hM.out.step e4.out), e3, e4.out⟩)
      have HO := hidb ho
      have HZ := hidb hz
      have HA := hidb ha
      have HK := hidb hk
      have KA := fun W (s : Hid (Below w.heap.size w W)) => (awake15 W (TabDB.below HT.out s.out)).mono fun e w' h => (⟨h.1, hidb (belF_tr s.out h.2)⟩ : e = _ ∧ Hid (Below w.heap.size w w'))
      have KAA := hidb KA
      have KSn : Hid (∀ W p g qs xs tp sp A c L q, Hid (MSt w W p g qs xs tp O sp A (List.length L) c L) → aIn 256 at' 1 = false → Calls Tryd.prog 19 #[.pointer (some ⟨p, 0, none⟩), .int .i64 at', .slice (some ⟨q, 0, none⟩) 1 1] W fun e w' => e = .returned (.int .i64 2) ∧ Below W.heap.size W w') := hidb (fun W p g qs xs tp sp A c L q hM hno => code_astore_no (.pointer (some ⟨p, 0, none⟩)) 256 at' (some ⟨q, 0, none⟩) 1 1 W (by omega) (by omega) (code_awords p _ _ _ _ (hM.out.ar.alloc _).cell) HA.out (by simpa using hno))
      have KSy : Hid (∀ W p g qs xs tp sp A c L q (k : Nat), Hid (MSt w W p g qs xs tp O sp A (List.length L) c L) → k + 1 ≤ 256 → W.cell? ⟨q, 0, none⟩ = some (.int .u64 (spoil : Int)) → Calls Tryd.prog 19 #[.pointer (some ⟨p, 0, none⟩), .int .i64 (k : Int), .slice (some ⟨q, 0, none⟩) 1 1] W fun e w' => e = .returned (.int .i64 0) ∧ Hid (MSt w w' p g qs (aStore xs k [spoil]) tp O sp A (List.length L) c L)) := hidb (fun W p g qs xs tp sp A c L q k hM hk hc => (code_astore k (some ⟨q, 0, none⟩) 1 1 (ys := [spoil]) hM.out.ar (sl_one hc) hk).mono fun e w' ⟨e1, e2, e3⟩ => ⟨e1, hidb (hM.out.wrote e2 e3)⟩)
      have KRw : Hid (∀ W p g qs xs tp sp A c L, xs.length = 256 → Hid (MSt w W p g qs xs tp O sp A (List.length L) c L) → Calls Tryd.prog 20 #[.pointer (some ⟨p, 0, none⟩), .int .i64 0, .int .i64 256] W fun e w' => ∃ D d, e = .returned (.tuple #[.slice D 256 d, .int .i64 0]) ∧ Hid (MSt w w' p g qs xs tp O sp A (List.length L) c L) ∧ Hid (AW w p g xs tp O D w')) := hidb (fun W p g qs xs tp sp A c L hx hM => by
        have h1 := code_arow_ok 0 256 hM.out.ar (by omega)
        rw [show aRow xs 0 256 = xs by unfold aRow; rw [List.drop_zero, List.take_of_length_le (by omega)]] at h1
        refine Calls.mono h1 ?_
        rintro e w' ⟨D, d, rfl, ho, hb⟩
        have hd := Sl.of_own ho
        rw [hx] at hd
        exact ⟨D, d, by rw [hx], hidb (hM.out.step hb), hidb ⟨hM.out.at_.step hb, hd⟩⟩)
      have K3 : Hid (∀ W p g xs tp D sp L no, Wd xs → in64 sp → wkFrames xs O ⟨0, 256, sp⟩ = (L, no) → Hid (AW w p g xs tp O D W) → Calls Tryd.prog 11 #[.pointer (some ⟨p, 0, none⟩), .pointer tp, .agg #[.int .i64 0, .int .i64 256, .int .i64 sp]] W fun e w' => ∃ A c, e = .returned (.tuple #[.slice A L.length c, .int .i64 no]) ∧ Hid (AW w p g xs tp O D w') ∧ Hid (FrRow w' w'.heap.size A L.length L) ∧ Hid (Below W.heap.size W w')) := hidb (fun W p g xs tp D sp L no hx hsp hv st => (t_wframes (hidb st.out.1) HSZ2.out hx ⟨0, 256, sp⟩ (by unfold in64; simp only; omega) (by unfold in64; simp only; omega) hsp L no hv).mono fun e w' ⟨A', c', e1, e2, e3, e4⟩ => ⟨A', c', e1, hidb ⟨e2.out, (st.out.2.below e4.out).more e4.out.size⟩, e3, e4⟩)
      have K4 : Hid (∀ W p g xs tp D d sp L no, Wd xs → in64 sp → wkFrames xs O ⟨0, 256, sp⟩ = (L, no) → Hid (AW w p g xs tp O D W) → Calls Tryd.prog 12 #[.slice D 256 d, .slice A2 n2 c2, .agg #[.int .i64 0, .int .i64 256, .int .i64 sp]] W fun e w' => ∃ A c, e = .returned (.tuple #[.slice A L.length c, .int .i64 no]) ∧ Hid (AW w p g xs tp O D w') ∧ Hid (FrRow w' w'.heap.size A L.length L) ∧ Hid (Below W.heap.size W w')) := hidb (fun W p g xs tp D d sp L no hx hsp hv st => a_rframes HI.out st HSZ.out hx ⟨0, 256, sp⟩ (by unfold in64; simp only; omega) (by unfold in64; simp only; omega) hsp L no (by rw [← HVO.out]; exact hv))
      clear hr ho hG ht hbig kw0 hT hsz hz ha hk KA hmO hm2
      go_enter Tryd.func4, Tryd.ntmps4
      go_wp2_with (first
        | (go_at_call 6; (with_reducible refine cg.mono ?_); rintro e w' ⟨rfl, rfl⟩)
        | (go_at_call 9; (with_reducible refine kn.mono ?_); rintro e w2 ⟨tb, rfl, hs2⟩)
        | (go_at_call 8; (with_reducible refine (KL.out _ _ hs2).mono ?_); rintro e w3 ⟨p, g, rfl, hs3⟩; have HM0 := KM0.out _ _ _ _ hs3))
      clear cg kn hs2 hs3
      go_loopw [13, 14, 15, 16, 17] (fun v13 v14 v15 _ _ wr => ∃ (j : Nat) (xs : List Nat) (sp : Int) (L : List FrV) (A : Option Addr) (c : Nat), j ≤ nO ∧ v13 = .int .i64 (pLink sp) ∧ v14 = .slice A L.length c ∧ v15 = .int .i64 j ∧ Hid (MSt w wr p g w3.heap.size xs (some ⟨tb, 0, none⟩) O sp A L.length c L) ∧ Hid (Pushed O xs sp L)) (fun _ _ v15 _ _ _ => (nO - intOf v15).toNat)
      case atStart => exact ⟨0, frZ, 256, [], _, 0, by omega, rfl, rfl, rfl, HM0, hidb (frZ_pushed O)⟩
      case round =>
        obtain ⟨j, xs, sp, L, A, c, hj, rfl, rfl, rfl, HM, HP⟩ := hrel
        obtain ⟨qs, hqs⟩ : ∃ qs, w3.heap.size = qs := ⟨_, rfl⟩
        rw [hqs] at HM
        have hno := HNO.out
        by_cases hlt : j < nO
        · obtain ⟨b, off, f, rfl, hx, hc⟩ := (HO.out.below HM.out.bel).int_ hlt
          have HF := hidb (HZ.out f (List.mem_of_getElem? hx))
          have hbl : b < w.heap.size := by
            obtain ⟨b', off', e1, e2, _⟩ := HO.out.2 (by omega)
            injection e1 with e1; injection e1 with e1; omega
          have HCF : Hid (∀ W, Below w.heap.size w W → W.cell? ⟨b, off + j, none⟩ = some (.int .i64 f)) := hidb (fun W hb => by
            have h1 := (HM.out.bel.cell (p := ⟨b, off + j, none⟩) hbl)
            exact ((hb.cell (p := ⟨b, off + j, none⟩) hbl).trans h1.symm).trans hc)
          have q2 := HM.out.q2
          have hj0 : (0 : Int) ≤ (j : Int) := by omega
          have hj1 : (j : Int) < (nO : Int) := by omega
          obtain ⟨ys', a', no, hv⟩ : ∃ ys' a' no, frPush xs O 0 sp f (pLink sp) = (ys', a', no) := ⟨_, _, _, rfl⟩
          have kp := fun W h => KP.out W p g qs xs (some ⟨tb, 0, none⟩) sp A c L f ys' a' no h HP HF.out hv
          have HD := hidb (HM.out.step (belF_dr (Below.refl _ _)))
          obtain ⟨pl, hpl⟩ : ∃ pl, pLink sp = pl := ⟨_, rfl⟩
          have HPL := hidb hpl
          rw [hpl] at kp
          rw [hpl, hqs]
          have HV := hidb hv
          clear hx hv hpl hqs
          go_upto_region 13 with fail
          go_cut [16, 17] from 52 to 64 (fun v16 v17 wx => v16 = .int .i64 a' ∧ v17 = .int .i64 no ∧ Hid (MSt w wx p g qs ys' (some ⟨tb, 0, none⟩) O sp A L.length c L))
          case first =>
            --@4
            have hc0 : wr.cell? ⟨b, off + j, none⟩ = some (.int .i64 f) := hc
            (first | go_region_held3 (fun W => W.cell? ⟨qs, 2, none⟩ = some (.int .i64 sp) ∧ W.cell? ⟨b, off + j, none⟩ = some (.int .i64 f))
              ((go_keep; done))
              (first
                | (go_at_call 16; (with_reducible refine (kp _ HD).mono ?_); rintro e w1 ⟨rfl, hM1⟩; have hq21 := hM1.out.q2; have hc1 := HCF.out w1 hM1.out.bel)) | fail)
            all_goals (go_wp2_with fail; go_meet; exact ⟨rfl, rfl, hM1⟩)
          case rest =>
            obtain ⟨rfl, rfl, HM1⟩ := hcut
            clear HD kp q2 hc
            by_cases hn0 : no = 0
            · subst hn0
              obtain ⟨HP1, ha256⟩ := HP.out.next HSZ2.out (by have := HFO.out; omega) HV.out
              have HP1 := hidb HP1
              rw [HPL.out] at HP1
              have HPA : Hid (pLink a' = a') := hidb (by unfold pLink; rw [if_neg (by omega)])
              have hq2 := HM1.out.q2
              have hfz := HM1.out.fz
              have hcf := HCF.out wc HM1.out.bel
              have HLIT := hidb (frlit_own wc ⟨a', f, pl⟩ (qs + 1) wc.heap.size rfl HM1.out.lt)
              have HLE := hidb (belF_al (Below.refl wc.heap.size wc) (.cells #[.int .i64 a', .int .i64 f, .int .i64 pl] 50))
              have HACC := hidb (HM1.out.step HLE.out).row
              have HLF := hidb (HP.out.few HSZ2.out)
              have HZX := hidb (Nat.le_trans HM1.out.lt HLE.out.size)
              clear ha256
              --@5
              go_wp2_with (at_builtin; refine wpList_append_rowN _ rfl _ _ 36 rfl (qs + 1) 50 i0 (.agg #[.int .i64 0, .int .i64 0, .int .i64 0]) 3 24 Tryd.underlying36 hi0 hz0 hz1 hz2 rfl (by decide) (.slice A L.length c) L.length (cellsAll frcells L) rfl HACC.out HZX.out (some ⟨wc.heap.size, 0, none⟩) 1 1 (frcells ⟨a', f, pl⟩) rfl rfl (fun h => by cases h) (own_cellsAt HLIT.out) (by intro u hu; exact frcells_one [⟨a', f, pl⟩] u (by simpa [cellsAll] using hu)) (by have := HLF.out; unfold maxLen; omega) (by have := HLF.out; omega) ?_; go_loud (intro A4 c4 w4 hown4 hg4; have HM4 : Hid (MSt w w4 p g qs ys' (some ⟨tb, 0, none⟩) O sp A4 (L.length + 1) c4 (L ++ [⟨a', f, pl⟩])) := hidb (HM1.out.more HLE.out hg4 (by rw [cellsAll_append]; exact hown4) (by simp)); have q24 := HM4.out.q2; have z24 := HM4.out.fz; clear hown4 hg4))
              have HM5 := hidb (HM4.out.set a')
              go_roundw
              case rel => exact ⟨j + 1, ys', a', L ++ [⟨a', f, pl⟩], A4, c4, by omega, by rw [HPA.out], by simp, by go_num, by rw [List.length_append]; exact HM5, HP1⟩
              case measure => simp [intOf]; omega
            · have hnb : (no != 0) = true := by simpa using hn0
              have HMX : Hid (MSt w wc p g qs xs (some ⟨tb, 0, none⟩) O sp A L.length c L) := hidb (by have e := frPush_bad HV.out hn0; rw [HPL.out] at *; rw [← e]; exact HM1.out)
              clear HM HM1 hn0
              have HM := HMX
              clear HMX HCF
              --@6
              obtain ⟨hsp0, hsp1⟩ : 0 ≤ sp ∧ sp ≤ 256 := ⟨HP.out.lo, HP.out.hi⟩
              have q0 := HM.out.q0
              have q1 := HM.out.q1
              have q2 := HM.out.q2
              have kf := KF.out _ _ _ _ _ _ _ _ _ _ HM HP
              go_wp2_with (first
                | (go_at_call 11; (with_reducible refine kf.mono ?_); rintro e w5 ⟨G, kG, rfl, hM5, hG5, hb5⟩; have q05 := hM5.out.q0; have q15 := hM5.out.q1; have q25 := hM5.out.q2))
              have HX5 : Hid (∀ W, Below w5.heap.size w5 W → W.cell? ⟨qs, 0, none⟩ = some (.int .i64 0) ∧ W.cell? ⟨qs, 1, none⟩ = some (.int .i64 256) ∧ W.cell? ⟨qs, 2, none⟩ = some (.int .i64 sp)) := hidb (fun W hb => by have h := hM5.out.step hb; exact ⟨h.q0, h.q1, h.q2⟩)
              have KSm : Hid (∀ W, Below w5.heap.size w5 W → Calls Tryd.prog 13 #[.slice G L.length kG, .slice A L.length c] W fun e w' => e = .returned (.bool true) ∧ Below W.heap.size W w') := hidb (fun W hb => by
                have hll := HP.out.few HSZ2.out
                have h := ref_frsame G A L.length kG L.length c L L W w5.heap.size W.heap.size (hG5.out.below hb) (FrRow.of_own (hM5.out.step hb).row rfl) (by omega) (by omega)
                rw [decide_eq_true (rfl : L = L)] at h
                exact h.mono fun e w' h => ⟨h.1, by obtain ⟨q, h2⟩ := h.2; rw [h2]; exact belowN (Below.refl _ _) q⟩)
              have KU : Hid (∀ W, Calls Tryd.prog 17 #[.agg #[.int .i64 0, .int .i64 256, .int .i64 sp]] W fun e w' => e = .returned (.int .i64 (256 - sp)) ∧ Below W.heap.size W w') := hidb (fun W => by
                have h := code_wused ⟨0, 256, sp⟩ (by unfold StNear; simp only; omega) W
                simp only at h
                rw [show max ((0 : Int) + 256 - sp) 0 = 256 - sp by omega] at h
                exact h)
              have KRm : Hid (∀ W, Calls Tryd.prog 18 #[.agg #[.int .i64 0, .int .i64 256, .int .i64 sp]] W fun e w' => e = .returned (.int .i64 sp) ∧ Below W.heap.size W w') := hidb (fun W => by
                have h := code_wroom ⟨0, 256, sp⟩ (by unfold StNear; simp only; omega) W
                simp only at h
                rw [show max (sp - (0 : Int)) 0 = sp by omega] at h
                exact h)
              have z256 : (256 - sp + sp : Int) = 256 := by omega
              have zsp : (sp != sp) = false := by simp
              clear q0 q1 q2 q05 q15 q25 kf
              (first | go_region_held3 (fun W => W.cell? ⟨qs, 0, none⟩ = some (.int .i64 0) ∧ W.cell? ⟨qs, 1, none⟩ = some (.int .i64 256) ∧ W.cell? ⟨qs, 2, none⟩ = some (.int .i64 sp))
                (first | ((with_reducible refine HX5.out _ ?_); (repeat (first | with_reducible exact Below.refl _ _ | with_reducible exact Hid.out (by assumption) | with_reducible apply belF_al | with_reducible apply belF_dr)); done) | (go_keep; done))
                (first
                  | (go_at_call 13; (with_reducible refine (KSm.out _ (by (repeat (first | with_reducible exact Below.refl _ _ | with_reducible exact Hid.out (by assumption) | with_reducible apply belF_al | with_reducible apply belF_dr)))).mono ?_); rintro e u1 ⟨rfl, hv1⟩; have HV1 : Hid (Below w5.heap.size w5 u1) := hidb (belF_tr (by (repeat (first | with_reducible exact Below.refl _ _ | with_reducible exact Hid.out (by assumption) | with_reducible apply belF_al | with_reducible apply belF_dr))) hv1); have hcu1 := HX5.out u1 HV1.out; clear hv1)
                  | (go_at_call 17; (with_reducible refine (KU.out _).mono ?_); rintro e u2 ⟨rfl, hv2⟩; have HV2 : Hid (Below w5.heap.size w5 u2) := hidb (belF_tr (by (repeat (first | with_reducible exact Below.refl _ _ | with_reducible exact Hid.out (by assumption) | with_reducible apply belF_al | with_reducible apply belF_dr))) hv2); have hcu2 := HX5.out u2 HV2.out; clear hv2)
                  | (go_at_call 18; (with_reducible refine (KRm.out _).mono ?_); rintro e u3 ⟨rfl, hv3⟩; have HV3 : Hid (Below w5.heap.size w5 u3) := hidb (belF_tr (by (repeat (first | with_reducible exact Below.refl _ _ | with_reducible exact Hid.out (by assumption) | with_reducible apply belF_al | with_reducible apply belF_dr))) hv3); have hcu3 := HX5.out u3 HV3.out; clear hv3)) | fail)
              have HMa := hidb (hM5.out.step HV3.out)
              have HPP := HP
              clear hG5 hM5 HX5 KSm KU KRm z256 zsp HV1 HV2 HV3
              cases hin : aIn 256 at' 1 with
              | false =>
                have ksn := fun W q h => KSn.out W p g qs xs (some ⟨tb, 0, none⟩) sp A c L q h hin
                have kaw := fun W h => KAA.out W h
                clear hin
                all_goals go_wp2_with (first
                  | (go_at_call 19; (with_reducible refine (ksn _ _ (hidb (HMa.out.step (belF_al (Below.refl _ _) _)))).mono ?_); rintro e w6 ⟨rfl, hb6⟩; have hs6 : Hid (Below w.heap.size w w6) := hidb (belF_tr (HMa.out.step (belF_al (Below.refl _ _) _)).bel hb6))
                  | (go_at_call 7; (with_reducible refine (kaw _ hs6).mono ?_); rintro e w7 ⟨rfl, hs7⟩))
                go_ret
                exact ⟨rfl, hs7.out⟩
              | true =>
                obtain ⟨k, hk, hk2⟩ : ∃ k : Nat, at' = (k : Int) ∧ k + 1 ≤ 256 := ⟨at'.toNat, by unfold aIn at hin; have := of_decide_eq_true hin; omega, by unfold aIn at hin; have := of_decide_eq_true hin; omega⟩
                have hxl : (aStore xs k [spoil]).length = 256 := by rw [aStore_length _ _ _ (by rw [HPP.out.len]; simpa using hk2)]; exact HPP.out.len
                have HWD : Hid (Wd (aStore xs k [spoil])) := hidb (aStore_wd HPP.out.wd (fun z hz => by rw [List.mem_singleton.1 hz]; exact HK.out) k)
                have HSI : Hid (in64 sp) := hidb (by unfold in64; omega)
                obtain ⟨xs', hxs⟩ : ∃ xs', aStore xs k [spoil] = xs' := ⟨_, rfl⟩
                rw [hxs] at hxl HWD
                have ksy := fun W q h => KSy.out W p g qs xs (some ⟨tb, 0, none⟩) sp A c L q k h hk2
                rw [hxs] at ksy
                rw [hk] at *
                obtain ⟨L2, no2, hv2⟩ : ∃ L2 no2, wkFrames xs' O ⟨0, 256, sp⟩ = (L2, no2) := ⟨_, _, rfl⟩
                have HL2 : Hid (L2.length ≤ 256) := hidb (by rw [← hxl]; exact wkFrames_len HSZ2.out _ _ _ hv2)
                have krw := fun W h => KRw.out W p g qs xs' (some ⟨tb, 0, none⟩) sp A c L hxl h
                have k3 := fun W D h => K3.out W p g xs' (some ⟨tb, 0, none⟩) D sp L2 no2 HWD.out HSI.out hv2 h
                have k4 := fun W D d h => K4.out W p g xs' (some ⟨tb, 0, none⟩) D d sp L2 no2 HWD.out HSI.out hv2 h
                have kaw := fun W h => KAA.out W h
                have e00 : (no2 == no2) = true := by simp
                clear hin hk hxs hv2 hxl
                all_goals go_wp2_with (first
                  | (go_at_call 19; (with_reducible refine (ksy _ _ (hidb (HMa.out.step (belF_al (Below.refl _ _) _))) (by simp)).mono ?_); rintro e w6 ⟨rfl, hM6⟩)
                  | (go_at_call 20; (with_reducible refine (krw _ hM6).mono ?_); rintro e w7 ⟨D, d, rfl, hM7, st7⟩; have q07 := hM7.out.q0; have q17 := hM7.out.q1; have q27 := hM7.out.q2; have hl7 := hM7.out.lt)
                  | (go_at_call 11; (with_reducible refine (k3 _ _ st7).mono ?_); rintro e w8 ⟨G8, c8, rfl, st8, hG8, hb8⟩; have q08 := (hb8.out.cell (p := ⟨qs, 0, none⟩) hl7).trans q07; have q18 := (hb8.out.cell (p := ⟨qs, 1, none⟩) hl7).trans q17; have q28 := (hb8.out.cell (p := ⟨qs, 2, none⟩) hl7).trans q27)
                  | (go_at_call 12; (with_reducible refine (k4 _ _ _ st8).mono ?_); rintro e w9 ⟨G9, c9, rfl, st9, hG9, hb9⟩; have ksm := ref_frsame G8 G9 L2.length c8 L2.length c9 L2 L2 w9 w8.heap.size w9.heap.size (hG8.out.below hb9.out) hG9.out (by have := HL2.out; omega) (by have := HL2.out; omega); rw [decide_eq_true (rfl : L2 = L2)] at ksm)
                  | (go_at_call 13; (with_reducible refine ksm.mono ?_); rintro e wa ⟨rfl, qa, rfl⟩; have hsa := hidb (belowN st9.out.1.bel qa))
                  | (go_at_call 7; (with_reducible refine (kaw _ hsa).mono ?_); rintro e wb ⟨rfl, hsb⟩))
                go_ret
                exact ⟨rfl, hsb.out⟩
        · obtain rfl : j = nO := by omega
          --@7
          rw [hqs]
          obtain ⟨hsp0, hsp1⟩ : 0 ≤ sp ∧ sp ≤ 256 := ⟨HP.out.lo, HP.out.hi⟩
          have q0 := HM.out.q0
          have q1 := HM.out.q1
          have q2 := HM.out.q2
          have kf := KF.out _ _ _ _ _ _ _ _ _ _ HM HP
          go_wp2_with (first
            | (go_at_call 11; (with_reducible refine kf.mono ?_); rintro e w5 ⟨G, kG, rfl, hM5, hG5, hb5⟩; have q05 := hM5.out.q0; have q15 := hM5.out.q1; have q25 := hM5.out.q2))
          have HX5 : Hid (∀ W, Below w5.heap.size w5 W → W.cell? ⟨qs, 0, none⟩ = some (.int .i64 0) ∧ W.cell? ⟨qs, 1, none⟩ = some (.int .i64 256) ∧ W.cell? ⟨qs, 2, none⟩ = some (.int .i64 sp)) := hidb (fun W hb => by have h := hM5.out.step hb; exact ⟨h.q0, h.q1, h.q2⟩)
          have KSm : Hid (∀ W, Below w5.heap.size w5 W → Calls Tryd.prog 13 #[.slice G L.length kG, .slice A L.length c] W fun e w' => e = .returned (.bool true) ∧ Below W.heap.size W w') := hidb (fun W hb => by
            have hll := HP.out.few HSZ2.out
            have h := ref_frsame G A L.length kG L.length c L L W w5.heap.size W.heap.size (hG5.out.below hb) (FrRow.of_own (hM5.out.step hb).row rfl) (by omega) (by omega)
            rw [decide_eq_true (rfl : L = L)] at h
            exact h.mono fun e w' h => ⟨h.1, by obtain ⟨q, h2⟩ := h.2; rw [h2]; exact belowN (Below.refl _ _) q⟩)
          have KU : Hid (∀ W, Calls Tryd.prog 17 #[.agg #[.int .i64 0, .int .i64 256, .int .i64 sp]] W fun e w' => e = .returned (.int .i64 (256 - sp)) ∧ Below W.heap.size W w') := hidb (fun W => by
            have h := code_wused ⟨0, 256, sp⟩ (by unfold StNear; simp only; omega) W
            simp only at h
            rw [show max ((0 : Int) + 256 - sp) 0 = 256 - sp by omega] at h
            exact h)
          have KRm : Hid (∀ W, Calls Tryd.prog 18 #[.agg #[.int .i64 0, .int .i64 256, .int .i64 sp]] W fun e w' => e = .returned (.int .i64 sp) ∧ Below W.heap.size W w') := hidb (fun W => by
            have h := code_wroom ⟨0, 256, sp⟩ (by unfold StNear; simp only; omega) W
            simp only at h
            rw [show max (sp - (0 : Int)) 0 = sp by omega] at h
            exact h)
          have z256 : (256 - sp + sp : Int) = 256 := by omega
          have zsp : (sp != sp) = false := by simp
          clear q0 q1 q2 q05 q15 q25 kf
          (first | go_region_held3 (fun W => W.cell? ⟨qs, 0, none⟩ = some (.int .i64 0) ∧ W.cell? ⟨qs, 1, none⟩ = some (.int .i64 256) ∧ W.cell? ⟨qs, 2, none⟩ = some (.int .i64 sp))
            (first | ((with_reducible refine HX5.out _ ?_); (repeat (first | with_reducible exact Below.refl _ _ | with_reducible exact Hid.out (by assumption) | with_reducible apply belF_al | with_reducible apply belF_dr)); done) | (go_keep; done))
            (first
              | (go_at_call 13; (with_reducible refine (KSm.out _ (by (repeat (first | with_reducible exact Below.refl _ _ | with_reducible exact Hid.out (by assumption) | with_reducible apply belF_al | with_reducible apply belF_dr)))).mono ?_); rintro e u1 ⟨rfl, hv1⟩; have HV1 : Hid (Below w5.heap.size w5 u1) := hidb (belF_tr (by (repeat (first | with_reducible exact Below.refl _ _ | with_reducible exact Hid.out (by assumption) | with_reducible apply belF_al | with_reducible apply belF_dr))) hv1); have hcu1 := HX5.out u1 HV1.out; clear hv1)
              | (go_at_call 17; (with_reducible refine (KU.out _).mono ?_); rintro e u2 ⟨rfl, hv2⟩; have HV2 : Hid (Below w5.heap.size w5 u2) := hidb (belF_tr (by (repeat (first | with_reducible exact Below.refl _ _ | with_reducible exact Hid.out (by assumption) | with_reducible apply belF_al | with_reducible apply belF_dr))) hv2); have hcu2 := HX5.out u2 HV2.out; clear hv2)
              | (go_at_call 18; (with_reducible refine (KRm.out _).mono ?_); rintro e u3 ⟨rfl, hv3⟩; have HV3 : Hid (Below w5.heap.size w5 u3) := hidb (belF_tr (by (repeat (first | with_reducible exact Below.refl _ _ | with_reducible exact Hid.out (by assumption) | with_reducible apply belF_al | with_reducible apply belF_dr))) hv3); have hcu3 := HX5.out u3 HV3.out; clear hv3)) | fail)
          have HMa := hidb (hM5.out.step HV3.out)
          have HPP := HP
          clear hG5 hM5 HX5 KSm KU KRm z256 zsp HV1 HV2 HV3
          cases hin : aIn 256 at' 1 with
          | false =>
            have ksn := fun W q h => KSn.out W p g qs xs (some ⟨tb, 0, none⟩) sp A c L q h hin
            have kaw := fun W h => KAA.out W h
            clear hin
            all_goals go_wp2_with (first
              | (go_at_call 19; (with_reducible refine (ksn _ _ (hidb (HMa.out.step (belF_al (Below.refl _ _) _)))).mono ?_); rintro e w6 ⟨rfl, hb6⟩; have hs6 : Hid (Below w.heap.size w w6) := hidb (belF_tr (HMa.out.step (belF_al (Below.refl _ _) _)).bel hb6))
              | (go_at_call 7; (with_reducible refine (kaw _ hs6).mono ?_); rintro e w7 ⟨rfl, hs7⟩))
            go_ret
            exact ⟨rfl, hs7.out⟩
          | true =>
            obtain ⟨k, hk, hk2⟩ : ∃ k : Nat, at' = (k : Int) ∧ k + 1 ≤ 256 := ⟨at'.toNat, by unfold aIn at hin; have := of_decide_eq_true hin; omega, by unfold aIn at hin; have := of_decide_eq_true hin; omega⟩
            have hxl : (aStore xs k [spoil]).length = 256 := by rw [aStore_length _ _ _ (by rw [HPP.out.len]; simpa using hk2)]; exact HPP.out.len
            have HWD : Hid (Wd (aStore xs k [spoil])) := hidb (aStore_wd HPP.out.wd (fun z hz => by rw [List.mem_singleton.1 hz]; exact HK.out) k)
            have HSI : Hid (in64 sp) := hidb (by unfold in64; omega)
            obtain ⟨xs', hxs⟩ : ∃ xs', aStore xs k [spoil] = xs' := ⟨_, rfl⟩
            rw [hxs] at hxl HWD
            have ksy := fun W q h => KSy.out W p g qs xs (some ⟨tb, 0, none⟩) sp A c L q k h hk2
            rw [hxs] at ksy
            rw [hk] at *
            obtain ⟨L2, no2, hv2⟩ : ∃ L2 no2, wkFrames xs' O ⟨0, 256, sp⟩ = (L2, no2) := ⟨_, _, rfl⟩
            have HL2 : Hid (L2.length ≤ 256) := hidb (by rw [← hxl]; exact wkFrames_len HSZ2.out _ _ _ hv2)
            have krw := fun W h => KRw.out W p g qs xs' (some ⟨tb, 0, none⟩) sp A c L hxl h
            have k3 := fun W D h => K3.out W p g xs' (some ⟨tb, 0, none⟩) D sp L2 no2 HWD.out HSI.out hv2 h
            have k4 := fun W D d h => K4.out W p g xs' (some ⟨tb, 0, none⟩) D d sp L2 no2 HWD.out HSI.out hv2 h
            have kaw := fun W h => KAA.out W h
            have e00 : (no2 == no2) = true := by simp
            clear hin hk hxs hv2 hxl
            all_goals go_wp2_with (first
              | (go_at_call 19; (with_reducible refine (ksy _ _ (hidb (HMa.out.step (belF_al (Below.refl _ _) _))) (by simp)).mono ?_); rintro e w6 ⟨rfl, hM6⟩)
              | (go_at_call 20; (with_reducible refine (krw _ hM6).mono ?_); rintro e w7 ⟨D, d, rfl, hM7, st7⟩; have q07 := hM7.out.q0; have q17 := hM7.out.q1; have q27 := hM7.out.q2; have hl7 := hM7.out.lt)
              | (go_at_call 11; (with_reducible refine (k3 _ _ st7).mono ?_); rintro e w8 ⟨G8, c8, rfl, st8, hG8, hb8⟩; have q08 := (hb8.out.cell (p := ⟨qs, 0, none⟩) hl7).trans q07; have q18 := (hb8.out.cell (p := ⟨qs, 1, none⟩) hl7).trans q17; have q28 := (hb8.out.cell (p := ⟨qs, 2, none⟩) hl7).trans q27)
              | (go_at_call 12; (with_reducible refine (k4 _ _ _ st8).mono ?_); rintro e w9 ⟨G9, c9, rfl, st9, hG9, hb9⟩; have ksm := ref_frsame G8 G9 L2.length c8 L2.length c9 L2 L2 w9 w8.heap.size w9.heap.size (hG8.out.below hb9.out) hG9.out (by have := HL2.out; omega) (by have := HL2.out; omega); rw [decide_eq_true (rfl : L2 = L2)] at ksm)
              | (go_at_call 13; (with_reducible refine ksm.mono ?_); rintro e wa ⟨rfl, qa, rfl⟩; have hsa := hidb (belowN st9.out.1.bel qa))
              | (go_at_call 7; (with_reducible refine (kaw _ hsa).mono ?_); rintro e wb ⟨rfl, hsb⟩))
            go_ret
            exact ⟨rfl, hsb.out⟩
theorem walkMeets_int (A2 : Option Addr) (n2 c2 : Nat) (ys : List FnV) (AO : Option Addr) (nO cO : Nat) (zs : List Int) (at' : Int) (spoil : Int) (w : World) (hr : FnRow w 0 w.heap.size A2 n2 ys) (hm2 : n2 ≤ maxLen) (ho : Sl w w.heap.size AO nO (zs.map iv)) (hmO : nO ≤ maxLen) (hz : ∀ z ∈ zs, in64 z) (ha : in64 at') (hk : (Lit.int .u64 spoil).wf = true) (ht : TabDB w) :
    Calls Tryd.prog 4 #[.slice A2 n2 c2, .slice AO nO cO, .int .i64 at', .int .u64 spoil] w fun e w' => e = .returned (.bool true) ∧ Below w.heap.size w w' := by
  obtain ⟨h4, h5⟩ := words_nat [spoil] (fun x hx => by rw [List.mem_singleton.1 hx]; exact hk)
  have e : (spoil.toNat : Int) = spoil := by simpa [wv] using h4
  rw [← e]
  exact walkMeets_any A2 n2 c2 ys AO nO cO zs at' spoil.toNat w hr hm2 ho hmO hz ha (h5 _ (by simp)) ht
section
variable {H : Type} {enc : TypeId × Value → H} {W : World} {sp : Nat → Bool} {hd : Bool}
/-- Numbers that came in. -/
theorem read_order {v : Value} {d : DataW H} {ps : List MemPlace} (h : DataW.Trod enc Tryd.prog W 0 sp hd 45 v d ps) :
    ∃ (A : Option Addr) (len cap : Nat) (l : List Int), v.cells.toList = [.slice A len cap] ∧ len ≤ maxLen ∧ (Sl W W.heap.size A len (l.map iv) ∧ ∀ z ∈ l, in64 z) := by
  obtain ⟨fuel, hf⟩ := h
  obtain ⟨A, len, cap, zs, e1, hlc, hcm, hna, hsl, hwf⟩ := read_intsC Tryd.underlying45 Tryd.underlying3 st_int hf
  exact ⟨A, len, cap, zs, e1, Nat.le_trans hlc hcm, hsl, fun z hz => wf_in64 (hwf z hz)⟩
end
end Go.Proofs.YtclgknlolgcpoaaDoor
