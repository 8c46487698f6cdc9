/- Layer 17's statement MoveBack. -/
import Derived.Test.YtlniakcoikhilaaDoorMovLaws
import Derived.Test.YtlniakcoikhilaaDoorWlkTop0
import Derived.Test.YtlniakcoikhilaaDoorArenaRef
namespace Go.Proofs.YtlniakcoikhilaaDoor
open Go.RowKit Go.ChangeShapes Go.WideShapes
set_option linter.unusedVariables false

set_option maxRecDepth 100000 in
set_option maxHeartbeats 8000000 in
theorem moveBack_any (A : Option Addr) (n c : Nat) (us : List Nat) (A2 : Option Addr) (n2 c2 : Nat) (ys : List FnV) (s : StV) (lo size : Int) (w : World) (hs : Sl w w.heap.size A n (us.map wv)) (hu : Wd us) (hm : n ≤ maxLen) (hr : FnRow w 0 w.heap.size A2 n2 ys) (hy : ∀ y ∈ ys, y.n ≤ 17592186044416) (hm2 : n2 ≤ maxLen) (h0 : in64 s.lo) (h1 : in64 s.size) (h2 : in64 s.sp) (h3 : in64 lo) (h4 : in64 size) (ht : TabDB w) :
    Calls Tryd.prog 4 #[.slice A n c, .slice A2 n2 c2, .agg #[.int .i64 s.lo, .int .i64 s.size, .int .i64 s.sp], .int .i64 lo, .int .i64 size] w fun e w' => e = .returned (.bool true) ∧ Below w.heap.size w w' := by
  unfold maxLen at hm hm2
  obtain ⟨X, hX⟩ : ∃ X, X = w.alloc (.cells #[.int .i64 s.lo, .int .i64 s.size, .int .i64 s.sp] 25) := ⟨_, rfl⟩
  have hbX : Below w.heap.size w X := by rw [hX]; exact belF_al (Below.refl _ _) _
  have hzX : X.heap.size = w.heap.size + 1 := by rw [hX]; simp
  have HBX := hidb hbX
  have HC : Hid (∀ W, Below X.heap.size X W → W.cell? ⟨w.heap.size, 0, none⟩ = some (.int .i64 s.lo) ∧ W.cell? ⟨w.heap.size, 1, none⟩ = some (.int .i64 s.size) ∧ W.cell? ⟨w.heap.size, 2, none⟩ = some (.int .i64 s.sp)) := hidb (fun W hb => by refine ⟨?_, ?_, ?_⟩ <;> (rw [hb.cell (by show w.heap.size < _; omega), hX]; simp))
  have hrX : FnRow X 0 X.heap.size A2 n2 ys := (hr.below hbX).more (Nat.le_refl _) hbX.size
  have HRX := hidb hrX
  have CG : Hid (∀ W b, fGreat (vals ys) = b → Below X.heap.size X W → Calls Tryd.prog 7 #[.slice A2 n2 c2] W fun e w' => e = .returned (.bool b) ∧ W = w') := hidb (fun W b hb hbw => by rw [← hb]; exact ref_fgreat A2 n2 c2 ys 0 W.heap.size W ((HRX.out.below hbw).more (Nat.le_refl _) hbw.size) (by omega))
  have HT := hidb (TabDB.below ht hbX)
  have KA := fun W (s : Hid (Below X.heap.size X W)) => (awake17 W).mono fun e w' h => (⟨h.1, hidb (belF_tr s.out h.2)⟩ : e = _ ∧ Hid (Below X.heap.size X w'))
  have HXX := hidb hX
  cases hT : fTab (vals ys) with
  | false =>
    have kn := t_new_no (c2 := c2) hrX hy (by omega) hT
    by_cases hbig : 256 < n
    · have hb : (256 : Int) < (n : Int) := by omega
      clear hs hr hrX hX hbX hzX hbig ht hT hy
      --@1
      go_enter Tryd.func4, Tryd.ntmps4
      go_wp2_with (first
        | (go_at_call 6; rw [← HXX.out]; (with_reducible refine kn.mono ?_); rintro e w1 ⟨rfl, hs1⟩)
        | (go_at_call 8; (with_reducible refine (KA _ hs1).mono ?_); rintro e w2 ⟨rfl, hs2⟩))
      go_ret
      exact ⟨rfl, belF_tr HBX.out hs2.out⟩
    · have hnb : ¬ ((256 : Int) < (n : Int)) := by omega
      obtain ⟨b, hbg⟩ : ∃ b, fGreat (vals ys) = b := ⟨_, rfl⟩
      have cg := fun W h => CG.out W b hbg h
      clear hs hr hrX hX hbX hzX hbig ht hT hy hbg
      cases b with
      | true =>
        --@2
        go_enter Tryd.func4, Tryd.ntmps4
        go_wp2_with (first
          | (go_at_call 6; rw [← HXX.out]; (with_reducible refine kn.mono ?_); rintro e w1 ⟨rfl, hs1⟩)
          | (go_at_call 7; (with_reducible refine (cg _ hs1.out).mono ?_); rintro e w' ⟨rfl, rfl⟩)
          | (go_at_call 8; (with_reducible refine (KA _ hs1).mono ?_); rintro e w2 ⟨rfl, hs2⟩))
        go_ret
        exact ⟨rfl, belF_tr HBX.out hs2.out⟩
      | false =>
        --@3
        go_enter Tryd.func4, Tryd.ntmps4
        go_wp2_with (first
          | (go_at_call 6; rw [← HXX.out]; (with_reducible refine kn.mono ?_); rintro e w1 ⟨rfl, hs1⟩)
          | (go_at_call 7; (with_reducible refine (cg _ hs1.out).mono ?_); rintro e w' ⟨rfl, rfl⟩)
          | (go_at_call 8; (with_reducible refine (KA _ hs1).mono ?_); rintro e w2 ⟨rfl, hs2⟩))
        go_ret
        exact ⟨rfl, belF_tr HBX.out hs2.out⟩
  | true =>
    have kn := t_new_yes (c2 := c2) hrX hy HT.out hT
    have hsz := fTab_sizes hT
    have HSZ := hidb hsz
    have HSZ2 := hidb (fOwns_sizes hsz)
    by_cases hbig : 256 < n
    · have hb : (256 : Int) < (n : Int) := by omega
      clear hs hr hrX hX hbX hzX hbig ht hT hy
      --@4
      go_enter Tryd.func4, Tryd.ntmps4
      go_wp2_with (first
        | (go_at_call 6; rw [← HXX.out]; (with_reducible refine kn.mono ?_); rintro e w1 ⟨tb, rfl, hs1⟩; have hw1 := hidb hs1.out.1)
        | (go_at_call 8; (with_reducible refine (KA _ hw1).mono ?_); rintro e w2 ⟨rfl, hs2⟩))
      go_ret
      exact ⟨rfl, belF_tr HBX.out hs2.out⟩
    have hnb : ¬ ((256 : Int) < (n : Int)) := by omega
    have hn : n ≤ 256 := by omega
    cases hG : fGreat (vals ys) with
    | true =>
      have cg := fun W h => CG.out W true hG h
      clear hs hr hrX hX hbX hzX hbig ht hT hy hG
      --@5
      go_enter Tryd.func4, Tryd.ntmps4
      go_wp2_with (first
        | (go_at_call 6; rw [← HXX.out]; (with_reducible refine kn.mono ?_); rintro e w1 ⟨tb, rfl, hs1⟩; have hw1 := hidb hs1.out.1)
        | (go_at_call 7; (with_reducible refine (cg _ hw1.out).mono ?_); rintro e w' ⟨rfl, rfl⟩)
        | (go_at_call 8; (with_reducible refine (KA _ hw1).mono ?_); rintro e w2 ⟨rfl, hs2⟩))
      go_ret
      exact ⟨rfl, belF_tr HBX.out hs2.out⟩
    | false =>
      have cg := fun W h => CG.out W false hG h
      have h120 : n2 ≤ 100 := by unfold fTab at hT; rw [Bool.and_eq_true, decide_eq_true_iff, vals_length, hr.len] at hT; omega
      have HU : Hid (Wd (frLaid us)) := hidb (frLaid_wd hu)
      have hul : us.length = n := by have := hs.1; simpa using this
      have hfl : (frLaid us).length = 256 := frLaid_length us (by omega)
      have HS := hidb ((hs.below hbX).more hbX.size)
      generalize hxs : frLaid us = xs at *
      have HXL := hidb hfl
      have KL : Hid (∀ W tp O, Hid (S13 X W tp O) → Calls Tryd.prog 9 #[.slice A n c] W fun e w' => ∃ p g, e = .returned (.pointer (some ⟨p, 0, none⟩)) ∧ Hid (AT X w' p g 256 xs tp O)) := hidb (fun W tp O st => by
        refine (t_laid17 (W := W) (c := c) ((HS.out.below st.out.1).more st.out.1.size) hn).mono ?_
        rintro e w' ⟨p, g, rfl, h2, h3⟩
        rw [hxs] at h2
        exact ⟨p, g, rfl, hidb (AT.made2 st.out h2 h3)⟩)
      generalize hO : fOwns (vals ys) = O at *
      obtain ⟨r1, hr1⟩ : ∃ r, mvTo xs O s lo size = r := ⟨_, rfl⟩
      obtain ⟨ys1, s1, no⟩ := r1
      have KT : Hid (∀ W p g tp, AT X W p g 256 xs tp O → Calls Tryd.prog 13 #[.pointer (some ⟨p, 0, none⟩), .pointer tp, stC s, .int .i64 lo, .int .i64 size] W fun e w' => e = .returned (.tuple #[stC s1, .int .i64 no]) ∧ AT X w' p g 256 ys1 tp O ∧ W.grownBy w' (some g)) := hidb (fun W p g tp st => code_mvto HT.out st HSZ2.out HU.out s ⟨h0, h1, h2⟩ lo size h3 h4 ys1 s1 no hr1)
      by_cases hno : no = 0
      · subst hno
        have hok := mvTo_ok (xs := xs) (l := O) (s := s) (lo := lo) (size := size) (by omega) (by rw [hr1])
        obtain ⟨k1, k2, k3, k4⟩ := hok.chn HSZ2.out
        obtain ⟨ys', hd1, hd2⟩ := hok.does HSZ2.out
        rw [hr1] at hd1
        obtain ⟨q1, q2⟩ := Prod.mk.inj hd1
        obtain ⟨q2, -⟩ := Prod.mk.inj q2
        subst q1
        generalize hδ : lo + size - s.lo - s.size = δ at *
        have hmay := hok.may
        unfold stMay stkSz at hmay
        simp at hmay
        obtain ⟨a, ha⟩ : ∃ a : Nat, s.sp = (a : Int) := ⟨s.sp.toNat, by omega⟩
        obtain ⟨m, hmm⟩ : ∃ m : Nat, s.lo + s.size - s.sp = (m : Int) := ⟨(s.lo + s.size - s.sp).toNat, by omega⟩
        obtain ⟨b, hbb⟩ : ∃ b : Nat, s.lo = (b : Int) := ⟨s.lo.toNat, by omega⟩
        obtain ⟨z, hzz⟩ : ∃ z : Nat, s.size = (z : Int) := ⟨s.size.toNat, by omega⟩
        have hyl : ys1.length = 256 := by rw [hd2.1]; exact hfl
        obtain ⟨zs, hzs⟩ : ∃ zs, zs = aStore ys1 b (List.replicate z 0) := ⟨_, rfl⟩
        have hzl : zs.length = xs.length := by rw [hzs, aStore_length _ _ _ (by simp; omega), hyl, hfl]
        obtain ⟨vs, hv1, hv2, hv3⟩ := hok.back HSZ2.out hd2 hzl (fun i hi => by
          rw [hzs, List.getD_eq_getElem?_getD, aStore_get _ _ _ (by simp; omega), List.length_replicate, List.getD_eq_getElem?_getD]
          by_cases c1 : i < b
          · rw [if_pos c1]
          · rw [if_neg c1, if_neg (by omega)])
        obtain ⟨wx, hwx⟩ : ∃ wx, aRow xs a m = wx := ⟨_, rfl⟩
        have hrow : aRow vs a m = wx := by
          rw [← hwx]
          apply List.ext_getElem?
          intro i
          unfold aRow
          by_cases c : i < m
          · rw [List.getElem?_take_of_lt c, List.getElem?_take_of_lt c, List.getElem?_drop, List.getElem?_drop]
            have e1 := hv3 (a + i) (by omega) (by omega)
            rw [List.getD_eq_getElem?_getD, List.getD_eq_getElem?_getD, List.getElem?_eq_getElem (by omega), List.getElem?_eq_getElem (by omega)] at e1
            rw [List.getElem?_eq_getElem (by omega), List.getElem?_eq_getElem (by omega)]
            exact congrArg some e1
          · rw [List.getElem?_eq_none (by rw [List.length_take]; omega), List.getElem?_eq_none (by rw [List.length_take]; omega)]
        have hywd : Wd ys1 := by
          have h := mvTo_code HSZ2.out hok
          rw [hr1] at h
          obtain ⟨h, -⟩ := Prod.mk.inj h
          rw [h]
          exact hok.wd HSZ2.out HU.out
        have hzwd : Wd zs := by rw [hzs]; exact aStore_wd hywd (fun u hu => by rw [List.eq_of_mem_replicate hu]; omega) _
        have KU : Hid (∀ W, Calls Tryd.prog 16 #[stC s] W fun e w' => e = .returned (.int .i64 (m : Int)) ∧ Below W.heap.size W w') := hidb (fun W => by
          have := code_wused s (by unfold StNear; omega) W
          rw [show max (s.lo + s.size - s.sp) 0 = (m : Int) by omega] at this
          exact this)
        have KR : Hid (∀ W p g tp, AT X W p g 256 xs tp O → Calls Tryd.prog 12 #[.pointer (some ⟨p, 0, none⟩), .int .i64 (a : Int), .int .i64 (m : Int)] W fun e w' => ∃ D k, e = .returned (.tuple #[.slice D m k, .int .i64 0]) ∧ S17 X p g xs tp O D m k wx w' ∧ Below W.heap.size W w') := hidb (fun W p g tp st => by
          have := t_row st a m (by omega)
          rw [hwx] at this
          exact this)
        have KT1 : Hid (∀ W p g tp D k, Hid (S17 X p g xs tp O D m k wx W) → Calls Tryd.prog 13 #[.pointer (some ⟨p, 0, none⟩), .pointer tp, stC s, .int .i64 lo, .int .i64 size] W fun e w' => e = .returned (.tuple #[stC s1, .int .i64 0]) ∧ Hid (S17 X p g ys1 tp O D m k wx w')) := hidb (fun W p g tp D k st => (KT.out W p g tp st.out.1).mono fun e w' h => ⟨h.1, hidb (st.out.wrote h.2.1 h.2.2)⟩)
        have KZ : Hid (∀ W p g tp D k, Hid (S17 X p g ys1 tp O D m k wx W) → Calls Tryd.prog 21 #[.pointer (some ⟨p, 0, none⟩), .int .i64 (b : Int), .int .i64 (z : Int)] W fun e w' => e = .returned (.int .i64 0) ∧ Hid (S17 X p g zs tp O D m k wx w') ∧ Hid (W.grownBy w' (some g))) := hidb (fun W p g tp D k st => by
          refine (code_azero b z st.out.1.ar (by omega)).mono ?_
          rintro e w' ⟨rfl, h2, h3⟩
          rw [← hzs] at h2
          exact ⟨rfl, hidb (st.out.wrote (st.out.1.wrote h2 h3) h3), hidb h3⟩)
        have KT2 : Hid (∀ W p g tp D k, Hid (S17 X p g zs tp O D m k wx W) → Calls Tryd.prog 13 #[.pointer (some ⟨p, 0, none⟩), .pointer tp, stC s1, .int .i64 (b : Int), .int .i64 (z : Int)] W fun e w' => e = .returned (.tuple #[stC s, .int .i64 0]) ∧ Hid (S17 X p g vs tp O D m k wx w')) := hidb (fun W p g tp D k st => by
          have := code_mvto HT.out st.out.1 HSZ2.out hzwd s1 (by rw [q2]; exact ⟨h3, h4, by show in64 (s.sp + δ); unfold in64; omega⟩) b z (by unfold in64; omega) (by unfold in64; omega) vs s 0 (by rw [q2, ← hbb, ← hzz]; exact hv1)
          exact this.mono fun e w' h => ⟨h.1, hidb (st.out.wrote h.2.1 h.2.2)⟩)
        have KR2 : Hid (∀ W p g tp D k, Hid (S17 X p g vs tp O D m k wx W) → Calls Tryd.prog 12 #[.pointer (some ⟨p, 0, none⟩), .int .i64 (a : Int), .int .i64 (m : Int)] W fun e w' => ∃ E k2, e = .returned (.tuple #[.slice E m k2, .int .i64 0]) ∧ Hid (Sl w' w'.heap.size E m (wx.map wv)) ∧ Hid (S17 X p g vs tp O D m k wx w') ∧ Hid (Below W.heap.size W w')) := hidb (fun W p g tp D k st => by
          have := t_row st.out.1 a m (by omega)
          rw [hrow] at this
          refine this.mono ?_
          rintro e w' ⟨E, k2, rfl, h2, h3⟩
          exact ⟨E, k2, rfl, hidb h2.row, hidb (st.out.step h3), hidb h3⟩)
        have KS : Hid (∀ W p g tp D k E k2, Hid (S17 X p g vs tp O D m k wx W) → Hid (Sl W W.heap.size E m (wx.map wv)) → Calls Tryd.prog 15 #[.slice E m k2, .slice D m k] W fun e w' => e = .returned (.bool true) ∧ Hid (Below X.heap.size X w')) := hidb (fun W p g tp D k E k2 st hE => by
          refine (ref_asame E D m k2 m k wx wx W W.heap.size W.heap.size hE.out st.out.row (by omega) (by omega)).mono ?_
          rintro e w' ⟨rfl, q, rfl⟩
          exact ⟨by simp, hidb (belowN st.out.1.bel q)⟩)
        have HSC : Hid (∀ W p g xs' tp D k, S17 X p g xs' tp O D m k wx W → W.cell? ⟨w.heap.size, 0, none⟩ = some (.int .i64 (b : Int)) ∧ W.cell? ⟨w.heap.size, 1, none⟩ = some (.int .i64 (z : Int)) ∧ W.cell? ⟨w.heap.size, 2, none⟩ = some (.int .i64 (a : Int))) := hidb (fun W p g xs' tp D k st => by
          have := HC.out W st.1.bel
          rw [ha, hbb, hzz] at this
          exact this)
        have HAL : Hid (∀ W p g xs' tp D k v0 v1 v2, S17 X p g xs' tp O D m k wx W → S17 X p g xs' tp O D m k wx (W.alloc (.cells #[v0, v1, v2] 25))) := hidb (fun W p g xs' tp D k v0 v1 v2 st => st.step (belF_al (Below.refl _ _) _))
        have HTO : Hid (∀ (W1 W : World) (x0 x1 x2 : Int) (g : Nat), g < W1.heap.size → (W1.alloc (.cells #[.int .i64 x0, .int .i64 x1, .int .i64 x2] 25)).grownBy W (some g) → W.cell? ⟨W1.heap.size, 0, none⟩ = some (.int .i64 x0) ∧ W.cell? ⟨W1.heap.size, 1, none⟩ = some (.int .i64 x1) ∧ W.cell? ⟨W1.heap.size, 2, none⟩ = some (.int .i64 x2)) := hidb (fun W1 W x0 x1 x2 g hgl hg => by
          have hc : ∀ k, W.cell? ⟨W1.heap.size, k, none⟩ = (W1.alloc (.cells #[.int .i64 x0, .int .i64 x1, .int .i64 x2] 25)).cell? ⟨W1.heap.size, k, none⟩ := fun k => World.cell?_of_block (hg.block W1.heap.size (by simp) (fun e => by injection e with e; omega))
          refine ⟨?_, ?_, ?_⟩ <;> (rw [hc]; simp))
        have HGL : Hid (∀ W p g xs' tp D k, S17 X p g xs' tp O D m k wx W → g < W.heap.size) := hidb (fun W p g xs' tp D k st => st.1.ar.lt)
        have HSE : Hid (∀ (W1 W2 : World) E, Sl W1 W1.heap.size E m (wx.map wv) → Below W1.heap.size W1 W2 → Sl W2 W2.heap.size E m (wx.map wv)) := hidb (fun W1 W2 E h hb => (h.below hb).more hb.size)
        have HSB : Hid (∀ W W' p g xs' tp D k, S17 X p g xs' tp O D m k wx W → Below W.heap.size W W' → S17 X p g xs' tp O D m k wx W') := hidb (fun W W' p g xs' tp D k st hb => st.step hb)
        obtain ⟨sl, ss, sp⟩ := s
        obtain ⟨tl, ts, tp1⟩ := s1
        unfold stC at KT1 KT2 KU
        simp only at *
        subst ha hbb hzz
        have heq := fun W => eql_stack (b : Int) (z : Int) (a : Int) W
        clear hs hr hrX hX hbX hzX hbig ht hT hy hG hu hul hfl hxs h0 h1 h2 h3 h4 hsz hm2 hm hr1 hO KT hok k1 k2 k3 k4 hd1 hd2 q2 hmay hyl hzs hzl hv1 hv2 hv3 hwx hrow hywd hzwd hmm hδ
        --@7
        go_enter Tryd.func4, Tryd.ntmps4
        go_wp2_with (first
          | (go_at_call 6; rw [← HXX.out]; (with_reducible refine kn.mono ?_); rintro e w1 ⟨tb, rfl, hs1⟩; have hw1 := hidb hs1.out.1)
          | (go_at_call 7; (with_reducible refine (cg _ hw1.out).mono ?_); rintro e w' ⟨rfl, rfl⟩)
          | (go_at_call 9; (with_reducible refine (KL.out _ _ _ hs1).mono ?_); rintro e w3 ⟨p, g, rfl, hs3⟩; obtain ⟨c0, c1, c2⟩ := HC.out w3 hs3.out.bel))
        have HC3 : Hid (∀ W, Below w3.heap.size w3 W → W.cell? ⟨w.heap.size, 0, none⟩ = some (.int .i64 (b : Int)) ∧ W.cell? ⟨w.heap.size, 1, none⟩ = some (.int .i64 (z : Int)) ∧ W.cell? ⟨w.heap.size, 2, none⟩ = some (.int .i64 (a : Int))) := hidb (fun W hb => HC.out W (hs3.out.step hb).bel)
        have KR3 : Hid (∀ W, Below w3.heap.size w3 W → Calls Tryd.prog 12 #[.pointer (some ⟨p, 0, none⟩), .int .i64 (a : Int), .int .i64 (m : Int)] W fun e w' => ∃ D k, e = .returned (.tuple #[.slice D m k, .int .i64 0]) ∧ S17 X p g xs (some ⟨tb, 0, none⟩) O D m k wx w' ∧ Below W.heap.size W w') := hidb (fun W hb => KR.out W p g _ (hs3.out.step hb))
        (first | go_region_held3 (fun W => W.cell? ⟨w.heap.size, 0, none⟩ = some (.int .i64 (b : Int)) ∧ W.cell? ⟨w.heap.size, 1, none⟩ = some (.int .i64 (z : Int)) ∧ W.cell? ⟨w.heap.size, 2, none⟩ = some (.int .i64 (a : Int)))
          (first | ((with_reducible refine HC3.out _ ?_); (repeat (first | with_reducible exact Below.refl _ _ | with_reducible exact Hid.out (by assumption) | with_reducible apply belF_al | with_reducible apply belF_dr)); done) | (go_keep; done))
          (first
            | (go_at_call 16; (with_reducible refine (KU.out _).mono ?_); rintro e w4 ⟨rfl, hb4⟩; have HB4 : Hid (Below w3.heap.size w3 w4) := hidb (belF_tr (by (repeat (first | with_reducible exact Below.refl _ _ | with_reducible exact Hid.out (by assumption) | with_reducible apply belF_al | with_reducible apply belF_dr))) hb4); have hc4 := HC3.out w4 HB4.out; clear hb4)
            | (go_at_call 12; (with_reducible refine (KR3.out _ HB4.out).mono ?_); rintro e w5 ⟨D, k5, rfl, hs5, hb5⟩; have HS5 := hidb hs5; have HB5 : Hid (Below w3.heap.size w3 w5) := hidb (belF_tr HB4.out hb5); have hc5 := HC3.out w5 HB5.out; clear hb5 hs5)) | fail)
        obtain ⟨d0, d1, d2⟩ := hc5
        go_wp2_with (first
          | (go_at_call 13; (with_reducible refine (KT1.out _ _ _ _ _ _ HS5).mono ?_); rintro e w6 ⟨rfl, hs6⟩; have hs7 := hidb (HAL.out _ _ _ _ _ _ _ (.int .i64 tl) (.int .i64 ts) (.int .i64 tp1) hs6.out); have HG6 := hidb (HGL.out _ _ _ _ _ _ _ hs6.out); obtain ⟨e0, e1, e2⟩ := HSC.out _ _ _ _ _ _ _ hs7.out; clear HS5)
          | (go_at_call 21; (with_reducible refine (KZ.out _ _ _ _ _ _ hs7).mono ?_); rintro e w8 ⟨rfl, hs8, hg8⟩; obtain ⟨f0, f1, f2⟩ := HSC.out _ _ _ _ _ _ _ hs8.out; obtain ⟨t0, t1, t2⟩ := HTO.out w6 w8 tl ts tp1 g HG6.out hg8.out)
          | (go_at_call 13; (with_reducible refine (KT2.out _ _ _ _ _ _ hs8).mono ?_); rintro e w9 ⟨rfl, hs9⟩; have hs10 := hidb (HAL.out _ _ _ _ _ _ _ (.int .i64 (b : Int)) (.int .i64 (z : Int)) (.int .i64 (a : Int)) hs9.out); have HG9 := hidb (HGL.out _ _ _ _ _ _ _ hs9.out)))
        clear c0 c1 c2 d0 d1 d2 e0 e1 e2 f0 f1 f2 t0 t1 t2 kn cg
        obtain ⟨wb, hwb⟩ : ∃ wb, wb = w9.alloc (.cells #[.int .i64 (b : Int), .int .i64 (z : Int), .int .i64 (a : Int)] 25) := ⟨_, rfl⟩
        rw [← hwb] at hs10
        have HWB := hidb hwb
        have HCB : Hid (∀ W, Below wb.heap.size wb W → (W.cell? ⟨w.heap.size, 0, none⟩ = some (.int .i64 (b : Int)) ∧ W.cell? ⟨w.heap.size, 1, none⟩ = some (.int .i64 (z : Int)) ∧ W.cell? ⟨w.heap.size, 2, none⟩ = some (.int .i64 (a : Int))) ∧ W.cell? ⟨w9.heap.size, 0, none⟩ = some (.int .i64 (b : Int)) ∧ W.cell? ⟨w9.heap.size, 1, none⟩ = some (.int .i64 (z : Int)) ∧ W.cell? ⟨w9.heap.size, 2, none⟩ = some (.int .i64 (a : Int))) := hidb (fun W hb => ⟨HSC.out _ _ _ _ _ _ _ (HSB.out _ _ _ _ _ _ _ _ hs10.out hb), HTO.out w9 W b z a g HG9.out (by rw [← HWB.out]; exact below_to_grown hb _)⟩)
        have KRB : Hid (∀ W, Below wb.heap.size wb W → Calls Tryd.prog 12 #[.pointer (some ⟨p, 0, none⟩), .int .i64 (a : Int), .int .i64 (m : Int)] W fun e w' => ∃ E k2, e = .returned (.tuple #[.slice E m k2, .int .i64 0]) ∧ Hid (Sl w' w'.heap.size E m (wx.map wv)) ∧ Hid (S17 X p g vs (some ⟨tb, 0, none⟩) O D m k5 wx w') ∧ Hid (Below W.heap.size W w')) := hidb (fun W hb => KR2.out W p g _ D k5 (hidb (HSB.out _ _ _ _ _ _ _ _ hs10.out hb)))
        have hcb := HCB.out wb (Below.refl _ _)
        obtain ⟨⟨c0, c1, c2⟩, d0, d1, d2⟩ := hcb
        rw [← hwb]
        clear hwb
        (first | go_region_held3 (fun W => (W.cell? ⟨w.heap.size, 0, none⟩ = some (.int .i64 (b : Int)) ∧ W.cell? ⟨w.heap.size, 1, none⟩ = some (.int .i64 (z : Int)) ∧ W.cell? ⟨w.heap.size, 2, none⟩ = some (.int .i64 (a : Int))) ∧ W.cell? ⟨w9.heap.size, 0, none⟩ = some (.int .i64 (b : Int)) ∧ W.cell? ⟨w9.heap.size, 1, none⟩ = some (.int .i64 (z : Int)) ∧ W.cell? ⟨w9.heap.size, 2, none⟩ = some (.int .i64 (a : Int)))
          (first | ((with_reducible refine HCB.out _ ?_); (repeat (first | with_reducible exact Below.refl _ _ | with_reducible exact Hid.out (by assumption) | with_reducible apply belF_al | with_reducible apply belF_dr)); done) | (go_keep; done))
          (first
            | (go_at_call 16; (with_reducible refine (KU.out _).mono ?_); rintro e w11 ⟨rfl, hb11⟩; have HB11 : Hid (Below wb.heap.size wb w11) := hidb (belF_tr (by (repeat (first | with_reducible exact Below.refl _ _ | with_reducible exact Hid.out (by assumption) | with_reducible apply belF_al | with_reducible apply belF_dr))) hb11); have hc11 := HCB.out w11 HB11.out; clear hb11)
            | (go_at_call 12; (with_reducible refine (KRB.out _ HB11.out).mono ?_); rintro e w12 ⟨E, k2, rfl, hE12, hs12, hb12⟩; have HB12 : Hid (Below wb.heap.size wb w12) := hidb (belF_tr HB11.out hb12.out); have hc12 := HCB.out w12 HB12.out; clear hb12)) | fail)
        obtain ⟨⟨e0, e1, e2⟩, f0, f1, f2⟩ := hc12
        have KS12 := KS.out w12 p g _ D k5 E k2 hs12 hE12
        go_wp2_with (first
          | (go_at_call 15; (with_reducible refine KS12.mono ?_); rintro e w13 ⟨rfl, hs13⟩)
          | (go_at_call 8; (with_reducible refine (KA _ hs13).mono ?_); rintro e w14 ⟨rfl, hs14⟩))
        go_ret
        exact ⟨rfl, belF_tr HBX.out hs14.out⟩
      · have hnb0 : (no != 0) = true := by simpa using hno
        have KU : Hid (∀ W, Calls Tryd.prog 16 #[stC s] W fun e w' => ∃ n : Int, e = .returned (.int .i64 n) ∧ in64 n ∧ Below W.heap.size W w') := hidb (fun W => c_wused_any s W)
        have KR : Hid (∀ W p g tp k, AT X W p g 256 xs tp O → in64 k → Calls Tryd.prog 12 #[.pointer (some ⟨p, 0, none⟩), .int .i64 s.sp, .int .i64 k] W fun e w' => ∃ D m k us no, e = .returned (.tuple #[.slice D m k, .int .i64 no]) ∧ us.length = m ∧ S17 X p g xs tp O D m k us w' ∧ Below W.heap.size W w') := hidb (fun W p g tp k st hk => t_row_any st s.sp k h2 hk)
        obtain ⟨sl, ss, sp⟩ := s
        obtain ⟨tl, ts, tp1⟩ := s1
        unfold stC at KT KU
        simp only at *
        clear hs hr hrX hX hbX hzX hbig ht hT hy hG hu hul hfl hxs h0 h1 h2 h3 h4 hsz hm2 hm hr1 hno hO
        --@6
        go_enter Tryd.func4, Tryd.ntmps4
        go_wp2_with (first
          | (go_at_call 6; rw [← HXX.out]; (with_reducible refine kn.mono ?_); rintro e w1 ⟨tb, rfl, hs1⟩; have hw1 := hidb hs1.out.1)
          | (go_at_call 7; (with_reducible refine (cg _ hw1.out).mono ?_); rintro e w' ⟨rfl, rfl⟩)
          | (go_at_call 9; (with_reducible refine (KL.out _ _ _ hs1).mono ?_); rintro e w3 ⟨p, g, rfl, hs3⟩; obtain ⟨c0, c1, c2⟩ := HC.out w3 hs3.out.bel))
        have HC3 : Hid (∀ W, Below w3.heap.size w3 W → W.cell? ⟨w.heap.size, 0, none⟩ = some (.int .i64 sl) ∧ W.cell? ⟨w.heap.size, 1, none⟩ = some (.int .i64 ss) ∧ W.cell? ⟨w.heap.size, 2, none⟩ = some (.int .i64 sp)) := hidb (fun W hb => HC.out W (hs3.out.step hb).bel)
        have KR3 : Hid (∀ W k, Below w3.heap.size w3 W → in64 k → Calls Tryd.prog 12 #[.pointer (some ⟨p, 0, none⟩), .int .i64 sp, .int .i64 k] W fun e w' => ∃ D m k us no, e = .returned (.tuple #[.slice D m k, .int .i64 no]) ∧ us.length = m ∧ S17 X p g xs (some ⟨tb, 0, none⟩) O D m k us w' ∧ Below W.heap.size W w') := hidb (fun W k hb hk => KR.out W p g _ k (hs3.out.step hb) hk)
        (first | go_region_held3 (fun W => W.cell? ⟨w.heap.size, 0, none⟩ = some (.int .i64 sl) ∧ W.cell? ⟨w.heap.size, 1, none⟩ = some (.int .i64 ss) ∧ W.cell? ⟨w.heap.size, 2, none⟩ = some (.int .i64 sp))
          (first | ((with_reducible refine HC3.out _ ?_); (repeat (first | with_reducible exact Below.refl _ _ | with_reducible exact Hid.out (by assumption) | with_reducible apply belF_al | with_reducible apply belF_dr)); done) | (go_keep; done))
          (first
            | (go_at_call 16; (with_reducible refine (KU.out _).mono ?_); rintro e w4 ⟨k4, rfl, hk4, hb4⟩; have HK4 := hidb hk4; have HB4 : Hid (Below w3.heap.size w3 w4) := hidb (belF_tr (by (repeat (first | with_reducible exact Below.refl _ _ | with_reducible exact Hid.out (by assumption) | with_reducible apply belF_al | with_reducible apply belF_dr))) hb4); have hc4 := HC3.out w4 HB4.out; clear hb4 hk4)
            | (go_at_call 12; (with_reducible refine (KR3.out _ _ HB4.out HK4.out).mono ?_); rintro e w5 ⟨D, m, k5, us5, no5, rfl, _, hs5, hb5⟩; have HS5 := hidb hs5; have HA5 := hidb hs5.1; have HB5 : Hid (Below w3.heap.size w3 w5) := hidb (belF_tr HB4.out hb5); have hc5 := HC3.out w5 HB5.out; clear hb5 hs5)) | fail)
        obtain ⟨d0, d1, d2⟩ := hc5
        go_wp2_with (first
          | (go_at_call 13; (with_reducible refine (KT.out _ _ _ _ HA5.out).mono ?_); rintro e w6 ⟨rfl, hs6, hg6⟩; have hw6 := hidb (hs6.alloc (.cells #[.int .i64 tl, .int .i64 ts, .int .i64 tp1] 25)).bel)
          | (go_at_call 8; (with_reducible refine (KA _ hw6).mono ?_); rintro e w7 ⟨rfl, hs7⟩))
        go_ret
        exact ⟨rfl, belF_tr HBX.out hs7.out⟩
end Go.Proofs.YtlniakcoikhilaaDoor
