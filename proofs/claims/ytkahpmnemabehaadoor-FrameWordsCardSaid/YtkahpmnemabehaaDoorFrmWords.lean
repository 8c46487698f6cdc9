/- Layer 14's statement FrameWords. -/
import Derived.Test.YtkahpmnemabehaaDoorFrmMade
namespace Go.Proofs.YtkahpmnemabehaaDoor
open Go.RowKit Go.ChangeShapes Go.WideShapes
set_option linter.unusedVariables false

/-- A frame that is laid: where, and which words. -/
theorem frPush_ok {xs ys : List Nat} {l : Fns} {lo sp f link at' : Int} (hl : ∀ x ∈ l, 0 ≤ x.1 ∧ x.1 ≤ 1000) (h : frPush xs l lo sp f link = (ys, at', 0)) :
    ∃ n s u v : Nat, 2 ≤ n ∧ sp = (s : Int) + (n : Int) ∧ at' = (s : Int) ∧ s + n ≤ xs.length ∧ link = (u : Int) - 1 ∧ f = (v : Int) - 1 ∧ u ≤ xs.length ∧ v ≤ l.length ∧ ys = aStore xs s (u :: v :: List.replicate (n - 2) 0) := by
  unfold frPush at h
  have hr := fWords_cases l hl f
  generalize hw : fWords l f = m at h hr
  by_cases c1 : m < 0 ∨ link < -1 ∨ (xs.length : Int) ≤ link
  · rw [if_pos c1] at h; injection h with _ h; injection h with _ h; omega
  · rw [if_neg c1] at h
    by_cases c2 : lo < 0 ∨ (xs.length : Int) < sp ∨ sp < lo ∨ sp - lo < m
    · rw [if_pos c2] at h; injection h with _ h; injection h with _ h; omega
    · rw [if_neg c2] at h
      injection h with h1 h
      injection h with h2 _
      refine ⟨m.toNat, (sp - m).toNat, (link + 1).toNat, (f + 1).toNat, by omega, by omega, by omega, by omega, by omega, by omega, by omega, by omega, ?_⟩
      rw [← h1]; rfl
/-- What stands where. -/
def frWant (mark n s u v i : Nat) : Nat := if i = s + 1 then v else if i = s then u else if s ≤ i ∧ i < s + n then 0 else mark
theorem frWant_at (N mark n s u v i : Nat) (hn : 2 ≤ n) (hs : s + n ≤ N) (hi : i < N) : (aStore (List.replicate N mark) s (u :: v :: List.replicate (n - 2) 0))[i]? = some (frWant mark n s u v i) := by
  have hlen : (u :: v :: List.replicate (n - 2) 0).length = n := by simp; omega
  rw [aStore_get _ _ _ (by rw [hlen, List.length_replicate]; exact hs), hlen]
  unfold frWant
  have hr : (List.replicate N mark)[i]? = some mark := by rw [List.getElem?_replicate, if_pos hi]
  by_cases h1 : i < s
  · rw [if_pos h1, if_neg (by omega), if_neg (by omega), if_neg (by omega)]; exact hr
  · rw [if_neg h1]
    by_cases h2 : i < s + n
    · rw [if_pos h2]
      obtain ⟨j, rfl⟩ : ∃ j, i = s + j := ⟨i - s, by omega⟩
      rw [show s + j - s = j by omega]
      match j with
      | 0 => rw [if_neg (by omega), if_pos (by omega)]; rfl
      | 1 => rw [if_pos rfl]; rfl
      | j + 2 =>
        rw [if_neg (by omega), if_neg (by omega), if_pos (by omega)]
        simp only [List.getElem?_cons_succ]
        rw [List.getElem?_replicate, if_pos (by omega)]
    · rw [if_neg h2, if_neg (by omega), if_neg (by omega), if_neg (by omega)]; exact hr
theorem aStore_whole (xs ys : List Nat) (h : ys.length = xs.length) : aStore xs 0 ys = ys := by
  unfold aStore; rw [List.take_zero, List.drop_of_length_le (by omega)]; simp
theorem frLaid_all (mark : Nat) : frLaid (List.replicate 256 mark) = List.replicate 256 mark := by
  unfold frLaid; exact aStore_whole _ _ (by rw [frZ_length, List.length_replicate])
theorem In13.at_w {w W : World} {A : Option Addr} {n : Nat} {ys : List FnV} (h : In13 w A n ys) (hb : Below w.heap.size w W) : In13 W A n ys := ⟨h.at_ hb, h.few, h.small⟩

set_option maxRecDepth 100000 in
set_option maxHeartbeats 4000000 in
theorem frameWords_any (A : Option Addr) (n c : Nat) (ys : List FnV) (sp f link : Int) (mark : Nat) (w : World) (hr : FnRow w 0 w.heap.size A n ys) (hm : n ≤ maxLen) (h1 : in64 sp) (h2 : in64 f) (h3 : in64 link) (hk : mark < 18446744073709551616) (ht : TabDB w) :
    Calls Tryd.prog 5 #[.slice A n c, .int .i64 sp, .int .i64 f, .int .i64 link, .int .u64 (mark : Int)] w fun e w' => e = .returned (.bool true) ∧ Below w.heap.size w w' := by
  unfold maxLen at hm
  have cg := ref_fgreat A n c ys 0 _ w hr (by omega)
  have kw0 := awake14 w ht
  cases hG : fGreat (vals ys) with
  | true =>
    rw [hG] at cg
    clear hr hG ht
    --@1
    go_enter Tryd.func5, Tryd.ntmps5
    go_wp2_with (first
      | (go_at_call 6; (with_reducible refine cg.mono ?_); rintro e w' ⟨rfl, rfl⟩)
      | (go_at_call 7; (with_reducible refine kw0.mono ?_); rintro e w1 ⟨rfl, hs1⟩))
    go_ret
    exact ⟨rfl, hs1⟩
  | false =>
    rw [hG] at cg
    obtain ⟨i0, hi, hz0, hz1, hz2⟩ := info_parts info_u64
    have HI := hidb (great_in hr hG)
    have HT := hidb ht
    have H1 := hidb h1
    have H2 := hidb h2
    have H3 := hidb h3
    have HK := hidb hk
    have hb0 := belF_al (Below.refl w.heap.size w) (.cells #[] 49)
    clear hr hG ht h1 h2 h3 kw0
    go_enter Tryd.func5, Tryd.ntmps5
    go_wp2_with (first
      | (go_at_call 6; (with_reducible refine cg.mono ?_); rintro e w' ⟨rfl, rfl⟩))
    go_loopw [11, 12] (fun v k wr => ∃ j : Nat, j ≤ 256 ∧ k = .int .i64 j ∧ Hid (wr.ownsRow w.heap.size 49 1 v j ((List.replicate j mark).map wv)) ∧ Hid (Below w.heap.size w wr)) (fun _ k _ => (256 - intOf k).toNat)
    case atStart => exact ⟨0, by omega, rfl, hidb (own_empty w w.heap.size _ _ (Nat.le_refl _)), hidb hb0⟩
    case round =>
      obtain ⟨j, hj, rfl, HO, HB⟩ := hrel
      by_cases hlt : j < 256
      · have hlt' : (j : Int) < 256 := by omega
        have hsz := HB.out.size
        --@2
        go_wp2_with (at_builtin; refine wpList_append_one wr rfl _ _ 22 rfl w.heap.size 49 i0 (.int .u64 0) 8 Tryd.underlying22 hi hz0 hz1 hz2 rfl _ _ _ rfl (by exact HO.out) hsz (.int .u64 (mark : Int)) rfl _ rfl (by unfold maxLen; omega) (by omega) ?_; intro v1 w1 hown1 hb1; have HO1 := hidb hown1; have HB1 := hidb hb1; clear hown1 hb1)
        go_roundw
        case rel => exact ⟨j + 1, by omega, by go_num, by rw [List.replicate_succ', List.map_append]; exact HO1, hidb (HB.out.trans HB1.out)⟩
        case measure => simp [intOf]; omega
      · obtain rfl : j = 256 := by omega
        obtain ⟨B, cB, rfl⟩ := own_form HO.out
        have HIW := hidb (HI.out.at_w HB.out)
        have HTW := hidb (TabDB.below HT.out HB.out)
        have hsl := Sl.of_own HO.out
        have HW := hidb (⟨HB.out, HIW.out, HTW.out⟩ : Below w.heap.size w wr ∧ In13 wr A n ys ∧ TabDB wr)
        obtain ⟨XS, hXS⟩ : ∃ XS, List.replicate 256 mark = XS := ⟨_, rfl⟩
        have hL : frLaid XS = XS := by rw [← hXS]; exact frLaid_all mark
        have HXL : Hid (XS.length = 256) := hidb (by rw [← hXS]; exact List.length_replicate)
        rw [hXS] at hsl
        clear HO HB HIW HTW
        cases hT : fTab (vals ys) with
        | false =>
          have k1 := t_made_no (A := B) (n := 256) (c := cB) (c2 := c) HW.out.2.1 (Below.refl _ wr) hT
          have k2 := fun W (s : Hid (Below wr.heap.size wr W)) => (ref_fall A n c ys 0 W (HW.out.2.1.at_ s.out) (by have := HW.out.2.1.few; omega) HW.out.2.1.s1).mono fun e w' h => (⟨h.1, hidb (s.out.trans (h.2.mono s.out.size))⟩ : e = _ ∧ Hid (Below wr.heap.size wr w'))
          rw [hT] at k2
          have k3 := fun W (s : Hid (Below wr.heap.size wr W)) => (awake14 W (TabDB.below HW.out.2.2 s.out)).mono fun e w' h => (⟨h.1, hidb (s.out.trans (h.2.mono s.out.size))⟩ : e = _ ∧ Hid (Below wr.heap.size wr w'))
          have PN : Hid (∀ W, Below wr.heap.size wr W → Below w.heap.size w W) := hidb (fun W hb => HW.out.1.trans (hb.mono HW.out.1.size))
          clear hT hsl hXS hL HI HT cg
          --@3
          go_wp2_with (first
            | (go_at_call 8; (with_reducible refine k1.mono ?_); rintro e w1 ⟨p, rfl, hs1⟩)
            | (go_at_call 9; (with_reducible refine (k2 _ hs1).mono ?_); rintro e w2 ⟨rfl, hs2⟩)
            | (go_at_call 7; (with_reducible refine (k3 _ hs2).mono ?_); rintro e w3 ⟨rfl, hs3⟩))
          go_ret
          exact ⟨rfl, PN.out _ hs3.out⟩
        | true =>
          have hsz := fTab_sizes hT
          have HSZ2 := hidb (fOwns_sizes hsz)
          have k1 := t_made (A := B) (n := 256) (c := cB) (c2 := c) HW.out.2.1 HW.out.2.2 hsl (by omega) (Below.refl _ wr) hT
          rw [hL] at k1
          have PN : Hid (∀ W, Below wr.heap.size wr W → Below w.heap.size w W) := hidb (fun W hb => HW.out.1.trans (hb.mono HW.out.1.size))
          have HFO : Hid ((fOwns (vals ys)).length ≤ 120) := hidb (by rw [fOwns_length, vals_length, HW.out.2.1.row.len]; exact HW.out.2.1.few)
          generalize fOwns (vals ys) = O at *
          obtain ⟨zs, at', no, hv⟩ : ∃ zs at' no, frPush XS O 0 sp f link = (zs, at', no) := ⟨_, _, _, rfl⟩
          have k2 := fun p g tb W s => t_frpush (w := wr) (p := p) (g := g) (xs := XS) (tp := some ⟨tb, 0, none⟩) (l := O) (W := W) s HSZ2.out 0 sp f link (by unfold in64; omega) H1.out H3.out zs at' no hv
          have k3 := fun p g tb W (s : Hid (AT wr W p g 256 zs (some ⟨tb, 0, none⟩) O)) => (awake14 W (TabDB.below HW.out.2.2 s.out.bel)).mono fun e w' h => (⟨h.1, hidb (s.out.bel.trans (h.2.mono s.out.bel.size))⟩ : e = _ ∧ Hid (Below wr.heap.size wr w'))
          by_cases hno : no = 0
          · subst hno
            obtain ⟨m, s, u, v, hm2, rfl, rfl, hsm, rfl, rfl, hu, hvv, hzs⟩ := frPush_ok HSZ2.out hv
            rw [HXL.out] at hsm hu
            have hv8 : v ≤ 120 := by have := HFO.out; omega
            have HZ : Hid (∀ i, i < 256 → zs[i]? = some (frWant mark m s u v i)) := hidb (fun i hi => by rw [hzs, ← hXS]; exact frWant_at 256 mark m s u v i hm2 hsm hi)
            have hzl : zs.length = 256 := by rw [hzs, aStore_length _ _ _ (by rw [HXL.out]; simp; omega)]; exact HXL.out
            have hrow : aRow zs 0 256 = zs := by unfold aRow; rw [List.drop_zero, List.take_of_length_le (by omega)]
            have k4 : ∀ p g tb W, Hid (AT wr W p g 256 zs (some ⟨tb, 0, none⟩) O) → Calls Tryd.prog 19 #[.pointer (some ⟨p, 0, none⟩), .int .i64 0, .int .i64 256] W fun e w' => ∃ D d, e = .returned (.tuple #[.slice D 256 d, .int .i64 0]) ∧ Hid (AT wr w' p g 256 zs (some ⟨tb, 0, none⟩) O) ∧ Hid (Sl w' w'.heap.size D 256 (zs.map wv)) := fun p g tb W st => by
              have h1 := code_arow_ok 0 256 st.out.ar (by omega)
              rw [hrow] at h1
              refine Calls.mono h1 ?_
              rintro e w' ⟨D, d, rfl, ho, hb⟩
              have hd := Sl.of_own ho
              rw [hzl] at hd
              exact ⟨D, d, by rw [hzl], hidb (st.out.step hb), hidb hd⟩
            have k5 := k3
            clear hT hsl hXS hL HI HT cg hv hzs hrow hzl hsz k3
            go_wp2_with (first
              | (go_at_call 8; (with_reducible refine k1.mono ?_); rintro e w1 ⟨p, g, tb, rfl, hs1⟩)
              | (go_at_call 18; (with_reducible refine (k2 _ _ _ _ hs1).mono ?_); rintro e w2 ⟨rfl, hs2⟩)
              | (go_at_call 19; (with_reducible refine (k4 _ _ _ _ hs2).mono ?_); rintro e w3 ⟨D, d, rfl, hs3, hD3⟩))
            obtain ⟨b3, off3, rfl, hb3, hcs⟩ := hD3.out.2 (by omega)
            have HCZ : Hid (∀ i, i < 256 → w3.cell? ⟨b3, off3 + i, none⟩ = some (.int .u64 (frWant mark m s u v i : Nat))) := hidb (fun i hi => by rw [hcs i hi, List.getElem?_map, HZ.out i hi]; rfl)
            clear hcs HZ
            go_loop [20, 21] (fun k _ => ∃ i : Nat, i ≤ 256 ∧ k = .int .i64 i) (fun k _ => (256 - intOf k).toNat)
            case atStart => exact ⟨0, by omega, rfl⟩
            case round =>
              obtain ⟨i, hi256, rfl⟩ := hrel
              by_cases hlt : i < 256
              · have hc := HCZ.out i hlt
                have hlt' : (i : Int) < 256 := by omega
                have i00 : (0 : Int) ≤ (i : Int) := by omega
                unfold frWant at hc
                by_cases g1 : i = s + 1
                · rw [if_pos g1] at hc
                  subst g1
                  --@6
                  go_wp2
                  go_round
                  case rel => exact ⟨s + 1 + 1, by omega, by go_num⟩
                  case measure => simp [intOf]; omega
                · rw [if_neg g1] at hc
                  have g1b : ((i : Int) == (s : Int) + 1) = false := by simp; omega
                  by_cases g2 : i = s
                  · rw [if_pos g2] at hc
                    subst g2
                    --@7
                    go_wp2
                    go_round
                    case rel => exact ⟨i + 1, by omega, by go_num⟩
                    case measure => simp [intOf]; omega
                  · rw [if_neg g2] at hc
                    have g2b : ((i : Int) == (s : Int)) = false := by simp; omega
                    by_cases g3 : s ≤ i
                    · by_cases g4 : i < s + m
                      · rw [if_pos ⟨g3, g4⟩] at hc
                        have g4' : (i : Int) < (s : Int) + (m : Int) := by omega
                        --@8
                        go_wp2
                        go_round
                        case rel => exact ⟨i + 1, by omega, by go_num⟩
                        case measure => simp [intOf]; omega
                      · rw [if_neg (fun h => g4 h.2)] at hc
                        have g4' : ¬ ((i : Int) < (s : Int) + (m : Int)) := by omega
                        --@9
                        go_wp2
                        go_round
                        case rel => exact ⟨i + 1, by omega, by go_num⟩
                        case measure => simp [intOf]; omega
                    · rw [if_neg (fun h => g3 h.1)] at hc
                      --@10
                      go_wp2
                      go_round
                      case rel => exact ⟨i + 1, by omega, by go_num⟩
                      case measure => simp [intOf]; omega
              · have hge : ¬ ((i : Int) < 256) := by omega
                --@11
                go_wp2_with (first
                  | (go_at_call 7; (with_reducible refine (k5 _ _ _ _ hs3).mono ?_); rintro e w4 ⟨rfl, hs4⟩))
                go_ret
                exact ⟨rfl, PN.out _ hs4.out⟩
          · have hnb : (no == 0) = false := by simpa using hno
            clear hT hsl hXS hL HI HT cg hv
            --@5
            go_wp2_with (first
              | (go_at_call 8; (with_reducible refine k1.mono ?_); rintro e w1 ⟨p, g, tb, rfl, hs1⟩)
              | (go_at_call 18; (with_reducible refine (k2 _ _ _ _ hs1).mono ?_); rintro e w2 ⟨rfl, hs2⟩)
              | (go_at_call 7; (with_reducible refine (k3 _ _ _ _ hs2).mono ?_); rintro e w3 ⟨rfl, hs3⟩))
            go_ret
            exact ⟨rfl, PN.out _ hs3.out⟩
theorem frameWords_int (A : Option Addr) (n c : Nat) (ys : List FnV) (sp f link mark : Int) (w : World) (hr : FnRow w 0 w.heap.size A n ys) (hm : n ≤ maxLen) (h1 : in64 sp) (h2 : in64 f) (h3 : in64 link) (hk : (Lit.int .u64 mark).wf = true) (ht : TabDB w) :
    Calls Tryd.prog 5 #[.slice A n c, .int .i64 sp, .int .i64 f, .int .i64 link, .int .u64 mark] w fun e w' => e = .returned (.bool true) ∧ Below w.heap.size w w' := by
  obtain ⟨h4, h5⟩ := words_nat [mark] (fun x hx => by rw [List.mem_singleton.1 hx]; exact hk)
  have e : (mark.toNat : Int) = mark := by simpa [wv] using h4
  rw [← e]
  exact frameWords_any A n c ys sp f link mark.toNat w hr hm h1 h2 h3 (h5 _ (by simp)) ht
end Go.Proofs.YtkahpmnemabehaaDoor
