/- Layer 13's statement FnsOwn: the walk. -/
import Derived.Test.YtieknifbmamdaaaDoorFnsOwn0
namespace Go.Proofs.YtieknifbmamdaaaDoor
open Go.RowKit
set_option linter.unusedVariables false

/-- The state, and one row of numbers besides. -/
def OwnL (St : World → Prop) (A : Option Addr) (L : List Int) (W : World) : Prop := St W ∧ Sl W W.heap.size A L.length (L.map iv)

set_option maxRecDepth 100000 in
set_option maxHeartbeats 8000000 in
theorem fnsOwn_any (A : Option Addr) (n c : Nat) (ys : List FnV) (mark : Int) (w : World) (hs : FnRow w 0 w.heap.size A n ys) (hm : n ≤ maxLen) (ht : TabDB w) :
    Calls Tryd.prog 5 #[.slice A n c, .int .u64 mark] w fun e w' => e = .returned (.bool true) ∧ Below w.heap.size w w' := by
  unfold maxLen at hm
  have cg := ref_fgreat A n c ys 0 _ w hs (by omega)
  have cw := awake13 w ht
  cases hG : fGreat (vals ys) with
  | true =>
    rw [hG] at cg
    clear hs hG
    --@1
    go_enter Tryd.func5, Tryd.ntmps5
    go_wp2_with (first
      | (go_at_call 7; (with_reducible refine cg.mono ?_); rintro e w' ⟨rfl, rfl⟩)
      | (go_at_call 8; (with_reducible refine cw.mono ?_); rintro e w1 ⟨rfl, hb⟩))
    go_ret
    exact ⟨rfl, hb⟩
  | false =>
    rw [hG] at cg
    have HI := hidb (great_in hs hG)
    have hfew := (great_in hs hG).few
    have HL := hidb hs.len
    have HT := hidb ht
    have HC : Hid (∀ j, j < n → ∃ b off y, A = some ⟨b, off, none⟩ ∧ ys[j]? = some y ∧ in64 y.sz ∧ Hid (∀ W, Below w.heap.size w W → W.cell? ⟨b, off + j * 2, none⟩ = some (.int .i64 y.sz) ∧ W.cell? ⟨b, off + j * 2 + 1, none⟩ = some (.slice y.A y.n y.c))) := hidb (fun j hj => HI.out.cells hj)
    have HS0 : Hid (RowF w (w.alloc (.cells #[] 28)) (.slice (some ⟨w.heap.size, 0, none⟩) 0 0) []) := hidb ⟨belF_al (Below.refl _ _) _, own_empty w _ _ _ (Nat.le_refl _), fun y hy => by cases hy⟩
    obtain ⟨i0, hi0, hz0, hz1, hz2⟩ := info_parts info_fn
    obtain ⟨i1, hi1, hy0, hy1, hy2⟩ := info_parts info_u64
    clear hs hG ht cw
    go_enter Tryd.func5, Tryd.ntmps5
    go_wp2_with (go_at_call 7; (with_reducible refine cg.mono ?_); rintro e w' ⟨rfl, rfl⟩)
    clear cg
    go_loopw [5, 6] (fun v k wr => ∃ (j : Nat) (zs : List FnV), j ≤ n ∧ k = .int .i64 j ∧ RowF w wr v zs ∧ Hid (vals zs = (vals ys).take j)) (fun _ k _ => (n - intOf k).toNat)
    case atStart => exact ⟨0, [], by omega, rfl, HS0.out, hidb rfl⟩
    case round =>
      obtain ⟨j, zs, hj, rfl, hN, HV⟩ := hrel
      by_cases hlt : j < n
      · obtain ⟨b, off, y, rfl, hy, hin, HQ⟩ := HC.out j hlt
        have hyo := (HI.out.row.fns y (List.mem_of_getElem? hy))
        have hyn := HI.out.small y (List.mem_of_getElem? hy)
        obtain ⟨q0, q1⟩ := HQ.out wr hN.bel
        obtain ⟨q2, q3⟩ := HQ.out (wr.alloc (.cells #[] 46)) (hN.bel.alloc hN.bel.size _)
        have hzl : zs.length = j := by
          have := congrArg List.length HV.out
          rw [vals_length, List.length_take, vals_length, HL.out] at this; omega
        have HCE : Hid (CellsAt (wr.alloc (.cells #[] 46)).drew y.A (y.ws.map wv)) := hidb ((hyo.below (hN.bel.alloc hN.bel.size _).drew).sl.cellsAtF)
        have HNA : Hid (y.A = none → y.n = 0 ∧ y.c = 0) := hidb (fun e => ⟨by have := hyo.na e; have := hyo.nc; omega, hyo.na e⟩)
        have HLN : Hid ((y.ws.map wv).length = y.n * 1) := hidb (by rw [List.length_map, hyo.len, Nat.mul_one])
        have HON := hidb (wv_one13 y.ws)
        have HON2 : Hid (∀ (A2 : Option Addr) (c2 : Nat), ∀ u ∈ [Value.int .i64 y.sz, Value.slice A2 y.n c2], u.oneCell' = true) := hidb (fun A2 c2 u hu => by
          rcases List.mem_cons.1 hu with rfl | hu
          · rfl
          · obtain rfl := List.mem_singleton.1 hu; rfl)
        have HP1 : Hid (∀ (A5 : Option Addr) (c5 : Nat) (w5 : World), w5.ownsRow w.heap.size 46 1 (.slice A5 (0 + y.n) c5) (0 + y.n) ([] ++ y.ws.map wv) → (wr.alloc (.cells #[] 46)).drew.grownBy w5 (Value.slice (some ⟨wr.heap.size, 0, none⟩) 0 0).ownBlock → RowF w (w5.alloc (.cells #[.int .i64 y.sz, .slice A5 y.n c5] 28)) u5 zs ∧ (w5.alloc (.cells #[.int .i64 y.sz, .slice A5 y.n c5] 28)).ownsRow w.heap.size 46 1 (.slice A5 y.n c5) y.n (y.ws.map wv) ∧ Below w.heap.size w w5) := hidb (fun A5 c5 w5 h1 h2 => by
          rw [Nat.zero_add, List.nil_append] at h1
          have hb5 : Below wr.heap.size wr w5 := ((Below.refl _ _).alloc (Nat.le_refl _) _).drew.grown h2 (by simp) (fun k hk => own_ge hk (Nat.le_refl _))
          exact ⟨(hN.below hb5).below (belF_al (Below.refl _ _) _), h1.alloc _, hN.bel.trans (hb5.mono hN.bel.size)⟩)
        have HP2 : Hid (∀ (A5 A6 : Option Addr) (c5 c6 : Nat) (X w6 : World), RowF w X u5 zs → X.ownsRow w.heap.size 46 1 (.slice A5 y.n c5) y.n (y.ws.map wv) → w6.ownsRow w.heap.size 28 2 (.slice A6 (j + 1) c6) (j + 1) (cellsAll fcells zs ++ [.int .i64 y.sz, .slice A5 y.n c5]) → X.grownBy w6 u5.ownBlock → ∃ us, RowF w w6 (.slice A6 (j + 1) c6) us ∧ vals us = (vals ys).take (j + 1)) := hidb (fun A5 A6 c5 c6 X w6 k1 k2 k3 k4 => by
          rw [← hzl] at k3 ⊢
          refine ⟨_, k1.push (y := ⟨y.sz, A5, y.n, c5, y.ws⟩) ⟨k2, hyo.wd, hin⟩ k3 k4, ?_⟩
          rw [hzl, List.take_add_one, ← HV.out, vals_at hy]
          unfold vals; simp [FnV.v])
        have HOW : Hid ((wr.alloc (.cells #[] 46)).drew.ownsRow w.heap.size 46 1 (.slice (some ⟨wr.heap.size, 0, none⟩) 0 0) 0 []) := hidb (own_empty' wr _ _ _ _ rfl hN.bel.size).drew
        have hbz : w.heap.size ≤ (wr.alloc (.cells #[] 46)).drew.heap.size := by have := hN.bel.size; show _ ≤ (wr.alloc (.cells #[] 46)).heap.size; simp; omega
        have HZL := hidb hzl
        have HNN := hidb hN
        clear hy hyo hin hzl hN
        --@2
        go_wp2
        go_region_law (first
          | (refine step_append_row rfl (.tmp 31) (.tmp 36) 26 rfl w.heap.size 46 i1 (.int .u64 0) 1 8 Tryd.underlying26 hi1 hy0 hy1 hy2 rfl (by decide) _ 0 [] rfl (by exact HOW.out) (by exact hbz) y.A y.n y.c (y.ws.map wv) rfl HLN.out HNA.out (by exact HCE.out) HON.out (by unfold maxLen; omega) (by omega) ?_; intro A5 c5 w5 ho5 hg5; have K5 := hidb (HP1.out A5 c5 w5 ho5 hg5); clear ho5 hg5; rw [Nat.zero_add]; obtain ⟨q4, q5⟩ := HQ.out w5 K5.out.2.2)
          | (refine step_append_row rfl (.tmp 25) (.tmp 39) 22 rfl w.heap.size 28 i0 (.agg #[.int .i64 0, .slice none 0 0]) 2 32 Tryd.underlying22 hi0 hz0 hz1 hz2 rfl (by decide) _ j (cellsAll fcells zs) rfl (by have := K5.out.1.own; rw [HZL.out] at this; exact this) K5.out.1.bel.size (some ⟨w5.heap.size, 0, none⟩) 1 1 [.int .i64 y.sz, .slice A5 y.n c5] rfl rfl (fun h => by cases h) (cells_new w5 [.int .i64 y.sz, .slice A5 y.n c5] _) (HON2.out A5 c5) (by unfold maxLen; omega) (by omega) ?_; intro A6 c6 w6 ho6 hg6; have K6 := hidb (HP2.out A5 A6 c5 c6 _ w6 K5.out.1 K5.out.2.1 ho6 hg6); clear ho6 hg6))
        all_goals go_wp2
        all_goals go_roundw
        all_goals first
          | (obtain ⟨us, hu1, hu2⟩ := K6.out; exact ⟨j + 1, us, by omega, by go_num, hu1, hidb hu2⟩)
          | (simp [intOf]; omega)
      · have hje : j = n := by omega
        have hv : vals zs = vals ys := by rw [HV.out]; exact List.take_of_length_le (by rw [vals_length, HL.out]; omega)
        have hzl : zs.length = n := by have := congrArg List.length hv; rw [vals_length, vals_length, HL.out] at this; exact this
        obtain ⟨B, d, rfl⟩ : ∃ B d, u5 = .slice B n d := by
          rcases hN.own.2 with ⟨e, h0⟩ | ⟨g, cap, cur, e, _⟩
          · exact ⟨none, 0, by rw [← hzl, h0]; exact e⟩
          · exact ⟨_, _, by rw [← hzl]; exact e⟩
        have hrow := (hN.row hzl).more (Nat.zero_le _) (Nat.le_refl _)
        have hsm : ∀ y ∈ zs, y.n ≤ 1000 := fun y hy => by
          have h1 := (hrow.fns y hy).len
          have h2 : y.v ∈ vals ys := by rw [← hv]; exact List.mem_map.2 ⟨y, hy, rfl⟩
          obtain ⟨x, hx, ex⟩ := List.mem_map.1 h2
          have h3 := (HI.out.row.fns x hx).len
          have h4 := HI.out.small x hx
          have h5 : x.ws = y.ws := by unfold FnV.v at ex; injection ex
          rw [h5] at h3
          omega
        have htd := TabDB.below HT.out hN.bel
        have hbel := hN.bel
        cases hT : fTab (vals ys) with
        | false =>
          have k1 := code_fNew_no B n d zs 0 wr hrow (by omega) hsm (by rw [hv]; exact hT)
          have HW := hidb hbel
          have k2 : Hid (∀ W, Below wr.heap.size wr W → Calls Tryd.prog 8 #[] W fun e w' => e = .returned (.bool true) ∧ Below w.heap.size w w') := hidb (fun W hb => (awake13 W (TabDB.below htd hb)).mono fun e w' ⟨h1, h2⟩ => ⟨h1, (HW.out.trans (hb.mono HW.out.size)).trans (h2.mono (Nat.le_trans HW.out.size hb.size))⟩)
          clear hT hrow hsm htd hbel hN hv hje hzl
          --@3
          go_wp2_with (first
            | (go_at_call 10; (with_reducible refine k1.mono ?_); rintro e w1 ⟨rfl, hb1⟩)
            | (go_at_call 8; (with_reducible refine (k2.out _ hb1).mono ?_); rintro e w2 ⟨rfl, hb2⟩))
          go_ret
          exact ⟨rfl, hb2⟩
        | true =>
          have ha : fAll (vals ys) = true := by unfold fTab at hT; rw [Bool.and_eq_true] at hT; exact hT.1
          have hn1 : 1 ≤ n := by unfold fTab at hT; rw [Bool.and_eq_true, decide_eq_true_iff, vals_length, HL.out] at hT; exact hT.2.1
          have hol : (fOwns (vals ys)).length = n := by rw [fOwns_length, vals_length, HL.out]
          have HN := hidb hN
          obtain ⟨O, hO⟩ : ∃ O, fOwns (vals ys) = O := ⟨_, rfl⟩
          rw [hO] at hol
          have k1 : Hid (Calls Tryd.prog 10 #[.slice B n d] wr fun e w2 => ∃ b, e = .returned (.tuple #[.pointer (some ⟨b, 0, none⟩), .int .i64 0]) ∧ Hid (Below wr.heap.size wr w2 ∧ TbIs w2 wr.heap.size w2.heap.size b O)) := hidb (by
            refine (code_fNew B n d zs 0 wr hrow (by omega) hsm htd (by rw [hv]; exact hT)).mono ?_
            rw [hv, hO]
            rintro e w2 ⟨b, h1, h2, h3⟩
            exact ⟨b, h1, hidb ⟨h3, h2⟩⟩)
          have k2 : ∀ (w2 : World) (b : Nat), Hid (Below wr.heap.size wr w2 ∧ TbIs w2 wr.heap.size w2.heap.size b O) → Calls Tryd.prog 16 #[.pointer (some ⟨b, 0, none⟩)] w2 fun e w3 => ∃ r9 c9 us, e = .returned (.slice (some ⟨r9, 0, none⟩) n c9) ∧ us.length = n ∧ Hid (OwnSt w w3 b wr.heap.size w2.heap.size O (.slice B n d) zs (.slice (some ⟨r9, 0, none⟩) n c9) us) := fun w2 b h => by
            refine (code_fFns h.out.2 (Nat.le_refl _) (TabDB.below htd h.out.1)).mono ?_
            have e2 : fOwns O = O := by rw [← hO]; exact fOwns_twice ha
            rw [e2]
            rintro e w3 ⟨A9, c9, us, rfl, hr, hv9⟩
            have hu : us.length = n := by rw [← hol, ← hv9, vals_length]
            rw [hol] at hr ⊢
            obtain ⟨g, hg⟩ : ∃ g, A9 = some ⟨g, 0, none⟩ := by
              rcases hr.own.2 with ⟨_, h0⟩ | ⟨g, cap, cur, e, _⟩
              · omega
              · injection e with e; exact ⟨g, e⟩
            subst hg
            exact ⟨g, c9, us, rfl, hu, hidb (own_start HN.out h.out.1 h.out.2 hr)⟩
          obtain ⟨r, rfl⟩ : ∃ r, B = some ⟨r, 0, none⟩ := by
            rcases hN.own.2 with ⟨_, h0⟩ | ⟨g, cap, cur, e, _⟩
            · omega
            · injection e with e; exact ⟨g, e⟩
          have HO1 : Hid (∀ i, fPtrs O i = fPtrs (vals ys) i) := hidb (fun i => by rw [← hO]; exact fPtrs_owns ha i)
          have hsame : fSame O (vals ys) = true := by rw [← hO]; exact fSame_owns ha HI.out.wds
          have htw : fOwns O = O := by rw [← hO]; exact fOwns_twice ha
          have HSM : Hid (fSame O (vals ys) = true) := hidb hsame
          have HTW : Hid (fOwns O = O) := hidb htw
          have HOL := hidb hol
          have hsz := fTab_sizes hT
          have HPL : Hid (∀ i : Nat, i < n → (fPtrs O (i : Int)).length ≤ 2560) := hidb (fun i hi => by
            rw [HO1.out]
            unfold fPtrs
            rw [vals_length, HL.out, if_neg (by omega)]
            refine Nat.le_trans (bBits_length _ _) ?_
            have h2 := hsz ((vals ys).getD (i : Int).toNat (0, [])) (by
              rw [List.getD_eq_getElem?_getD, List.getElem?_eq_getElem (by rw [vals_length, HL.out]; omega)]
              exact List.getElem_mem _)
            omega)
          clear hT hrow hsm htd hbel hN hv hje hzl ha hO hol hsame htw hsz
          go_wp2_with (first
            | (go_at_call 10; (with_reducible refine k1.out.mono ?_); rintro e w2 ⟨tb, rfl, hw2⟩)
            | (go_at_call 16; (with_reducible refine (k2 w2 tb hw2).mono ?_); rintro e w3 ⟨r9, c9, us, rfl, hu, hst⟩))
          have HUS := hidb hu
          have HZL : Hid (zs.length = n) := hidb (by
            have h1 := hst.out.own.own
            rcases h1.2 with ⟨h2, _⟩ | ⟨g, cap, cur, e, _⟩
            · cases h2
            · injection e with _ e _; exact e.symm)
          obtain ⟨wlo, hwlo⟩ : ∃ x, x = wr.heap.size := ⟨_, rfl⟩
          obtain ⟨whi, hwhi⟩ : ∃ x, x = w2.heap.size := ⟨_, rfl⟩
          rw [← hwlo, ← hwhi] at hst
          clear k1 k2 hu hw2 hwlo hwhi
          go_loopw [10] (fun k wr => ∃ (i : Nat) (yo : List FnV), i ≤ n ∧ k = .int .i64 i ∧ Hid (yo.length = n) ∧ Hid (OwnSt w wr tb wlo whi O (.slice (some ⟨r, 0, none⟩) n d) yo (.slice (some ⟨r9, 0, none⟩) n c9) us)) (fun k _ => (n - intOf k).toNat)
          case atStart => exact ⟨0, zs, by omega, rfl, HZL, hst⟩
          case round =>
            obtain ⟨i, yo, hi, rfl, HYL, hS⟩ := hrel
            by_cases hlt : i < n
            · obtain ⟨b, off, y0, rfl, hy0, hin0, HQ⟩ := HC.out i hlt
              have hyo := HI.out.row.fns y0 (List.mem_of_getElem? hy0)
              have hyn := HI.out.small y0 (List.mem_of_getElem? hy0)
              obtain ⟨y, hy⟩ : ∃ y, yo[i]? = some y := ⟨_, List.getElem?_eq_getElem (by rw [HYL.out]; exact hlt)⟩
              obtain ⟨z, hz⟩ : ∃ z, us[i]? = some z := ⟨_, List.getElem?_eq_getElem (by rw [HUS.out]; exact hlt)⟩
              have HY := hidb hy
              have HZ := hidb hz
              have hpl := HPL.out i hlt
              obtain ⟨L, hL⟩ : ∃ L, fPtrs O (i : Int) = L := ⟨_, rfl⟩
              rw [hL] at hpl
              have hLb : bBits y0.ws (min y0.sz.toNat (64 * y0.n)) = L := by
                rw [← hL, HO1.out, ← hyo.len]
                unfold fPtrs
                rw [vals_length, HL.out, if_neg (by omega), show ((i : Int)).toNat = i by omega, getD_at _ _ _ _ (vals_at hy0)]
              have KP : ∀ (W : World) (yo : List FnV), Hid (OwnSt w W tb wlo whi O (.slice (some ⟨r, 0, none⟩) n d) yo (.slice (some ⟨r9, 0, none⟩) n c9) us) → Calls Tryd.prog 20 #[.pointer (some ⟨tb, 0, none⟩), .int .i64 (i : Int)] W fun e w' => ∃ A2 c2, e = .returned (.slice A2 L.length c2) ∧ Hid (Below W.heap.size W w' ∧ w'.ownsRow W.heap.size 3 1 (.slice A2 L.length c2) L.length (L.map iv)) := fun W yo h => by
                refine (code_fptrs h.out.tb.o h.out.l2 (i : Int) (TabDB.below HT.out h.out.bel)).mono ?_
                rw [hL]
                rintro e w' ⟨A2, c2, rfl, h1, h2⟩
                exact ⟨A2, c2, rfl, hidb ⟨h2, h1⟩⟩
              have KB : ∀ (W : World) (yo : List FnV) (A2 : Option Addr), Hid (OwnL (fun W => OwnSt w W tb wlo whi O (.slice (some ⟨r, 0, none⟩) n d) yo (.slice (some ⟨r9, 0, none⟩) n c9) us) A2 L W) → Calls Tryd.prog 21 #[.slice y0.A y0.n y0.c, .int .i64 y0.sz] W fun e w' => ∃ B2 d2, e = .returned (.slice B2 L.length d2) ∧ Hid (OwnL (fun W => OwnSt w W tb wlo whi O (.slice (some ⟨r, 0, none⟩) n d) yo (.slice (some ⟨r9, 0, none⟩) n c9) us) A2 L w' ∧ Sl w' w'.heap.size B2 L.length (L.map iv)) := fun W yo A2 h => by
                have hb := h.out.1.bel
                refine (ref_bbits y0.A y0.n y0.c y0.ws y0.sz W (((hyo.below hb).sl).more hb.size) (by omega) hyo.wd hin0.1 hin0.2).mono ?_
                rw [hLb]
                rintro e w' ⟨B2, d2, rfl, h1, h2⟩
                exact ⟨B2, d2, rfl, hidb ⟨⟨h.out.1.below h2, (h.out.2.below h2).more h2.size⟩, Sl.of_own h1⟩⟩
              have KI : ∀ (W : World) (yo : List FnV) (A2 B2 : Option Addr) (c2 d2 : Nat), Hid (OwnL (fun W => OwnSt w W tb wlo whi O (.slice (some ⟨r, 0, none⟩) n d) yo (.slice (some ⟨r9, 0, none⟩) n c9) us) A2 L W ∧ Sl W W.heap.size B2 L.length (L.map iv)) → Calls Tryd.prog 25 #[.slice A2 L.length c2, .slice B2 L.length d2] W fun e w' => e = .returned (.bool true) ∧ Hid (OwnSt w w' tb wlo whi O (.slice (some ⟨r, 0, none⟩) n d) yo (.slice (some ⟨r9, 0, none⟩) n c9) us) := fun W yo A2 B2 c2 d2 h => by
                have := ref_bints A2 B2 L.length c2 L.length d2 L L W _ _ h.out.1.2 h.out.2 (by omega) (by omega)
                rw [show decide (L = L) = true by simp] at this
                exact this.mono fun e w' ⟨h1, q, h2⟩ => ⟨h1, by rw [h2]; exact hidb (h.out.1.1.drewN q)⟩
              clear hy hz hy0 hin0 hyo hyn hL hLb
              obtain ⟨g0, g1, gf, gn, _⟩ := hS.out.oat HYL.out HY.out
              obtain ⟨wo, rfl⟩ : ∃ wo : World, wo = wr := ⟨_, rfl⟩
              --@4
              go_wp2
              go_loopw [11] (fun k wq => ∃ j : Nat, j ≤ y.n ∧ k = .int .i64 j ∧ Hid (OwnSt w wq tb wlo whi O (.slice (some ⟨r, 0, none⟩) n d) yo (.slice (some ⟨r9, 0, none⟩) n c9) us)) (fun k _ => (y.n - intOf k).toNat)
              case atStart => exact ⟨0, by omega, rfl, hS⟩
              case round =>
                obtain ⟨j, hj, rfl, hS⟩ := hrel
                clear g0 g1
                obtain ⟨g0, g1, gf2, _, gst⟩ := hS.out.oat HYL.out HY.out
                by_cases hjk : j < y.n
                · obtain ⟨g, hg, ⟨u, hu⟩, hfz, hset⟩ := gst j hjk
                  have HSET := hidb (hset (.int .u64 mark))
                  rw [hg] at g1
                  have j0 : (0 : Int) ≤ (j : Int) := by omega
                  have j1 : (j : Int) < (y.n : Int) := by omega
                  clear gst hset hg
                  go_wp2
                  go_roundw
                  case rel => exact ⟨j + 1, by omega, by go_num, HSET⟩
                  case measure => simp [intOf]; omega
                · clear gst
                  obtain ⟨z0, z1, zn, _⟩ := hS.out.gat HUS.out HZ.out
                  obtain ⟨wo, rfl⟩ : ∃ wo : World, wo = wr := ⟨_, rfl⟩
                  go_wp2
                  go_loopw [12] (fun k wq => ∃ j : Nat, j ≤ z.n ∧ k = .int .i64 j ∧ Hid (OwnSt w wq tb wlo whi O (.slice (some ⟨r, 0, none⟩) n d) yo (.slice (some ⟨r9, 0, none⟩) n c9) us)) (fun k _ => (z.n - intOf k).toNat)
                  case atStart => exact ⟨0, by omega, rfl, hS⟩
                  case round =>
                    obtain ⟨j, hj, rfl, hS⟩ := hrel
                    clear z0 z1 g0 g1 gf2
                    obtain ⟨z0, z1, _, zst⟩ := hS.out.gat HUS.out HZ.out
                    by_cases hjk : j < z.n
                    · obtain ⟨g, hg, ⟨u, hu⟩, hfz, hset⟩ := zst j hjk
                      have HSET := hidb (hset (.int .u64 mark))
                      rw [hg] at z1
                      have j0 : (0 : Int) ≤ (j : Int) := by omega
                      have j1 : (j : Int) < (z.n : Int) := by omega
                      clear zst hset hg
                      go_wp2
                      go_roundw
                      case rel => exact ⟨j + 1, by omega, by go_num, HSET⟩
                      case measure => simp [intOf]; omega
                    · clear zst
                      go_wp2_with (go_at_call 20; (with_reducible refine (KP _ _ hS).mono ?_); rintro e w5 ⟨A2, c2, rfl, hw5⟩)
                      obtain ⟨wq, hwq⟩ : ∃ x, x = wr := ⟨_, rfl⟩
                      rw [← hwq] at hw5 hS
                      clear hwq
                      go_loopw [14] (fun k wp => ∃ (j : Nat) (xs : List Value), j ≤ L.length ∧ k = .int .i64 j ∧ Hid (Below wq.heap.size wq wp ∧ wp.ownsRow wq.heap.size 3 1 (.slice A2 L.length c2) L.length xs)) (fun k _ => (L.length - intOf k).toNat)
                      case atStart => exact ⟨0, _, by omega, rfl, hw5⟩
                      case round =>
                        obtain ⟨j, xs, hj, rfl, hP⟩ := hrel
                        by_cases hjk : j < L.length
                        · obtain ⟨g, cap, hv, hgb, hglt⟩ := hP.out.2.form (by omega)
                          obtain rfl : A2 = some ⟨g, 0, none⟩ := by injection hv
                          have hl : xs.length = L.length := by have := hP.out.2.1; omega
                          have hu : wr.cell? ⟨g, j, none⟩ = some (xs[j]'(by omega)) := by rw [hP.out.2.cellAt j (by omega)]; exact List.getElem?_eq_getElem _
                          have hfz := hP.out.2.frozenAt j
                          have HSET : Hid (∃ xs', Below wq.heap.size wq (wr.setCell ⟨g, j, none⟩ (.int .i64 0)) ∧ (wr.setCell ⟨g, j, none⟩ (.int .i64 0)).ownsRow wq.heap.size 3 1 (.slice (some ⟨g, 0, none⟩) L.length c2) L.length xs') := hidb ⟨_, hP.out.1.setCell (p := ⟨g, j, none⟩) hgb _, (hP.out.2.stored j _).1⟩
                          have j0 : (0 : Int) ≤ (j : Int) := by omega
                          have j1 : (j : Int) < (L.length : Int) := by omega
                          clear hv
                          go_wp2
                          go_roundw
                          case rel => obtain ⟨xs', h1, h2⟩ := HSET.out; exact ⟨j + 1, xs', by omega, by go_num, hidb ⟨h1, h2⟩⟩
                          case measure => simp [intOf]; omega
                        · have hS6 := hidb (hS.out.below hP.out.1)
                          obtain ⟨g0, g1, gf2, _, _⟩ := hS6.out.oat HYL.out HY.out
                          have gf3 := gf2 (i * 2)
                          have HS7 := hidb (hS6.out.setSz HYL.out HY.out 0)
                          obtain ⟨q0, q1⟩ := HQ.out _ HS7.out.bel
                          have HYL2 : Hid ((yo.set i { y with sz := 0 }).length = n) := hidb (by rw [List.length_set]; exact HYL.out)
                          have HD : Hid (∀ W, OwnSt w W tb wlo whi O (.slice (some ⟨r, 0, none⟩) n d) (yo.set i { y with sz := 0 }) (.slice (some ⟨r9, 0, none⟩) n c9) us → W.drew.cell? ⟨b, off + i * 2, none⟩ = some (.int .i64 y0.sz) ∧ W.drew.cell? ⟨b, off + i * 2 + 1, none⟩ = some (.slice y0.A y0.n y0.c)) := hidb (fun W h => HQ.out W.drew h.bel.drew)
                          generalize (yo.set i { y with sz := 0 }) = yp at *
                          clear g1 gf2 HD
                          have KP2 : ∀ (W : World), Hid (OwnSt w W tb wlo whi O (.slice (some ⟨r, 0, none⟩) n d) yp (.slice (some ⟨r9, 0, none⟩) n c9) us) → Calls Tryd.prog 20 #[.pointer (some ⟨tb, 0, none⟩), .int .i64 (i : Int)] W fun e w' => ∃ A2 c2, e = .returned (.slice A2 L.length c2) ∧ Below w.heap.size w w' ∧ Hid (OwnL (fun W => OwnSt w W tb wlo whi O (.slice (some ⟨r, 0, none⟩) n d) yp (.slice (some ⟨r9, 0, none⟩) n c9) us) A2 L w') := fun W h => by
                            refine (KP W yp h).mono ?_
                            rintro e w' ⟨A2, c2, rfl, h2⟩
                            have h3 := h.out.below h2.out.1
                            exact ⟨A2, c2, rfl, h3.bel, hidb ⟨h3, Sl.of_own h2.out.2⟩⟩
                          have KB2 : ∀ (W : World) (A2 : Option Addr), Hid (OwnL (fun W => OwnSt w W tb wlo whi O (.slice (some ⟨r, 0, none⟩) n d) yp (.slice (some ⟨r9, 0, none⟩) n c9) us) A2 L W) → Calls Tryd.prog 21 #[.slice y0.A y0.n y0.c, .int .i64 y0.sz] W fun e w' => ∃ B2 d2, e = .returned (.slice B2 L.length d2) ∧ Below w.heap.size w w' ∧ Hid (OwnL (fun W => OwnSt w W tb wlo whi O (.slice (some ⟨r, 0, none⟩) n d) yp (.slice (some ⟨r9, 0, none⟩) n c9) us) A2 L w' ∧ Sl w' w'.heap.size B2 L.length (L.map iv)) := fun W A2 h => by
                            refine (KB W yp A2 h).mono ?_
                            rintro e w' ⟨B2, d2, rfl, h2⟩
                            exact ⟨B2, d2, rfl, h2.out.1.1.bel, h2⟩
                          have KI2 : ∀ (W : World) (A2 B2 : Option Addr) (c2 d2 : Nat), Hid (OwnL (fun W => OwnSt w W tb wlo whi O (.slice (some ⟨r, 0, none⟩) n d) yp (.slice (some ⟨r9, 0, none⟩) n c9) us) A2 L W ∧ Sl W W.heap.size B2 L.length (L.map iv)) → Calls Tryd.prog 25 #[.slice A2 L.length c2, .slice B2 L.length d2] W fun e w' => e = .returned (.bool true) ∧ Below w.heap.size w w' ∧ Hid (OwnSt w w' tb wlo whi O (.slice (some ⟨r, 0, none⟩) n d) yp (.slice (some ⟨r9, 0, none⟩) n c9) us) := fun W A2 B2 c2 d2 h => by
                            refine (KI W yp A2 B2 c2 d2 h).mono ?_
                            rintro e w' ⟨rfl, h2⟩
                            exact ⟨rfl, h2.out.bel, h2⟩
                          clear KP KB KI
                          go_wp2
                          generalize (wr.setCell ⟨r, i * 2, none⟩ (.int .i64 0)) = W8 at HS7 q0 q1 ⊢
                          have HS8 : Hid (OwnSt w W8.drew tb wlo whi O (.slice (some ⟨r, 0, none⟩) n d) yp (.slice (some ⟨r9, 0, none⟩) n c9) us) := hidb (HS7.out.below ((Below.refl _ _).drew))
                          go_region_held3 (fun W => W.cell? ⟨b, off + i * 2, none⟩ = some (.int .i64 y0.sz) ∧ W.cell? ⟨b, off + i * 2 + 1, none⟩ = some (.slice y0.A y0.n y0.c))
                            (first | (exact ⟨q0, q1⟩) | ((with_reducible refine HQ.out _ ?_); assumption) | (go_keep; done))
                            (first
                              | (go_at_call 20; ((with_reducible refine (KP2 _ HS8).mono ?_); rintro e w9 ⟨A9, c10, rfl, hb9, hs9⟩))
                              | (go_at_call 21; ((with_reducible refine (KB2 _ _ hs9).mono ?_); rintro e w10 ⟨B10, d10, rfl, hb10, hs10⟩))
                              | (go_at_call 25; ((with_reducible refine (KI2 _ _ _ _ _ hs10).mono ?_); rintro e w11 ⟨rfl, hb11, hs11⟩)))
                          clear hb9 hb10 hb11 q0 q1
                          go_wp2
                          go_roundw
                          case rel => exact ⟨i + 1, yp, by omega, by go_num, HYL2, hs11⟩
                          case measure => simp [intOf]; omega
            · have k6 := fun W sW => t_fFns (w := w) (l := O) HT.out W (b := tb) sW O HTW.out
              have k7 := fun (B : Option Addr) (d : Nat) (zs : List FnV) p l W lo sW hz => t_fsame (c := c) (B := B) (k := n) (d := d) (zs := zs) (p := p) (l := l) HI.out W lo sW O hz HSM.out (by omega)
              have kw := fun W p l sW => t_awake13 HT.out W p l sW
              have hs5 := hidb hS.out.s13
              rw [HOL.out] at k6
              --@5
              go_wp2_with (first
                | (go_at_call 16; (with_reducible refine (k6 _ hs5).mono ?_); rintro e w6 ⟨B, d6, zs6, rfl, hs6, hz6⟩)
                | (go_at_call 15; (with_reducible refine (k7 _ _ _ _ _ _ _ hs6 hz6).mono ?_); rintro e w7 ⟨rfl, hs7⟩)
                | (go_at_call 8; (with_reducible refine (kw _ _ _ hs7).mono ?_); rintro e w8 ⟨rfl, hs8⟩))
              go_ret
              exact ⟨rfl, hs8.out.bel⟩
end Go.Proofs.YtieknifbmamdaaaDoor
