/- Layer 10's statement on any row of acts. -/
import Derived.Test.YtonmkanppapjjaaGreatLargePlays0
import Derived.Deep.RegionHeld3
import Derived.Deep.Cut
import Derived.Deep.CutRange
namespace Go.Proofs.YtonmkanppapjjaaGreat
open Go.RowKit Go.Maps
set_option linter.unusedVariables false

set_option maxRecDepth 100000 in
set_option maxHeartbeats 8000000 in
theorem largePlays_any (pages : Int) (A0 : Option Addr) (m c : Nat) (l : List Act10) (n : Int) (w : World) (h0 : in64 pages) (hn0 : in64 n) (hm : m ≤ maxLen) (hs : RowOf (Act10Is w) 5 w w.heap.size A0 m l) :
    Calls Tryz.prog 9 #[.int .i64 pages, .slice A0 m c, .int .i64 n] w fun e w' => e = .returned (.bool true) ∧ Below w.heap.size w w' := by
  have cw := fun W => awake10 W
  unfold maxLen at hm
  by_cases g1 : 100 < pages
  · clear hs
    --@10
    go_enter Tryz.func9, Tryz.ntmps9
    go_wp2_with (first
      | (go_at_call 32; (with_reducible refine (cw _).mono ?_); rintro e w1 ⟨rfl, hb⟩))
    go_ret
    exact ⟨rfl, hb⟩
  by_cases g3 : (100 : Int) < (m : Int)
  · clear hs
    --@11
    go_enter Tryz.func9, Tryz.ntmps9
    go_wp2_with (first
      | (go_at_call 32; (with_reducible refine (cw _).mono ?_); rintro e w1 ⟨rfl, hb⟩))
    go_ret
    exact ⟨rfl, hb⟩
  by_cases hp : pages < 4 ∨ 1024 < pages
  · have cn := code_hnew_no pages w hp
    have ck := code_knew_nil w
    have CR : Hid (Calls Tryz.prog 12 #[.int .i64 pages] (w.alloc (.cells #[.int .i64 0, .slice none 0 0, .slice none 0 0, .int .i64 0, .slice none 0 0, .slice none 0 0, .bool false] 76)) fun e w3 => ∃ A n c A2 n2 c2 k0 la e0, e = .returned (.tuple #[.agg #[.int .i64 k0, .slice A n c, .slice A2 n2 c2, .int .i64 la], .int .i64 e0]) ∧ F7 w3 w.heap.size (.int .i64 0) (.slice none 0 0) (.slice none 0 0) (.int .i64 0) (.slice none 0 0) (.slice none 0 0) (.bool false) ∧ Hid (Below w.heap.size w w3)) := hidb (by
      have hb1 := (Below.refl w.heap.size w).alloc (Nat.le_refl _) (.cells #[.int .i64 0, .slice none 0 0, .slice none 0 0, .int .i64 0, .slice none 0 0, .slice none 0 0, .bool false] 76)
      have := ref_hnew (fun _ => True) pages (w.alloc (.cells #[.int .i64 0, .slice none 0 0, .slice none 0 0, .int .i64 0, .slice none 0 0, .slice none 0 0, .bool false] 76)) (fun b hb => trivial) h0.1 h0.2
      rw [hNew_no hp] at this
      refine this.mono ?_
      rintro e w3 ⟨⟨v, rfl, hh⟩, hb⟩
      obtain ⟨A, c, A2, c2, rfl, hrest⟩ := hh
      exact ⟨A, _, c, A2, _, c2, _, _, _, rfl, (F7.made w _ _ _ _ _ _ _ _).below hb, hidb (hb1.trans (hb.mono hb1.size))⟩)
    have hne : ¬ (1 : Int) = 0 := by omega
    clear hs hp
    --@12
    go_enter Tryz.func9, Tryz.ntmps9
    go_wp2_with (first
      | (go_at_call 31; (with_reducible refine cn.mono ?_); rintro e w1 ⟨rfl, rfl⟩)
      | (go_at_call 33; (with_reducible refine ck.mono ?_); rintro e w2 ⟨rfl, rfl⟩)
      | (go_at_call 12; (with_reducible refine CR.out.mono ?_); rintro e w3 ⟨A, n1, c1, A2, n2, c2, k0, la, e0, rfl, ⟨x0, x1, x2, x3, x4, x5, x6, xf⟩, HB⟩; have xf0 := xf 0; have xf1 := xf 1; have xf2 := xf 2; have xf3 := xf 3; clear xf)
      | (go_at_call 32; (with_reducible refine (cw _).mono ?_); rintro e w4 ⟨rfl, hb⟩))
    go_ret
    exact ⟨rfl, bel_tr2 (below_set4 HB.out (Nat.le_refl _) _ _ _ _) hb⟩
  obtain ⟨F, hN, cn⟩ := t_hnew pages w (by omega) (by omega)
  have HR := hidb hs
  clear hs
  have CN : Hid (∀ W p Sh, HeapSt w W p Sh ⟨pages, F, [], 0⟩ 0 pages → Calls Tryz.prog 33 #[.pointer (some ⟨p, 0, none⟩)] W fun e w' => ∃ q S, e = .returned (.pointer (some ⟨q, 0, none⟩)) ∧ Hid (KeepSt w w' q p S ⟨⟨pages, F, [], 0⟩, [], [], false⟩ 0 pages)) := hidb (fun W p Sh s => (t_knew s).mono fun e w' ⟨q, S, a, b⟩ => ⟨q, S, a, hidb b⟩)
  have CR : Hid (∀ w2 q p S, Hid (KeepSt w w2 q p S ⟨⟨pages, F, [], 0⟩, [], [], false⟩ 0 pages) → Calls Tryz.prog 12 #[.int .i64 pages] (w2.alloc (.cells #[.int .i64 0, .slice none 0 0, .slice none 0 0, .int .i64 0, .slice none 0 0, .slice none 0 0, .bool false] 76)) fun e w3 => ∃ A n c A2 n2 c2, e = .returned (.tuple #[.agg #[.int .i64 pages, .slice A n c, .slice A2 n2 c2, .int .i64 0], .int .i64 0]) ∧ F7 w3 w2.heap.size (.int .i64 0) (.slice none 0 0) (.slice none 0 0) (.int .i64 0) (.slice none 0 0) (.slice none 0 0) (.bool false) ∧
      Hid (L10 w (set4 w3 w2.heap.size (.int .i64 pages) (.slice A n c) (.slice A2 n2 c2) (.int .i64 0)) q p w2.heap.size S ⟨⟨pages, F, [], 0⟩, [], [], false⟩ 0 pages A n c A2 n2 c2 none 0 0 none 0 0)) := hidb (fun w2 q p S s => by
    have := ref_hnew (fun b => ¬ S b ∧ w2.heap.size ≠ b) pages (w2.alloc (.cells #[.int .i64 0, .slice none 0 0, .slice none 0 0, .int .i64 0, .slice none 0 0, .slice none 0 0, .bool false] 76)) (fun b hb => ⟨fun c => by have := s.out.lt b c; simp at hb; omega, by simp at hb; omega⟩) h0.1 h0.2
    rw [hN] at this
    refine this.mono ?_
    rintro e w3 ⟨⟨v, rfl, hh⟩, hb⟩
    obtain ⟨A, c, A2, c2, rfl, hrest⟩ := hh
    have h9 : HIs w3 (fun b => ¬ S b ∧ w2.heap.size ≠ b) ⟨pages, F, [], 0⟩ (hval pages A F.length c A2 0 c2 0) := ⟨A, c, A2, c2, rfl, hrest⟩
    have h8 := L10.start s.out hb h9
    refine ⟨A, F.length, c, A2, 0, c2, rfl, (F7.made w2 _ _ _ _ _ _ _ _).below hb, hidb h8⟩)
  --@15
  go_enter Tryz.func9, Tryz.ntmps9
  go_wp2_with (first
    | (go_at_call 31; (with_reducible refine cn.mono ?_); rintro e w1 ⟨p, Sh, rfl, s1⟩; have c2 := CN.out _ _ _ s1; clear s1)
    | (go_at_call 33; (with_reducible refine c2.mono ?_); rintro e w2 ⟨q, S2, rfl, s2⟩)
    | (go_at_call 12; (with_reducible refine (CR.out _ _ _ _ s2).mono ?_); rintro e w3 ⟨A, n1, c1, A2, n2, c2', rfl, ⟨x0, x1, x2, x3, x4, x5, x6, xf⟩, HL⟩; have xf0 := xf 0; have xf1 := xf 1; have xf2 := xf 2; have xf3 := xf 3; clear xf))
  obtain ⟨mb, hmb⟩ : ∃ mb, mb = w2.heap.size := ⟨_, rfl⟩
  obtain ⟨W4, hW4⟩ : ∃ W4, W4 = set4 w3 w2.heap.size (.int .i64 pages) (.slice A n1 c1) (.slice A2 n2 c2') (.int .i64 0) := ⟨_, rfl⟩
  rw [← hW4] at HL
  unfold set4 at hW4
  rw [← hW4]
  rw [← hmb] at HL ⊢
  clear cn CN CR s2 x0 x1 x2 x3 x4 x5 x6 xf0 xf1 xf2 xf3 hW4 hmb
  go_loopw [11] (fun x wr => ∃ (j : Nat) (S : Nat → Prop) (u : LargeV) (B : Option Addr) (j1 d1 : Nat) (B2 : Option Addr) (j2 d2 : Nat) (B3 : Option Addr) (j3 d3 : Nat) (B4 : Option Addr) (j4 d4 : Nat), j ≤ m ∧ x = .int .i64 j ∧ Hid (L10 w wr q p mb S u j pages B j1 d1 B2 j2 d2 B3 j3 d3 B4 j4 d4)) (fun x _ => (m - intOf x).toNat)
  case atStart => exact ⟨0, S2, _, A, n1, c1, A2, n2, c2', none, 0, 0, none, 0, 0, Nat.zero_le _, rfl, HL⟩
  case round =>
    obtain ⟨j, S, u, B, j1, d1, B2, j2, d2, B3, j3, d3, B4, j4, d4, hj, rfl, HK⟩ := hrel
    by_cases hlt : j < m
    · obtain ⟨b, off, a, cs, rfl, hbs, hx, hl5, hc, hcs, hkd, hn, hor, hcap, hids, hi64⟩ := (RowOf.below HR.out HK.out.st.bel).at_ hlt
      subst hcs
      have a0 : wr.cell? ⟨b, off + j * 5, none⟩ = some (.int .i64 a.kind) := hc 0 (by omega)
      have a1 : wr.cell? ⟨b, off + j * 5 + 1, none⟩ = some (.int .i64 a.n) := hc 1 (by omega)
      have a2 : wr.cell? ⟨b, off + j * 5 + 2, none⟩ = some (.int .i64 a.order) := hc 2 (by omega)
      have a3 : wr.cell? ⟨b, off + j * 5 + 3, none⟩ = some (.bool a.on) := hc 3 (by omega)
      have a4 : wr.cell? ⟨b, off + j * 5 + 4, none⟩ = some (.slice a.A a.len a.cap) := hc 4 (by omega)
      have hi0 : (0 : Int) ≤ (j : Int) := by omega
      have hi1 : (j : Int) < (m : Int) := by omega
      by_cases g4 : (20 : Int) < (a.len : Int)
      · clear hc hl5 hx
        --@1
        go_wp2_with (first
          | (go_at_call 32; (with_reducible refine (cw _).mono ?_); rintro e w5 ⟨rfl, hb5⟩))
        go_ret
        exact ⟨rfl, bel_tr2 HK.out.st.bel hb5⟩
      obtain ⟨u', hu'⟩ : ∃ u', kStep u a = u' := ⟨_, rfl⟩
      obtain ⟨la, hla⟩ : ∃ x, u.h.last = x := ⟨_, rfl⟩
      obtain ⟨la', hla'⟩ : ∃ x, u'.h.last = x := ⟨_, rfl⟩
      obtain ⟨hd, hhd⟩ : ∃ x, u.held = x := ⟨_, rfl⟩
      obtain ⟨hd', hhd'⟩ : ∃ x, u'.held = x := ⟨_, rfl⟩
      have f0 : F7 wr mb (.int .i64 pages) (.slice B j1 d1) (.slice B2 j2 d2) (.int .i64 la) (.slice B3 j3 d3) (.slice B4 j4 d4) (.bool hd) := by
        have := HK.out.f7
        rw [HK.out.st.pg, hla, hhd] at this
        exact this
      have hbl := lt_of_cell a0
      have hml := f0.lt
      simp only at hbl
      have hl := hcap.2
      unfold maxLen at hl
      have hids2 := (hids.below HK.out.st.bel).more HK.out.st.bel.size
      obtain ⟨wo, rfl⟩ : ∃ wo : World, wo = wr := ⟨_, rfl⟩
      have CB : Hid (Calls Tryz.prog 38 #[.pointer (some ⟨p, 0, none⟩), .pointer (some ⟨q, 0, none⟩), .agg #[.int .i64 pages, .slice B j1 d1, .slice B2 j2 d2, .int .i64 la, .slice B3 j3 d3, .slice B4 j4 d4, .bool hd], .agg #[.int .i64 a.kind, .int .i64 a.n, .int .i64 a.order, .bool a.on, .slice a.A a.len a.cap]] wo.drew fun e w6 => ∃ C k1 e1 C2 k2 e2 C3 k3 e3 C4 k4 e4, e = .returned (.tuple #[.bool true, .agg #[.int .i64 pages, .slice C k1 e1, .slice C2 k2 e2, .int .i64 la', .slice C3 k3 e3, .slice C4 k4 e4, .bool hd']]) ∧ F7 w6 mb (.int .i64 pages) (.slice B j1 d1) (.slice B2 j2 d2) (.int .i64 la) (.slice B3 j3 d3) (.slice B4 j4 d4) (.bool hd) ∧ wo.heap.size ≤ w6.heap.size ∧
          Hid (∀ W4, Below w6.heap.size w6 W4 → ∃ S', L10 w (set7 W4 mb (.int .i64 pages) (.slice C k1 e1) (.slice C2 k2 e2) (.int .i64 la') (.slice C3 k3 e3) (.slice C4 k4 e4) (.bool hd')) q p mb S' u' (j + 1) pages C k1 e1 C2 k2 e2 C3 k3 e3 C4 k4 e4)) := hidb (by
        have hbd : Below wo.heap.size wo wo.drew := (Below.refl _ _).drew
        have := (HK.out.below hbd).does (by omega) a hn hor ((hids2.below hbd).more hbd.size) (by omega) ⟨hcap.1, by omega⟩ hi64 la la' hd hd' hla hhd (by rw [hu']; exact hla') (by rw [hu']; exact hhd')
        rw [hu'] at this
        exact this)
      have CA : Hid (Calls Tryz.prog 38 #[.pointer (some ⟨p, 0, none⟩), .pointer (some ⟨q, 0, none⟩), .agg #[.int .i64 pages, .slice B j1 d1, .slice B2 j2 d2, .int .i64 la, .slice B3 j3 d3, .slice B4 j4 d4, .bool hd], .agg #[.int .i64 a.kind, .int .i64 a.n, .int .i64 a.order, .bool a.on, .slice a.A a.len a.cap]] (wo.alloc (.cells #[.int .i64 0, .slice none 0 0, .slice none 0 0, .int .i64 0, .slice none 0 0, .slice none 0 0, .bool false] 76)).drew fun e w6 => ∃ C k1 e1 C2 k2 e2 C3 k3 e3 C4 k4 e4, e = .returned (.tuple #[.bool true, .agg #[.int .i64 pages, .slice C k1 e1, .slice C2 k2 e2, .int .i64 la', .slice C3 k3 e3, .slice C4 k4 e4, .bool hd']]) ∧ F7 w6 mb (.int .i64 pages) (.slice B j1 d1) (.slice B2 j2 d2) (.int .i64 la) (.slice B3 j3 d3) (.slice B4 j4 d4) (.bool hd) ∧ F7 w6 wo.heap.size (.int .i64 0) (.slice none 0 0) (.slice none 0 0) (.int .i64 0) (.slice none 0 0) (.slice none 0 0) (.bool false) ∧ mb < wo.heap.size ∧ wo.heap.size < w6.heap.size ∧
          Hid (∀ W4, Kept (fun b => wo.heap.size = b) w6 W4 → ∃ S', L10 w (set7 W4 mb (.int .i64 pages) (.slice C k1 e1) (.slice C2 k2 e2) (.int .i64 la') (.slice C3 k3 e3) (.slice C4 k4 e4) (.bool hd')) q p mb S' u' (j + 1) pages C k1 e1 C2 k2 e2 C3 k3 e3 C4 k4 e4)) := hidb (by
        have hbd : Below wo.heap.size wo (wo.alloc (.cells #[.int .i64 0, .slice none 0 0, .slice none 0 0, .int .i64 0, .slice none 0 0, .slice none 0 0, .bool false] 76)).drew := ((Below.refl _ _).alloc (Nat.le_refl _) _).drew
        have := HK.out.does2 hbd ((F7.made wo _ _ _ _ _ _ _ 76).below (Below.refl _ _).drew) (by omega) a hn hor hids2 (by omega) ⟨hcap.1, by omega⟩ hi64 la la' hd hd' hla hhd (by rw [hu']; exact hla') (by rw [hu']; exact hhd')
        rw [hu'] at this
        exact this)
      have HPG : Hid (u'.h.last = la' ∧ u'.held = hd') := hidb ⟨hla', hhd'⟩
      obtain ⟨y0, y1, y2, y3, y4, y5, y6, _⟩ := f0
      clear hc hl5 hx hla hla' hhd hhd' hids hids2 hi64 hcap HR hu' hn hor hkd
      have ca := CA.out
      have cb := CB.out
      clear CA CB
      go_wp2
      go_cut [12, 13] from 57 to 67 (fun v12 v13 wx => v12 = .bool true ∧ ∃ t C k1 e1 C2 k2 e2 C3 k3 e3 C4 k4 e4, v13 = .pointer (some ⟨t, 0, none⟩) ∧ t ≠ mb ∧ F7 wx t (.int .i64 pages) (.slice C k1 e1) (.slice C2 k2 e2) (.int .i64 la') (.slice C3 k3 e3) (.slice C4 k4 e4) (.bool hd') ∧ F7 wx mb (.int .i64 pages) (.slice B j1 d1) (.slice B2 j2 d2) (.int .i64 la) (.slice B3 j3 d3) (.slice B4 j4 d4) (.bool hd) ∧
        Hid (∃ S', L10 w (set7 wx mb (.int .i64 pages) (.slice C k1 e1) (.slice C2 k2 e2) (.int .i64 la') (.slice C3 k3 e3) (.slice C4 k4 e4) (.bool hd')) q p mb S' u' (j + 1) pages C k1 e1 C2 k2 e2 C3 k3 e3 C4 k4 e4))
      case first =>
        --@2
        clear HPG HK cw
        go_region_law
          (first
            | (go_simp; go_at_call 38; (with_reducible refine ca.mono ?_); rintro e w6 ⟨C, k1, e1, C2, k2, e2, C3, k3, e3, C4, k4, e4, rfl, hfm, hft, hmt, hts, HN⟩; have HFM := hidb hfm; have HFT := hidb hft; obtain ⟨t0, t1, t2, t3, t4, t5, t6, tf⟩ := hft; have tf0 := tf 0; have tf1 := tf 1; have tf2 := tf 2; have tf3 := tf 3; have tf4 := tf 4; have tf5 := tf 5; have tf6 := tf 6; clear tf hfm)
            | (go_simp; go_at_call 38; (with_reducible refine cb.mono ?_); rintro e w6 ⟨C, k1, e1, C2, k2, e2, C3, k3, e3, C4, k4, e4, rfl, hfm, hts, HN⟩; have hmt := hfm.lt; have HFM := hidb hfm; clear hfm))
        all_goals
          go_wp2_with fail
          go_meet
          first
            | exact ⟨rfl, wo.heap.size, C, k1, e1, C2, k2, e2, C3, k3, e3, C4, k4, e4, rfl, by omega, HFT.out.put _ _ _ _ _ _ _, HFM.out.aside7 (by omega) _ _ _ _ _ _ _, hidb (HN.out _ (kept_set7 (Kept.refl _ _) (Or.inl rfl) _ _ _ _ _ _ _))⟩
            | exact ⟨rfl, w6.heap.size, C, k1, e1, C2, k2, e2, C3, k3, e3, C4, k4, e4, rfl, by omega, F7.made w6 _ _ _ _ _ _ _ _, HFM.out.al _, hidb (HN.out _ ((Below.refl _ _).alloc (Nat.le_refl _) _))⟩
      case rest =>
        obtain ⟨rfl, t, C, k1, e1, C2, k2, e2, C3, k3, e3, C4, k4, e4, rfl, htm, ⟨t0, t1, t2, t3, t4, t5, t6, _⟩, ⟨z0, z1, z2, z3, z4, z5, z6, zf⟩, HX⟩ := hcut
        obtain ⟨wx, hwx⟩ : ∃ wx, wx = set7 wc mb (.int .i64 pages) (.slice C k1 e1) (.slice C2 k2 e2) (.int .i64 la') (.slice C3 k3 e3) (.slice C4 k4 e4) (.bool hd') := ⟨_, rfl⟩
        rw [← hwx] at HX
        obtain ⟨S', HX⟩ := HX.out
        have HX := hidb HX
        have zf0 := zf 0
        have zf1 := zf 1
        have zf2 := zf 2
        have zf3 := zf 3
        have zf4 := zf 4
        have zf5 := zf 5
        have zf6 := zf 6
        clear y0 y1 y2 y3 y4 y5 y6 a0 a1 a2 a3 a4 ca cb zf
        unfold set7 at hwx
        go_upto_region 16 with (fail)
        rw [← hwx]
        obtain ⟨L1, hL1⟩ : ∃ x, (lOf u'.kept n).map (·.1) = x := ⟨_, rfl⟩
        obtain ⟨L2, hL2⟩ : ∃ x, u'.waits.map (·.1) = x := ⟨_, rfl⟩
        obtain ⟨nk, hnk⟩ : ∃ x, L1.length = x := ⟨_, rfl⟩
        obtain ⟨nw, hnw⟩ : ∃ x, L2.length = x := ⟨_, rfl⟩
        have hf : F7 wx mb (.int .i64 pages) (.slice C k1 e1) (.slice C2 k2 e2) (.int .i64 la') (.slice C3 k3 e3) (.slice C4 k4 e4) (.bool hd') := by
          have := HX.out.f7
          rw [HX.out.st.pg, HPG.out.1, HPG.out.2] at this
          exact this
        have hlk : nk ≤ 1024 := by
          have h1 : L1.length ≤ u'.kept.length := by rw [← hL1, List.length_map]; unfold lOf; exact List.length_filter_le _ _
          have := HX.out.st.ok.lens
          omega
        have hlw : nw ≤ 1024 := by
          have h1 : L2.length = u'.waits.length := by rw [← hL2, List.length_map]
          have := HX.out.st.ok.lens
          omega
        have CKp : Hid (∀ W, Below wx.heap.size wx W → Calls Tryz.prog 40 #[.pointer (some ⟨q, 0, none⟩), .int .i64 n] W fun e w5 => ∃ A5 c5, e = .returned (.slice A5 nk c5) ∧ Hid (Below wx.heap.size wx w5 ∧ Sl w5 w5.heap.size A5 nk (L1.map iv)) ∧ F7 w5 mb (.int .i64 pages) (.slice C k1 e1) (.slice C2 k2 e2) (.int .i64 la') (.slice C3 k3 e3) (.slice C4 k4 e4) (.bool hd')) := hidb (fun W hb => by
          refine (t_kkept (HX.out.below hb).st n L1 hL1).mono ?_
          rw [hnk]
          rintro e w5 ⟨A5, c5, rfl, ho, hb5⟩
          have hb6 := hb.trans (hb5.mono hb.size)
          exact ⟨A5, c5, rfl, hidb ⟨hb6, sl_of_ints ho hnk⟩, hf.below hb6⟩)
        have CLi : Hid (∀ W A5, Hid (Below wx.heap.size wx W ∧ Sl W W.heap.size A5 nk (L1.map iv)) → Calls Tryz.prog 42 #[.agg #[.int .i64 pages, .slice C k1 e1, .slice C2 k2 e2, .int .i64 la', .slice C3 k3 e3, .slice C4 k4 e4, .bool hd'], .int .i64 n] W fun e w6 => ∃ A6 c6, e = .returned (.slice A6 nk c6) ∧ Hid (Below wx.heap.size wx w6 ∧ Sl w6 w6.heap.size A5 nk (L1.map iv) ∧ Sl w6 w6.heap.size A6 nk (L1.map iv)) ∧ F7 w6 mb (.int .i64 pages) (.slice C k1 e1) (.slice C2 k2 e2) (.int .i64 la') (.slice C3 k3 e3) (.slice C4 k4 e4) (.bool hd')) := hidb (fun W A5 h => by
          have kx := HX.out.below h.out.1
          have hq := (ref_klist (fun b => ¬ S' b ∧ mb ≠ b) u' n W C k1 e1 C2 k2 e2 C3 k3 e3 C4 k4 e4 pages la' hd' kx.ko.kr.row (by have h1 := kx.ko.l3; have h3 := HX.out.st.ok.lens; omega) L1 hL1)
          unfold kval at hq
          refine hq.mono ?_
          rintro e w6 ⟨A6, c6, rfl, ho, hb6⟩
          rw [hnk] at ho
          have hb7 := h.out.1.trans (hb6.mono h.out.1.size)
          exact ⟨A6, c6, by rw [hnk], hidb ⟨hb7, (h.out.2.below hb6).more hb6.size, sl_of_ints ho hnk⟩, hf.below hb7⟩)
        have CI : Hid (∀ (W : World) (L : List Int) (N : Nat) A5 c5 A6 c6, N ≤ 1024 → Hid (Below wx.heap.size wx W ∧ Sl W W.heap.size A5 N (L.map iv) ∧ Sl W W.heap.size A6 N (L.map iv)) → Calls Tryz.prog 20 #[.slice A5 N c5, .slice A6 N c6] W fun e w7 => e = .returned (.bool true) ∧ Hid (Below wx.heap.size wx w7) ∧ F7 w7 mb (.int .i64 pages) (.slice C k1 e1) (.slice C2 k2 e2) (.int .i64 la') (.slice C3 k3 e3) (.slice C4 k4 e4) (.bool hd')) := hidb (fun W L N A5 c5 A6 c6 hN h => by
          refine (ref_bints A5 A6 N c5 N c6 L L W _ _ h.out.2.1 h.out.2.2 (by omega) (by omega)).mono ?_
          rintro e w7 ⟨rfl, nq, rfl⟩
          have hb7 := belowN h.out.1 nq
          exact ⟨by simp, hidb hb7, hf.below hb7⟩)
        have CWt : Hid (∀ W, Hid (Below wx.heap.size wx W) → Calls Tryz.prog 39 #[.pointer (some ⟨q, 0, none⟩)] W fun e w5 => ∃ A5 c5, e = .returned (.slice A5 nw c5) ∧ Hid (Below wx.heap.size wx w5 ∧ Sl w5 w5.heap.size A5 nw (L2.map iv)) ∧ F7 w5 mb (.int .i64 pages) (.slice C k1 e1) (.slice C2 k2 e2) (.int .i64 la') (.slice C3 k3 e3) (.slice C4 k4 e4) (.bool hd')) := hidb (fun W h => by
          refine (t_kwaits (HX.out.below h.out).st L2 hL2).mono ?_
          rw [hnw]
          rintro e w5 ⟨A5, c5, rfl, ho, hb5⟩
          have hb6 := h.out.trans (hb5.mono h.out.size)
          exact ⟨A5, c5, rfl, hidb ⟨hb6, sl_of_ints ho hnw⟩, hf.below hb6⟩)
        have CNu : Hid (∀ W A5, Hid (Below wx.heap.size wx W ∧ Sl W W.heap.size A5 nw (L2.map iv)) → Calls Tryz.prog 43 #[.slice C4 k4 e4] W fun e w6 => ∃ A6 c6, e = .returned (.slice A6 nw c6) ∧ Hid (Below wx.heap.size wx w6 ∧ Sl w6 w6.heap.size A5 nw (L2.map iv) ∧ Sl w6 w6.heap.size A6 nw (L2.map iv)) ∧ F7 w6 mb (.int .i64 pages) (.slice C k1 e1) (.slice C2 k2 e2) (.int .i64 la') (.slice C3 k3 e3) (.slice C4 k4 e4) (.bool hd')) := hidb (fun W A5 h => by
          have kx := HX.out.below h.out.1
          have := ref_lnumbers C4 k4 e4 u'.waits W kx.ko.wr.row (by have h1 := kx.ko.l4; have h3 := HX.out.st.ok.lens; omega)
          rw [hL2] at this
          refine this.mono ?_
          rintro e w6 ⟨A6, c6, rfl, ho, hb6⟩
          rw [hnw] at ho
          have hb7 := h.out.1.trans (hb6.mono h.out.1.size)
          exact ⟨A6, c6, by rw [hnw], hidb ⟨hb7, (h.out.2.below hb6).more hb6.size, sl_of_ints ho hnw⟩, hf.below hb7⟩)
        have HFIN : Hid (∀ W, Hid (Below wx.heap.size wx W) → Hid (L10 w W q p mb S' u' (j + 1) pages C k1 e1 C2 k2 e2 C3 k3 e3 C4 k4 e4)) := hidb (fun W h => hidb (HX.out.below h.out))
        obtain ⟨x0, x1, x2, x3, x4, x5, x6, _⟩ := hf
        clear hwx t0 t1 t2 t3 t4 t5 t6 z0 z1 z2 z3 z4 z5 z6 zf0 zf1 zf2 zf3 zf4 zf5 zf6 hL1 hL2 hnk hnw HX HPG HK
        --@4
        go_region_held3 (fun W' => W'.cell? ⟨mb, 0, none⟩ = some (.int .i64 pages) ∧ W'.cell? ⟨mb, 1, none⟩ = some (.slice C k1 e1) ∧ W'.cell? ⟨mb, 2, none⟩ = some (.slice C2 k2 e2) ∧ W'.cell? ⟨mb, 3, none⟩ = some (.int .i64 la') ∧ W'.cell? ⟨mb, 4, none⟩ = some (.slice C3 k3 e3) ∧ W'.cell? ⟨mb, 5, none⟩ = some (.slice C4 k4 e4) ∧ W'.cell? ⟨mb, 6, none⟩ = some (.bool hd')) (go_keep)
          (first
            | (go_at_call 40; (with_reducible refine (CKp.out _ (by repeat (first | exact Below.refl _ _ | refine Below.drew ?_))).mono ?_); rintro e w5 ⟨A5, c5, rfl, H5, ⟨x0, x1, x2, x3, x4, x5, x6, _⟩⟩)
            | (go_at_call 42; (with_reducible refine (CLi.out _ _ H5).mono ?_); rintro e w6 ⟨A6, c6, rfl, H6, ⟨x0, x1, x2, x3, x4, x5, x6, _⟩⟩; clear H5)
            | (go_at_call 20; (with_reducible refine (CI.out _ _ _ _ _ _ _ hlk H6).mono ?_); rintro e w7 ⟨rfl, H7, ⟨x0, x1, x2, x3, x4, x5, x6, _⟩⟩; clear H6)
            | (go_at_call 39; (with_reducible refine (CWt.out _ H7).mono ?_); rintro e w8 ⟨A8, c8, rfl, H8, ⟨x0, x1, x2, x3, x4, x5, x6, _⟩⟩; clear H7)
            | (go_at_call 43; (with_reducible refine (CNu.out _ _ H8).mono ?_); rintro e w9 ⟨A9, c9, rfl, H9, ⟨x0, x1, x2, x3, x4, x5, x6, _⟩⟩; clear H8)
            | (go_at_call 20; (with_reducible refine (CI.out _ _ _ _ _ _ _ hlw H9).mono ?_); rintro e w10 ⟨rfl, H10, ⟨x0, x1, x2, x3, x4, x5, x6, _⟩⟩))
        have HF := HFIN.out _ H10
        go_wp2
        go_roundw
        case rel => exact ⟨j + 1, _, _, _, _, _, _, _, _, _, _, _, _, _, _, by omega, by go_num, HF⟩
        case measure => simp [intOf]; omega
    · obtain rfl : m = j := by omega
      obtain ⟨la, hla⟩ : ∃ x, u.h.last = x := ⟨_, rfl⟩
      obtain ⟨hd, hhd⟩ : ∃ x, u.held = x := ⟨_, rfl⟩
      obtain ⟨X, hX⟩ : ∃ X, hSpans u.h = X := ⟨_, rfl⟩
      obtain ⟨nx, hnx⟩ : ∃ x, X.length = x := ⟨_, rfl⟩
      have f0 : F7 wr mb (.int .i64 pages) (.slice B j1 d1) (.slice B2 j2 d2) (.int .i64 la) (.slice B3 j3 d3) (.slice B4 j4 d4) (.bool hd) := by
        have := HK.out.f7
        rw [HK.out.st.pg, hla, hhd] at this
        exact this
      have hlx : nx ≤ 1024 := by
        have h1 := sub_len (l := hSpans u.h) (m := u.h.l) ((hSpans_rises HK.out.st.ok.hok).imp fun {a b} h e => by rw [e] at h; omega) (fun s hs => (hSpans_mem HK.out.st.ok.hok s).1 hs)
        have h2 := HK.out.st.ok.hok.len_le
        rw [hX, hnx] at h1
        omega
      obtain ⟨wx, rfl⟩ : ∃ wx : World, wx = wr := ⟨_, rfl⟩
      have CS : Hid (∀ W, Below wx.heap.size wx W → Calls Tryz.prog 26 #[.pointer (some ⟨p, 0, none⟩)] W fun e w5 => ∃ A5 c5, e = .returned (.slice A5 nx c5) ∧ Hid (Below wx.heap.size wx w5 ∧ Sn w5 w5.heap.size A5 nx X) ∧ F7 w5 mb (.int .i64 pages) (.slice B j1 d1) (.slice B2 j2 d2) (.int .i64 la) (.slice B3 j3 d3) (.slice B4 j4 d4) (.bool hd)) := hidb (fun W hb => by
        refine (t_khspans (HK.out.below hb).st X hX).mono ?_
        rw [hnx]
        rintro e w5 ⟨A5, c5, rfl, ho, hb5⟩
        have hb6 := hb.trans (hb5.mono hb.size)
        exact ⟨A5, c5, rfl, hidb ⟨hb6, RowOf.of_own scells_len ho hnx⟩, f0.below hb6⟩)
      have CRs : Hid (∀ W A5, Hid (Below wx.heap.size wx W ∧ Sn W W.heap.size A5 nx X) → Calls Tryz.prog 27 #[.agg #[.int .i64 pages, .slice B j1 d1, .slice B2 j2 d2, .int .i64 la]] W fun e w6 => ∃ A6 c6, e = .returned (.slice A6 nx c6) ∧ Hid (Below wx.heap.size wx w6 ∧ Sn w6 w6.heap.size A5 nx X ∧ Sn w6 w6.heap.size A6 nx X) ∧ F7 w6 mb (.int .i64 pages) (.slice B j1 d1) (.slice B2 j2 d2) (.int .i64 la) (.slice B3 j3 d3) (.slice B4 j4 d4) (.bool hd)) := hidb (fun W A5 h => by
        have kx := HK.out.below h.out.1
        have hpar := kx.ko.hi.parts_
        have hp4 := HK.out.st.ok.hok.p0
        have hp5 := HK.out.st.ok.hok.p1
        have hpg := HK.out.st.pg
        obtain ⟨pn, hpn⟩ : ∃ pn : Nat, pages = (pn : Int) := ⟨pages.toNat, by omega⟩
        have hll := HK.out.st.ok.hok.len_le
        have hq := ref_hspans pn la B B2 j1 d1 j2 d2 u.h.free u.h.l W hpar.2.2 (by have h1 := hpar.1.2.2.1; omega) (by omega)
        have he : (⟨(pn : Int), u.h.free, u.h.l, la⟩ : HeapV) = u.h := by rw [← hpn, ← hpg, ← hla]
        rw [he, hX, ← hpn] at hq
        refine hq.mono ?_
        rintro e w6 ⟨A6, c6, rfl, ho, hb6⟩
        rw [hnx] at ho
        have hb7 := h.out.1.trans (hb6.mono h.out.1.size)
        exact ⟨A6, c6, by rw [hnx], hidb ⟨hb7, RowOf.more (RowOf.below h.out.2 hb6) hb6.size, RowOf.of_own scells_len ho hnx⟩, f0.below hb7⟩)
      have CSm : Hid (∀ W A5 c5 A6 c6, Hid (Below wx.heap.size wx W ∧ Sn W W.heap.size A5 nx X ∧ Sn W W.heap.size A6 nx X) → Calls Tryz.prog 25 #[.slice A5 nx c5, .slice A6 nx c6] W fun e w7 => e = .returned (.bool true) ∧ Hid (Below wx.heap.size wx w7) ∧ F7 w7 mb (.int .i64 pages) (.slice B j1 d1) (.slice B2 j2 d2) (.int .i64 la) (.slice B3 j3 d3) (.slice B4 j4 d4) (.bool hd)) := hidb (fun W A5 c5 A6 c6 h => by
        refine (ref_hsame A5 A6 nx c5 nx c6 X X W _ _ h.out.2.1 h.out.2.2 (by omega) (by omega)).mono ?_
        rintro e w7 ⟨rfl, nq, rfl⟩
        have hb7 := belowN h.out.1 nq
        exact ⟨by simp, hidb hb7, f0.below hb7⟩)
      have CAw : Hid (∀ W, Hid (Below wx.heap.size wx W) → Calls Tryz.prog 32 #[] W fun e w8 => e = .returned (.bool true) ∧ Hid (Below w.heap.size w w8) ∧ F7 w8 mb (.int .i64 pages) (.slice B j1 d1) (.slice B2 j2 d2) (.int .i64 la) (.slice B3 j3 d3) (.slice B4 j4 d4) (.bool hd)) := hidb (fun W h => by
        refine (cw W).mono ?_
        rintro e w8 ⟨rfl, hb8⟩
        have hb9 := h.out.trans (hb8.mono h.out.size)
        exact ⟨rfl, hidb (bel_tr2 HK.out.st.bel hb9), f0.below hb9⟩)
      obtain ⟨x0, x1, x2, x3, x4, x5, x6, _⟩ := f0
      clear hla hhd hX hnx HK HR
      --@3
      go_wp2_with fail
      go_region_held3 (fun W' => W'.cell? ⟨mb, 0, none⟩ = some (.int .i64 pages) ∧ W'.cell? ⟨mb, 1, none⟩ = some (.slice B j1 d1) ∧ W'.cell? ⟨mb, 2, none⟩ = some (.slice B2 j2 d2) ∧ W'.cell? ⟨mb, 3, none⟩ = some (.int .i64 la)) (go_keep)
        (first
          | (go_at_call 26; (with_reducible refine (CS.out _ (by repeat (first | exact Below.refl _ _ | refine Below.drew ?_))).mono ?_); rintro e w5 ⟨A5, c5, rfl, H5, ⟨x0, x1, x2, x3, x4, x5, x6, _⟩⟩)
          | (go_at_call 27; (with_reducible refine (CRs.out _ _ H5).mono ?_); rintro e w6 ⟨A6, c6, rfl, H6, ⟨x0, x1, x2, x3, x4, x5, x6, _⟩⟩; clear H5)
          | (go_at_call 25; (with_reducible refine (CSm.out _ _ _ _ _ H6).mono ?_); rintro e w7 ⟨rfl, H7, ⟨x0, x1, x2, x3, x4, x5, x6, _⟩⟩; clear H6)
          | (go_at_call 32; (with_reducible refine (CAw.out _ H7).mono ?_); rintro e w8 ⟨rfl, H8, ⟨x0, x1, x2, x3, x4, x5, x6, _⟩⟩))
      go_wp2
      go_ret
      exact ⟨rfl, H8.out⟩

end Go.Proofs.YtonmkanppapjjaaGreat
