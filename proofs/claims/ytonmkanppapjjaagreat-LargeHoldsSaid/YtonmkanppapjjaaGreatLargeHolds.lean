/- Layer 10's statement on spans while it is held. -/
import Derived.Test.YtonmkanppapjjaaGreatLargeHolds0
import Derived.Deep.RegionHeld3
namespace Go.Proofs.YtonmkanppapjjaaGreat
open Go.RowKit Go.Maps
set_option linter.unusedVariables false

set_option maxRecDepth 100000 in
set_option maxHeartbeats 8000000 in
theorem largeHolds_any (pages : Int) (A0 : Option Addr) (m c : Nat) (l : List Act10) (w : World) (h0 : in64 pages) (hm : m ≤ maxLen) (hs : RowOf (Act10Is w) 5 w w.heap.size A0 m l) :
    Calls Tryz.prog 6 #[.int .i64 pages, .slice A0 m c] w fun e w' => e = .returned (.bool true) ∧ Below w.heap.size w w' := by
  have cw := fun W => awake10 W
  unfold maxLen at hm
  by_cases hp : pages < 4 ∨ 1024 < pages
  · have cn := code_hnew_no pages w hp
    clear hs hp
    by_cases g1 : 100 < pages
    · skip
      --@10
      go_enter Tryz.func6, Tryz.ntmps6
      go_wp2_with (first
        | (go_at_call 31; (with_reducible refine cn.mono ?_); rintro e w1 ⟨rfl, rfl⟩)
        | (go_at_call 32; (with_reducible refine (cw _).mono ?_); rintro e w1 ⟨rfl, hb⟩))
      go_ret
      exact ⟨rfl, hb⟩
    · by_cases g3 : (100 : Int) < (m : Int)
      · skip
        --@11
        go_enter Tryz.func6, Tryz.ntmps6
        go_wp2_with (first
          | (go_at_call 31; (with_reducible refine cn.mono ?_); rintro e w1 ⟨rfl, rfl⟩)
          | (go_at_call 32; (with_reducible refine (cw _).mono ?_); rintro e w1 ⟨rfl, hb⟩))
        go_ret
        exact ⟨rfl, hb⟩
      · skip
        --@12
        go_enter Tryz.func6, Tryz.ntmps6
        go_wp2_with (first
          | (go_at_call 31; (with_reducible refine cn.mono ?_); rintro e w1 ⟨rfl, rfl⟩)
          | (go_at_call 32; (with_reducible refine (cw _).mono ?_); rintro e w1 ⟨rfl, hb⟩))
        go_ret
        exact ⟨rfl, hb⟩
  obtain ⟨F, hN, cn⟩ := t_hnew pages w (by omega) (by omega)
  by_cases g1 : 100 < pages
  · clear hs hp
    --@13
    go_enter Tryz.func6, Tryz.ntmps6
    go_wp2_with (first
      | (go_at_call 31; (with_reducible refine cn.mono ?_); rintro e w1 ⟨q, Sh, rfl, s1⟩; have B1 := hidb s1.bel; clear s1)
      | (go_at_call 32; (with_reducible refine (cw _).mono ?_); rintro e w2 ⟨rfl, hb⟩))
    go_ret
    exact ⟨rfl, bel_tr2 B1.out hb⟩
  by_cases g3 : (100 : Int) < (m : Int)
  · clear hs hp
    --@14
    go_enter Tryz.func6, Tryz.ntmps6
    go_wp2_with (first
      | (go_at_call 31; (with_reducible refine cn.mono ?_); rintro e w1 ⟨q, Sh, rfl, s1⟩; have B1 := hidb s1.bel; clear s1)
      | (go_at_call 32; (with_reducible refine (cw _).mono ?_); rintro e w2 ⟨rfl, hb⟩))
    go_ret
    exact ⟨rfl, bel_tr2 B1.out hb⟩
  have HR := hidb hs
  clear hs
  have CN : Hid (∀ W p Sh, HeapSt w W p Sh ⟨pages, F, [], 0⟩ 0 pages → Calls Tryz.prog 33 #[.pointer (some ⟨p, 0, none⟩)] W fun e w' => ∃ q S, e = .returned (.pointer (some ⟨q, 0, none⟩)) ∧ Hid (KeepSt w w' q p S ⟨⟨pages, F, [], 0⟩, [], [], false⟩ 0 pages)) := hidb (fun W p Sh s => (t_knew s).mono fun e w' ⟨q, S, a, b⟩ => ⟨q, S, a, hidb b⟩)
  have CR : Hid (∀ w2 q p S, Hid (KeepSt w w2 q p S ⟨⟨pages, F, [], 0⟩, [], [], false⟩ 0 pages) → Calls Tryz.prog 12 #[.int .i64 pages] (w2.alloc (.cells #[.int .i64 0, .slice none 0 0, .slice none 0 0, .int .i64 0, .slice none 0 0, .slice none 0 0, .bool false] 76)) fun e w3 => ∃ A n c A2 n2 c2, e = .returned (.tuple #[.agg #[.int .i64 pages, .slice A n c, .slice A2 n2 c2, .int .i64 0], .int .i64 0]) ∧ F7 w3 w2.heap.size (.int .i64 0) (.slice none 0 0) (.slice none 0 0) (.int .i64 0) (.slice none 0 0) (.slice none 0 0) (.bool false) ∧
      Hid (L10 w (set4 w3 w2.heap.size (.int .i64 pages) (.slice A n c) (.slice A2 n2 c2) (.int .i64 0)) q p w2.heap.size S ⟨⟨pages, F, [], 0⟩, [], [], false⟩ 0 pages A n c A2 n2 c2 none 0 0 none 0 0)) := hidb (fun w2 q p S s => by
    have := ref_hnew (fun b => ¬ S b ∧ w2.heap.size ≠ b) pages (w2.alloc (.cells #[.int .i64 0, .slice none 0 0, .slice none 0 0, .int .i64 0, .slice none 0 0, .slice none 0 0, .bool false] 76)) (fun b hb => ⟨fun c => by have := s.out.lt b c; simp at hb; omega, by simp at hb; omega⟩) h0.1 h0.2
    rw [hN] at this
    refine this.mono ?_
    rintro e w3 ⟨⟨v, rfl, hh⟩, hb⟩
    obtain ⟨A, c, A2, c2, rfl, hrest⟩ := hh
    have h9 : HIs w3 (fun b => ¬ S b ∧ w2.heap.size ≠ b) ⟨pages, F, [], 0⟩ (hval pages A F.length c A2 0 c2 0) := ⟨A, c, A2, c2, rfl, hrest⟩
    have h8 := L10.start s.out hb h9
    refine ⟨A, F.length, c, A2, 0, c2, rfl, (F7.made w2 _ _ _ _ _ _ _ _).below hb, hidb h8⟩)
  --@15
  go_enter Tryz.func6, Tryz.ntmps6
  go_wp2_with (first
    | (go_at_call 31; (with_reducible refine cn.mono ?_); rintro e w1 ⟨p, Sh, rfl, s1⟩; have c2 := CN.out _ _ _ s1; clear s1)
    | (go_at_call 33; (with_reducible refine c2.mono ?_); rintro e w2 ⟨q, S2, rfl, s2⟩)
    | (go_at_call 12; (with_reducible refine (CR.out _ _ _ _ s2).mono ?_); rintro e w3 ⟨A, n, c1, A2, n2, c2', rfl, ⟨x0, x1, x2, x3, x4, x5, x6, xf⟩, HL⟩; have xf0 := xf 0; have xf1 := xf 1; have xf2 := xf 2; have xf3 := xf 3; clear xf))
  obtain ⟨mb, hmb⟩ : ∃ mb, mb = w2.heap.size := ⟨_, rfl⟩
  obtain ⟨W4, hW4⟩ : ∃ W4, W4 = set4 w3 w2.heap.size (.int .i64 pages) (.slice A n c1) (.slice A2 n2 c2') (.int .i64 0) := ⟨_, rfl⟩
  rw [← hW4] at HL
  unfold set4 at hW4
  rw [← hW4]
  rw [← hmb] at HL ⊢
  clear cn CN CR s2 x0 x1 x2 x3 x4 x5 x6 xf0 xf1 xf2 xf3 hW4 hmb
  go_loopw [9] (fun x wr => ∃ (j : Nat) (S : Nat → Prop) (u : LargeV) (B : Option Addr) (j1 d1 : Nat) (B2 : Option Addr) (j2 d2 : Nat) (B3 : Option Addr) (j3 d3 : Nat) (B4 : Option Addr) (j4 d4 : Nat), j ≤ m ∧ x = .int .i64 j ∧ Hid (L10 w wr q p mb S u j pages B j1 d1 B2 j2 d2 B3 j3 d3 B4 j4 d4)) (fun x _ => (m - intOf x).toNat)
  case atStart => exact ⟨0, S2, _, A, n, c1, A2, n2, c2', none, 0, 0, none, 0, 0, Nat.zero_le _, rfl, HL⟩
  case round =>
    obtain ⟨j, S, u, B, j1, d1, B2, j2, d2, B3, j3, d3, B4, j4, d4, hj, rfl, HK⟩ := hrel
    by_cases hlt : j < m
    · obtain ⟨b, off, a, cs, rfl, hbs, hx, hl5, hc, hcs, hkd, hn, hor, hcap, hids, hi64⟩ := (RowOf.below HR.out HK.out.st.bel).at_ hlt
      subst hcs
      have a0 : wr.cell? ⟨b, off + j * 5, none⟩ = some (.int .i64 a.kind) := hc 0 (by omega)
      have a1 : wr.cell? ⟨b, off + j * 5 + 1, none⟩ = some (.int .i64 a.n) := hc 1 (by omega)
      have a2 : wr.cell? ⟨b, off + j * 5 + 2, none⟩ = some (.int .i64 a.order) := hc 2 (by omega)
      have a3 : wr.cell? ⟨b, off + j * 5 + 3, none⟩ = some (.bool a.on) := hc 3 (by omega)
      have a4 : wr.cell? ⟨b, off + j * 5 + 4, none⟩ = some (.slice a.A a.len a.cap) := hc 4 (by omega)
      have hi0 : (0 : Int) ≤ (j : Int) := by omega
      have hi1 : (j : Int) < (m : Int) := by omega
      by_cases g4 : (20 : Int) < (a.len : Int)
      · clear hc hl5 hx
        --@1
        go_wp2_with (first
          | (go_at_call 32; (with_reducible refine (cw _).mono ?_); rintro e w5 ⟨rfl, hb5⟩))
        go_ret
        exact ⟨rfl, bel_tr2 HK.out.st.bel hb5⟩
      obtain ⟨u', hu'⟩ : ∃ u', kStep u a = u' := ⟨_, rfl⟩
      obtain ⟨la, hla⟩ : ∃ x, u.h.last = x := ⟨_, rfl⟩
      obtain ⟨la', hla'⟩ : ∃ x, u'.h.last = x := ⟨_, rfl⟩
      obtain ⟨hd, hhd⟩ : ∃ x, u.held = x := ⟨_, rfl⟩
      obtain ⟨hd', hhd'⟩ : ∃ x, u'.held = x := ⟨_, rfl⟩
      obtain ⟨n1, hn1⟩ : ∃ x, (hSpans u.h).length = x := ⟨_, rfl⟩
      obtain ⟨n2', hn2'⟩ : ∃ x, (hSpans u'.h).length = x := ⟨_, rfl⟩
      have f0 : F7 wr mb (.int .i64 pages) (.slice B j1 d1) (.slice B2 j2 d2) (.int .i64 la) (.slice B3 j3 d3) (.slice B4 j4 d4) (.bool hd) := by
        have := HK.out.f7
        rw [HK.out.st.pg, hla, hhd] at this
        exact this
      have HF0 : Hid (∀ W, Below wr.heap.size wr W → F7 W mb (.int .i64 pages) (.slice B j1 d1) (.slice B2 j2 d2) (.int .i64 la) (.slice B3 j3 d3) (.slice B4 j4 d4) (.bool hd) ∧ (W.cell? ⟨b, off + j * 5, none⟩ = some (.int .i64 a.kind) ∧ W.cell? ⟨b, off + j * 5 + 1, none⟩ = some (.int .i64 a.n) ∧ W.cell? ⟨b, off + j * 5 + 2, none⟩ = some (.int .i64 a.order) ∧ W.cell? ⟨b, off + j * 5 + 3, none⟩ = some (.bool a.on) ∧ W.cell? ⟨b, off + j * 5 + 4, none⟩ = some (.slice a.A a.len a.cap))) := hidb (fun W hb => by
        have hbl := lt_of_cell a0
        have q : ∀ i, W.cell? ⟨b, i, none⟩ = wr.cell? ⟨b, i, none⟩ := fun i => hb.cell (p := ⟨b, i, none⟩) hbl
        exact ⟨f0.below hb, (q _).trans a0, (q _).trans a1, (q _).trans a2, (q _).trans a3, (q _).trans a4⟩)
      have CS : Hid (Calls Tryz.prog 26 #[.pointer (some ⟨p, 0, none⟩)] wr fun e w5 => ∃ A5 c5, e = .returned (.slice A5 n1 c5) ∧ Hid (Below wr.heap.size wr w5)) := hidb (by
        refine (t_khspans HK.out.st _ rfl).mono ?_
        rintro e w5 ⟨A5, c5, rfl, _, hb⟩
        exact ⟨A5, c5, by rw [hn1], hidb hb⟩)
      have CD : Hid (∀ w5, Hid (Below wr.heap.size wr w5) → Calls Tryz.prog 38 #[.pointer (some ⟨p, 0, none⟩), .pointer (some ⟨q, 0, none⟩), .agg #[.int .i64 pages, .slice B j1 d1, .slice B2 j2 d2, .int .i64 la, .slice B3 j3 d3, .slice B4 j4 d4, .bool hd], .agg #[.int .i64 a.kind, .int .i64 a.n, .int .i64 a.order, .bool a.on, .slice a.A a.len a.cap]] w5.drew fun e w6 => ∃ C k1 e1 C2 k2 e2 C3 k3 e3 C4 k4 e4, e = .returned (.tuple #[.bool true, .agg #[.int .i64 pages, .slice C k1 e1, .slice C2 k2 e2, .int .i64 la', .slice C3 k3 e3, .slice C4 k4 e4, .bool hd']]) ∧ F7 w6 mb (.int .i64 pages) (.slice B j1 d1) (.slice B2 j2 d2) (.int .i64 la) (.slice B3 j3 d3) (.slice B4 j4 d4) (.bool hd) ∧
          Hid (∀ W4, Below w6.heap.size w6 W4 → ∃ S', L10 w (set7 W4 mb (.int .i64 pages) (.slice C k1 e1) (.slice C2 k2 e2) (.int .i64 la') (.slice C3 k3 e3) (.slice C4 k4 e4) (.bool hd')) q p mb S' u' (j + 1) pages C k1 e1 C2 k2 e2 C3 k3 e3 C4 k4 e4)) := hidb (fun w5 hb => by
        have hbd : Below wr.heap.size wr w5.drew := hb.out.drew
        have hl := hcap.2
        unfold maxLen at hl
        have := (HK.out.below hbd).does (by omega) a hn hor ((hids.below (HK.out.st.bel.trans (hbd.mono HK.out.st.bel.size))).more (by have := HK.out.st.bel.size; have := hbd.size; omega)) (by omega) ⟨hcap.1, by omega⟩ hi64 la la' hd hd' hla hhd (by rw [hu']; exact hla') (by rw [hu']; exact hhd')
        rw [hu'] at this
        refine this.mono ?_
        rintro e w6 ⟨C, k1, e1, C2, k2, e2, C3, k3, e3, C4, k4, e4, x1, x2, _, x4⟩
        exact ⟨C, k1, e1, C2, k2, e2, C3, k3, e3, C4, k4, e4, x1, x2, x4⟩)
      have HSP : Hid (hd = true → hd' = true → a.kind ≠ 3 → n1 ≤ n2') := hidb (fun x1 x2 x3 => by
        have := spans_held HK.out.st.ok a (hhd.trans x1) (by rw [hu']; exact hhd'.trans x2) x3
        rw [hu', hn1, hn2'] at this
        exact this)
      have HWT : Hid (hd' = false → u'.waits = []) := hidb (fun x => by
        have := (HK.out.st.ok.step a).calm
        rw [hu'] at this
        exact this (hhd'.trans x))
      have CS2 : Hid (∀ wx S' C k1 e1 C2 k2 e2 C3 k3 e3 C4 k4 e4, Hid (L10 w wx q p mb S' u' (j + 1) pages C k1 e1 C2 k2 e2 C3 k3 e3 C4 k4 e4) → Calls Tryz.prog 26 #[.pointer (some ⟨p, 0, none⟩)] wx fun e w5 => ∃ A5 c5, e = .returned (.slice A5 n2' c5) ∧ Hid (L10 w w5 q p mb S' u' (j + 1) pages C k1 e1 C2 k2 e2 C3 k3 e3 C4 k4 e4)) := hidb (fun wx S' C k1 e1 C2 k2 e2 C3 k3 e3 C4 k4 e4 HX => by
        refine (t_khspans HX.out.st _ rfl).mono ?_
        rintro e w5 ⟨A5, c5, rfl, _, hb⟩
        exact ⟨A5, c5, by rw [hn2'], hidb (HX.out.below hb)⟩)
      have CW : Hid (hd' = false → ∀ wx S' C k1 e1 C2 k2 e2 C3 k3 e3 C4 k4 e4, Hid (L10 w wx q p mb S' u' (j + 1) pages C k1 e1 C2 k2 e2 C3 k3 e3 C4 k4 e4) → Calls Tryz.prog 39 #[.pointer (some ⟨q, 0, none⟩)] wx fun e w5 => ∃ A5 c5, e = .returned (.slice A5 0 c5) ∧ Hid (L10 w w5 q p mb S' u' (j + 1) pages C k1 e1 C2 k2 e2 C3 k3 e3 C4 k4 e4)) := hidb (fun hh wx S' C k1 e1 C2 k2 e2 C3 k3 e3 C4 k4 e4 HX => by
        refine (t_kwaits HX.out.st [] (by rw [HWT.out hh]; rfl)).mono ?_
        rintro e w5 ⟨A5, c5, rfl, _, hb⟩
        exact ⟨A5, c5, rfl, hidb (HX.out.below hb)⟩)
      have HPG : Hid (∀ wx S' C k1 e1 C2 k2 e2 C3 k3 e3 C4 k4 e4, L10 w wx q p mb S' u' (j + 1) pages C k1 e1 C2 k2 e2 C3 k3 e3 C4 k4 e4 → wx.cell? ⟨mb, 6, none⟩ = some (.bool hd') ∧ wx.cell? ⟨b, off + j * 5, none⟩ = some (.int .i64 a.kind)) := hidb (fun wx S' C k1 e1 C2 k2 e2 C3 k3 e3 C4 k4 e4 hX => by
        refine ⟨?_, ?_⟩
        · rw [← hhd']; exact hX.f7.2.2.2.2.2.2.1
        · have h1 := HK.out.st.bel.cell (p := ⟨b, off + j * 5, none⟩) hbs
          have h2 := hX.st.bel.cell (p := ⟨b, off + j * 5, none⟩) hbs
          exact (h2.trans h1.symm).trans a0)
      obtain ⟨y0, y1, y2, y3, y4, y5, y6, _⟩ := f0
      clear hc hl5 hx hla hla' hhd hhd' hn1 hn2' HWT hids hi64 hcap HR hu' hn hor hkd
      go_wp2_with (first
        | (go_at_call 26; (with_reducible refine CS.out.mono ?_); rintro e w5 ⟨A5, c5, rfl, HB5⟩; obtain ⟨⟨y0, y1, y2, y3, y4, y5, y6, yf⟩, a0, a1, a2, a3, a4⟩ := HF0.out w5 HB5.out; have cd := CD.out w5 HB5; clear yf))
      clear CS CD
      go_cut [10] from 57 to 67 (fun v10 wx => v10 = .int .i64 (n1 : Int) ∧ ∃ S' C k1 e1 C2 k2 e2 C3 k3 e3 C4 k4 e4, Hid (L10 w wx q p mb S' u' (j + 1) pages C k1 e1 C2 k2 e2 C3 k3 e3 C4 k4 e4))
      case first =>
        --@2
        clear HSP CS2 CW HPG HF0 HK cw
        go_region_law
          (first
            | (go_simp; go_at_call 38; (with_reducible refine cd.mono ?_); rintro e w6 ⟨C, k1, e1, C2, k2, e2, C3, k3, e3, C4, k4, e4, rfl, ⟨z0, z1, z2, z3, z4, z5, z6, zf⟩, HN⟩; have zf0 := zf 0; have zf1 := zf 1; have zf2 := zf 2; have zf3 := zf 3; have zf4 := zf 4; have zf5 := zf 5; have zf6 := zf 6; clear zf))
        all_goals
          go_wp2_with fail
          go_meet
          obtain ⟨S', hS'⟩ := HN.out w6 (Below.refl _ _)
          exact ⟨rfl, S', C, k1, e1, C2, k2, e2, C3, k3, e3, C4, k4, e4, hidb hS'⟩
      case rest =>
        obtain ⟨rfl, S', C, k1, e1, C2, k2, e2, C3, k3, e3, C4, k4, e4, HX⟩ := hcut
        obtain ⟨wx, rfl⟩ : ∃ wx : World, wx = wc := ⟨_, rfl⟩
        obtain ⟨t6, tk⟩ := HPG.out _ _ _ _ _ _ _ _ _ _ _ _ _ _ HX.out
        have cs := CS2.out _ _ _ _ _ _ _ _ _ _ _ _ _ _ HX
        clear y0 y1 y2 y3 y4 y5 y6 a0 a1 a2 a3 a4 cd HF0
        cases hd with
        | true =>
          cases hd' with
          | true =>
            by_cases k3' : a.kind = 3
            · --@4
              go_wp2
              go_roundw
              case rel => exact ⟨j + 1, _, _, _, _, _, _, _, _, _, _, _, _, _, _, by omega, by go_num, HX⟩
              case measure => simp [intOf]; omega
            · have hle : ¬ (n2' : Int) < (n1 : Int) := by have := HSP.out rfl rfl k3'; omega
              --@5
              go_wp2_with (first
                | (go_at_call 26; (with_reducible refine cs.mono ?_); rintro e w7 ⟨A7, c7, rfl, HX7⟩; obtain ⟨t6, tk⟩ := HPG.out _ _ _ _ _ _ _ _ _ _ _ _ _ _ HX7.out))
              go_roundw
              case rel => exact ⟨j + 1, _, _, _, _, _, _, _, _, _, _, _, _, _, _, by omega, by go_num, HX7⟩
              case measure => simp [intOf]; omega
          | false =>
            have cv := CW.out rfl _ _ _ _ _ _ _ _ _ _ _ _ _ _ HX
            --@6
            go_wp2_with (first
              | (go_at_call 39; (with_reducible refine cv.mono ?_); rintro e w7 ⟨A7, c7, rfl, HX7⟩; obtain ⟨t6, tk⟩ := HPG.out _ _ _ _ _ _ _ _ _ _ _ _ _ _ HX7.out))
            go_roundw
            case rel => exact ⟨j + 1, _, _, _, _, _, _, _, _, _, _, _, _, _, _, by omega, by go_num, HX7⟩
            case measure => simp [intOf]; omega
        | false =>
          cases hd' with
          | true =>
            --@7
            go_wp2
            go_roundw
            case rel => exact ⟨j + 1, _, _, _, _, _, _, _, _, _, _, _, _, _, _, by omega, by go_num, HX⟩
            case measure => simp [intOf]; omega
          | false =>
            have cv := CW.out rfl _ _ _ _ _ _ _ _ _ _ _ _ _ _ HX
            --@8
            go_wp2_with (first
              | (go_at_call 39; (with_reducible refine cv.mono ?_); rintro e w7 ⟨A7, c7, rfl, HX7⟩; obtain ⟨t6, tk⟩ := HPG.out _ _ _ _ _ _ _ _ _ _ _ _ _ _ HX7.out))
            go_roundw
            case rel => exact ⟨j + 1, _, _, _, _, _, _, _, _, _, _, _, _, _, _, by omega, by go_num, HX7⟩
            case measure => simp [intOf]; omega
    · obtain rfl : m = j := by omega
      --@3
      go_wp2_with (first
        | (go_at_call 32; (with_reducible refine (cw _).mono ?_); rintro e w5 ⟨rfl, hb5⟩))
      go_ret
      exact ⟨rfl, bel_tr2 HK.out.st.bel hb5⟩

end Go.Proofs.YtonmkanppapjjaaGreat
