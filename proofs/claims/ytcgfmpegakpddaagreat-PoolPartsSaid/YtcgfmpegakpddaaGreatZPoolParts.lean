/- Layer 9's statement on blocks: each is out, or in its span's list. -/
import Derived.Test.YtcgfmpegakpddaaGreatZPoolParts0
import Derived.Deep.RegionHeld3
namespace Go.Proofs.YtcgfmpegakpddaaGreat
open Go.RowKit Go.Maps
set_option linter.unusedVariables false

theorem bel_trP {W X Y : World} (h : Below W.heap.size W X) (k : Below X.heap.size X Y) : Below W.heap.size W Y := h.trans (k.mono h.size)
/-- Spans that a call has made, one by one. -/
theorem span_atP {W : World} {base c : Nat} {A : Option Addr} {l : List (Int × Int × Int × Int)} (h : W.ownsRow base 49 4 (.slice A l.length c) l.length (cellsAll scells l)) {i : Nat} (hi : i < l.length) :
    ∃ b off s, A = some ⟨b, off, none⟩ ∧ l[i]? = some s ∧ b < W.heap.size ∧ W.cell? ⟨b, off + i * 4, none⟩ = some (.int .i64 s.1) ∧ W.cell? ⟨b, off + i * 4 + 1, none⟩ = some (.int .i64 s.2.1) ∧ W.cell? ⟨b, off + i * 4 + 2, none⟩ = some (.int .i64 s.2.2.1) ∧ W.cell? ⟨b, off + i * 4 + 3, none⟩ = some (.int .i64 s.2.2.2) := by
  have hr : Sn W W.heap.size A l.length l := RowOf.of_own scells_len h rfl
  obtain ⟨b, off, s, cs, e, hb, hy, _, hc, rfl⟩ := RowOf.at_ hr hi
  exact ⟨b, off, s, e, hy, hb, hc 0 (by decide), hc 1 (by decide), hc 2 (by decide), hc 3 (by decide)⟩

set_option maxRecDepth 100000 in
set_option maxHeartbeats 8000000 in
theorem poolParts_any (pages : Int) (A0 : Option Addr) (m c : Nat) (l : List Act9) (w : World) (h0 : in64 pages) (hm : m ≤ maxLen) (hs : RowOf (Act9Is w) 4 w w.heap.size A0 m l) :
    Calls Tryz.prog 4 #[.int .i64 pages, .slice A0 m c] w fun e w' => e = .returned (.bool true) ∧ Below w.heap.size w w' := by
  have cw := fun W => awake9 W
  unfold maxLen at hm
  by_cases g0 : pages < 4
  · clear hs
    --@10
    go_enter Tryz.func4, Tryz.ntmps4
    go_wp2_with (go_at_call 10; (with_reducible refine (cw _).mono ?_); rintro e w1 ⟨rfl, hb⟩)
    go_ret
    exact ⟨rfl, hb⟩
  by_cases g1 : 40 < pages
  · clear hs
    --@11
    go_enter Tryz.func4, Tryz.ntmps4
    go_wp2_with (go_at_call 10; (with_reducible refine (cw _).mono ?_); rintro e w1 ⟨rfl, hb⟩)
    go_ret
    exact ⟨rfl, hb⟩
  by_cases g2 : (100 : Int) < (m : Int)
  · clear hs
    --@12
    go_enter Tryz.func4, Tryz.ntmps4
    go_wp2_with (go_at_call 10; (with_reducible refine (cw _).mono ?_); rintro e w1 ⟨rfl, hb⟩)
    go_ret
    exact ⟨rfl, hb⟩
  obtain ⟨F, ws, hN, cn⟩ := code_made pages w (by omega) (by omega)
  have HR := hidb hs
  clear hs
  replace cn : Calls Tryz.prog 11 #[.int .i64 pages] w fun e w' => ∃ hp ap p S, e = .returned (.tuple #[.pointer (some ⟨hp, 0, none⟩), .pointer (some ⟨ap, 0, none⟩), .pointer (some ⟨p, 0, none⟩)]) ∧ Hid (PoolSt w w' p hp S ⟨⟨pages, F, [], 0⟩, ws, false, []⟩ 0 pages) := cn.mono fun e w' ⟨hp, ap, p, S, a, b⟩ => ⟨hp, ap, p, S, a, hidb b⟩
  have CR : Hid (∀ w2 p hp S, Hid (PoolSt w w2 p hp S ⟨⟨pages, F, [], 0⟩, ws, false, []⟩ 0 pages) → Calls Tryz.prog 12 #[.int .i64 pages] (w2.alloc (.cells #[.int .i64 0, .slice none 0 0, .slice none 0 0, .int .i64 0, .slice none 0 0, .bool false] 35)) fun e w3 => ∃ A n c A2 n2 c2, e = .returned (.tuple #[.agg #[.int .i64 pages, .slice A n c, .slice A2 n2 c2, .int .i64 0], .int .i64 0]) ∧ F6 w3 w2.heap.size (.int .i64 0) (.slice none 0 0) (.slice none 0 0) (.int .i64 0) (.slice none 0 0) (.bool false) ∧
      Hid (L9 w (setG4 w3 w2.heap.size (.int .i64 pages) (.slice A n c) (.slice A2 n2 c2) (.int .i64 0)) p hp w2.heap.size S ⟨⟨pages, F, [], 0⟩, ws, false, []⟩ 0 pages A n c A2 n2 c2 none 0 0)) := hidb (fun w2 p hp S s => by
    have := ref_hnew (fun b => ¬ S b ∧ w2.heap.size ≠ b) pages (w2.alloc (.cells #[.int .i64 0, .slice none 0 0, .slice none 0 0, .int .i64 0, .slice none 0 0, .bool false] 35)) (fun b hb => ⟨fun c => by have := s.out.lt b c; simp at hb; omega, by simp at hb; omega⟩) h0.1 h0.2
    rw [hN] at this
    refine this.mono ?_
    rintro e w3 ⟨⟨v, rfl, hh⟩, hb⟩
    obtain ⟨A, c, A2, c2, rfl, hrest⟩ := hh
    have h9 : HIs w3 (fun b => ¬ S b ∧ w2.heap.size ≠ b) ⟨pages, F, [], 0⟩ (hval pages A F.length c A2 0 c2 0) := ⟨A, c, A2, c2, rfl, hrest⟩
    have h8 := L9.start s.out hb h9
    exact ⟨A, F.length, c, A2, 0, c2, rfl, (F6.made w2 _ _ _ _ _ _ _).below hb, hidb h8⟩)
  go_enter Tryz.func4, Tryz.ntmps4
  go_wp2_with (first
    | (go_at_call 11; (with_reducible refine cn.mono ?_); rintro e w2 ⟨hp, ap, p, S2, rfl, s2⟩)
    | (go_at_call 12; (with_reducible refine (CR.out _ _ _ _ s2).mono ?_); rintro e w3 ⟨A, n, c1, A2, n2, c2', rfl, ⟨x0, x1, x2, x3, x4, x5, xf⟩, HL⟩; have xf0 := xf 0; have xf1 := xf 1; have xf2 := xf 2; have xf3 := xf 3; clear xf))
  obtain ⟨mb, hmb⟩ : ∃ mb, mb = w2.heap.size := ⟨_, rfl⟩
  obtain ⟨W4, hW4⟩ : ∃ W4, W4 = setG4 w3 w2.heap.size (.int .i64 pages) (.slice A n c1) (.slice A2 n2 c2') (.int .i64 0) := ⟨_, rfl⟩
  rw [← hW4] at HL
  unfold setG4 at hW4
  rw [← hW4]
  rw [← hmb] at HL ⊢
  clear cn CR s2 x0 x1 x2 x3 x4 x5 xf0 xf1 xf2 xf3 hW4 hmb
  go_loopw [9] (fun x wr => ∃ (j : Nat) (S : Nat → Prop) (u : PoolW) (B : Option Addr) (j1 d1 : Nat) (B2 : Option Addr) (j2 d2 : Nat) (B3 : Option Addr) (j3 d3 : Nat), j ≤ m ∧ x = .int .i64 j ∧ Hid (L9 w wr p hp mb S u j pages B j1 d1 B2 j2 d2 B3 j3 d3)) (fun x _ => (m - intOf x).toNat)
  case atStart => exact ⟨0, S2, _, A, n, c1, A2, n2, c2', none, 0, 0, Nat.zero_le _, rfl, HL⟩
  case round =>
    obtain ⟨j, S, u, B, j1, d1, B2, j2, d2, B3, j3, d3, hj, rfl, HK⟩ := hrel
    by_cases hlt : j < m
    · obtain ⟨b, off, a, cs, rfl, hbs, hx, hl5, hc, hcs, hkd, hor, hcap, hids, hi64⟩ := (RowOf.below HR.out HK.out.st.bel).at_ hlt
      subst hcs
      have a0 : wr.cell? ⟨b, off + j * 4, none⟩ = some (.int .i64 a.kind) := hc 0 (by omega)
      have a1 : wr.cell? ⟨b, off + j * 4 + 1, none⟩ = some (.int .i64 a.order) := hc 1 (by omega)
      have a2 : wr.cell? ⟨b, off + j * 4 + 2, none⟩ = some (.bool a.on) := hc 2 (by omega)
      have a3 : wr.cell? ⟨b, off + j * 4 + 3, none⟩ = some (.slice a.A a.len a.cap) := hc 3 (by omega)
      have hi0 : (0 : Int) ≤ (j : Int) := by omega
      have hi1 : (j : Int) < (m : Int) := by omega
      by_cases g4 : (20 : Int) < (a.len : Int)
      · clear hc hl5 hx
        --@1
        go_wp2_with (first
          | (go_at_call 10; (with_reducible refine (cw _).mono ?_); rintro e w5 ⟨rfl, hb5⟩))
        go_ret
        exact ⟨rfl, bel_trP HK.out.st.bel hb5⟩
      obtain ⟨u', hu'⟩ : ∃ u', qStep u.plain a = u' := ⟨_, rfl⟩
      obtain ⟨la, hla⟩ : ∃ x, u.h.last = x := ⟨_, rfl⟩
      obtain ⟨la', hla'⟩ : ∃ x, u'.heap.last = x := ⟨_, rfl⟩
      obtain ⟨hd, hhd⟩ : ∃ x, u.held = x := ⟨_, rfl⟩
      obtain ⟨hd', hhd'⟩ : ∃ x, u'.held = x := ⟨_, rfl⟩
      have f0 : F6 wr mb (.int .i64 pages) (.slice B j1 d1) (.slice B2 j2 d2) (.int .i64 la) (.slice B3 j3 d3) (.bool hd) := by
        have := HK.out.f6
        rw [HK.out.st.pg, hla, hhd] at this
        exact this
      have cd : Calls Tryz.prog 13 #[.pointer (some ⟨hp, 0, none⟩), .pointer (some ⟨p, 0, none⟩), .agg #[.int .i64 pages, .slice B j1 d1, .slice B2 j2 d2, .int .i64 la, .slice B3 j3 d3, .bool hd], .agg #[.int .i64 a.kind, .int .i64 a.order, .bool a.on, .slice a.A a.len a.cap]] wr.drew fun e w6 => ∃ C k1 e1 C2 k2 e2 C3 k3 e3, e = .returned (.tuple #[.bool true, .agg #[.int .i64 pages, .slice C k1 e1, .slice C2 k2 e2, .int .i64 la', .slice C3 k3 e3, .bool hd']]) ∧ F6 w6 mb (.int .i64 pages) (.slice B j1 d1) (.slice B2 j2 d2) (.int .i64 la) (.slice B3 j3 d3) (.bool hd) ∧
          Hid (∀ W4, Below w6.heap.size w6 W4 → ∃ S' u, L9 w (set6 W4 mb (.int .i64 pages) (.slice C k1 e1) (.slice C2 k2 e2) (.int .i64 la') (.slice C3 k3 e3) (.bool hd')) p hp mb S' u (j + 1) pages C k1 e1 C2 k2 e2 C3 k3 e3) := by
        have := (HK.out.below (Below.refl _ _).drew).does (by omega) a hor hids (by omega) hi64 la la' hd hd' hla hhd (by rw [hu']; exact hla') (by rw [hu']; exact hhd')
        refine this.mono ?_
        rintro e w6 ⟨C, k1, e1, C2, k2, e2, C3, k3, e3, x1, x2, _, x4⟩
        exact ⟨C, k1, e1, C2, k2, e2, C3, k3, e3, x1, x2, hidb (fun W4 hb4 => (x4.out W4 hb4).imp fun S' ⟨u, _, h⟩ => ⟨u, h⟩)⟩
      obtain ⟨y0, y1, y2, y3, y4, y5, _⟩ := f0
      clear hc hl5 hx hla hla' hhd hhd' hids hi64 hcap HR hu' hor hkd HK cw
      --@2
      go_wp2
      go_region_law
        (first
          | (go_simp; go_at_call 13; (with_reducible refine cd.mono ?_); rintro e w6 ⟨C, k1, e1, C2, k2, e2, C3, k3, e3, rfl, ⟨z0, z1, z2, z3, z4, z5, zf⟩, HNX⟩; have zf0 := zf 0; have zf1 := zf 1; have zf2 := zf 2; have zf3 := zf 3; have zf4 := zf 4; have zf5 := zf 5; clear zf))
      all_goals go_wp2
      all_goals go_roundw
      all_goals first
        | (obtain ⟨S', u2, hS'⟩ := HNX.out w6 (Below.refl _ _); exact ⟨j + 1, S', u2, C, k1, e1, C2, k2, e2, C3, k3, e3, by omega, by go_num, hidb hS'⟩)
        | (simp [intOf]; omega)
    · obtain rfl : m = j := by omega
      have hk9 : m ≤ 100 := by omega
      have HS := hidb HK.out.st
      have CO : Calls Tryz.prog 21 #[.pointer (some ⟨p, 0, none⟩)] wr fun e w' => ∃ ds A c O, e = .returned (.slice A (List.length O) c) ∧ Hid (InOrderP u.ks ds ∧ O = (ds.filter fun _ => true).flatMap outK ∧ Sl w' w'.heap.size A O.length (O.map iv) ∧ Below wr.heap.size wr w') := by
        refine (t_pout HK.out.st).mono ?_
        rintro e w' ⟨ds, h1, A, c, rfl, hown, hb⟩
        exact ⟨ds, A, c, _, rfl, hidb ⟨h1, rfl, Sl.of_own hown, hb⟩⟩
      have HB0 := hidb HK.out.st.bel
      clear HK HR
      go_wp2_with (first
        | (go_at_call 21; (with_reducible refine CO.mono ?_); rintro e w5 ⟨ds1, AO, cO, O, rfl, HO⟩))
      clear CO
      go_loopw [11, 12, 13, 14, 15, 16, 17] (fun x _ _ _ _ _ _ wr2 => ∃ (o : Nat), o ≤ 4 ∧ x = .int .i64 o ∧ Hid (Below w5.heap.size w5 wr2)) (fun x _ _ _ _ _ _ _ => (4 - intOf x).toNat)
      case atStart => exact ⟨0, by omega, rfl, hidb (Below.refl _ _)⟩
      case round =>
        obtain ⟨o, ho, rfl, HB5⟩ := hrel
        by_cases hlo : o < 4
        · obtain ⟨wo, rfl⟩ : ∃ wo : World, wo = wr := ⟨_, rfl⟩
          have CL : Calls Tryz.prog 17 #[.pointer (some ⟨p, 0, none⟩), .int .i64 o] wo fun e w' => ∃ ds A c F nF, e = .returned (.slice A nF c) ∧ Hid (InOrderP u.ks ds ∧ F = (ds.filter fun k => k.s.2.2.2 == (o : Int)).flatMap (·.l) ∧ F.length = nF ∧ Sl w' w'.heap.size A nF (F.map iv) ∧ Below wo.heap.size wo w') := by
            refine (t_plist ((HS.out.below HO.out.2.2.2).below HB5.out) o).mono ?_
            rintro e w' ⟨ds, h1, A, c, rfl, hown, hb⟩
            exact ⟨ds, A, c, _, _, rfl, hidb ⟨h1, rfl, rfl, Sl.of_own hown, hb⟩⟩
          have CS : Hid (∀ w6, Below wo.heap.size wo w6 → Calls Tryz.prog 14 #[.pointer (some ⟨p, 0, none⟩), .int .i64 o] w6 fun e w' => ∃ ds ts A c nt, e = .returned (.slice A nt c) ∧ Hid (InOrderP u.ks ds ∧ ts = (ds.filter fun k => k.s.2.2.2 == (o : Int)) ∧ ts.length = nt ∧ (∀ i, i < nt → ∃ b off t, A = some ⟨b, off, none⟩ ∧ ts[i]? = some t ∧ b < w'.heap.size ∧ w'.cell? ⟨b, off + i * 4, none⟩ = some (.int .i64 t.s.1) ∧ w'.cell? ⟨b, off + i * 4 + 1, none⟩ = some (.int .i64 t.s.2.1) ∧ w'.cell? ⟨b, off + i * 4 + 2, none⟩ = some (.int .i64 t.s.2.2.1) ∧ w'.cell? ⟨b, off + i * 4 + 3, none⟩ = some (.int .i64 t.s.2.2.2)) ∧ Below w6.heap.size w6 w')) := hidb (fun w6 hb6 => by
            refine (t_pspans (((HS.out.below HO.out.2.2.2).below HB5.out).below hb6) o).mono ?_
            rintro e w' ⟨ds, h1, A, c, rfl, hown, hb⟩
            refine ⟨ds, _, A, c, _, rfl, hidb ⟨h1, rfl, (List.length_map ..).symm, fun i hi => ?_, hb⟩⟩
            obtain ⟨b, off, s, e, hy, hb, y0, y1, y2, y3⟩ := span_atP hown hi
            rw [List.getElem?_map] at hy
            obtain ⟨t, ht, rfl⟩ := Option.map_eq_some_iff.1 hy
            exact ⟨b, off, t, e, ht, hb, y0, y1, y2, y3⟩)
          go_wp2_with (first
            | (go_at_call 17; (with_reducible refine CL.mono ?_); rintro e w6 ⟨ds2, AF, cF, F, nF, rfl, HF⟩; have cs := CS.out w6 HF.out.2.2.2.2)
            | (go_at_call 14; (with_reducible refine cs.mono ?_); rintro e w7 ⟨ds3, ts, AS, cS, nt, rfl, HT⟩))
          clear CL CS
          have HPF : Hid (PartF (o : Int) ts F O) := hidb (by
            rw [HO.out.2.1, HF.out.2.1, HT.out.2.1]
            exact HS.out.parts (by omega) HO.out.1 HF.out.1 HT.out.1 (o : Int))
          have HNT : Hid (nt = ts.length) := hidb HT.out.2.2.1.symm
          go_loopw [13, 15, 16, 17] (fun y x _ _ wr3 => ∃ i : Nat, i ≤ nt ∧ y = .int .i64 (sumP ts i : Nat) ∧ x = .int .i64 i ∧ Hid (Below w7.heap.size w7 wr3)) (fun _ x _ _ _ => (nt - intOf x).toNat)
          case atStart => exact ⟨0, Nat.zero_le _, rfl, rfl, hidb (Below.refl _ _)⟩
          case round =>
            obtain ⟨i, hi, rfl, rfl, HB7⟩ := hrel
            obtain ⟨wp, rfl⟩ : ∃ wp : World, wp = wr := ⟨_, rfl⟩
            by_cases hli : i < nt
            · obtain ⟨b, off, ⟨tb, ⟨s1, s2, s3, s4⟩, tc, tl⟩, rfl, ht, hbl, y0, y1, y2, y3⟩ := HT.out.2.2.2.1 i hli
              have htm := List.mem_of_getElem? ht
              obtain ⟨e1, e2, e3, e4⟩ := HPF.out.ord _ htm
              simp only at e1 e2 e3 e4 y0 y1 y2 y3
              subst e1 e2
              have q : ∀ j, wp.cell? ⟨b, j, none⟩ = w7.cell? ⟨b, j, none⟩ := fun j => HB7.out.cell (p := ⟨b, j, none⟩) hbl
              have z0 := (q _).trans y0
              have z1 := (q _).trans y1
              have z2 := (q _).trans y2
              have z3 := (q _).trans y3
              clear q
              have HQ : Hid (∀ W, Below wp.heap.size wp W → W.cell? ⟨b, off + i * 4, none⟩ = some (.int .i64 s1) ∧ W.cell? ⟨b, off + i * 4 + 1, none⟩ = some (.int .i64 s2) ∧ W.cell? ⟨b, off + i * 4 + 2, none⟩ = some (.int .i64 4) ∧ W.cell? ⟨b, off + i * 4 + 3, none⟩ = some (.int .i64 (o : Int))) := hidb (fun W hb => by
                have hl := lt_of_cell z0
                have q : ∀ j, W.cell? ⟨b, j, none⟩ = wp.cell? ⟨b, j, none⟩ := fun j => hb.cell (p := ⟨b, j, none⟩) hl
                exact ⟨(q _).trans z0, (q _).trans z1, (q _).trans z2, (q _).trans z3⟩)
              obtain ⟨t, htd⟩ : ∃ t : CutV, t = ⟨tb, (s1, s2, 4, (o : Int)), tc, tl⟩ := ⟨_, rfl⟩
              have CB : Calls Tryz.prog 29 #[.agg #[.int .i64 s1, .int .i64 s2, .int .i64 4, .int .i64 (o : Int)]] wp fun e w' => ∃ A c nb, e = .returned (.slice A nb c) ∧ Hid ((pBlocks t.s).length = nb ∧ Sl w' w'.heap.size A nb ((pBlocks t.s).map iv) ∧ Below wp.heap.size wp w') := by
                refine (ref_pblocks s1 s2 4 (o : Int) wp e3 (by omega) e4 (by omega) (by omega)).mono ?_
                rintro e w' ⟨A, c, rfl, hown, hb⟩
                exact ⟨A, c, _, rfl, hidb ⟨by rw [htd], by rw [htd]; exact Sl.of_own hown, hb⟩⟩
              have HTI := hidb (show ts[i]? = some t by rw [htd]; exact ht)
              have HTM := hidb (show t ∈ ts by rw [htd]; exact htm)
              have hi0 : (0 : Int) ≤ (i : Int) := by omega
              have hi1 : (i : Int) < (nt : Int) := by omega
              have hsl := sumP_le HPF.out i
              have hnt6 : nt ≤ 65536 := by rw [HNT.out]; exact HPF.out.fewT
              clear ht htm e3 e4 y0 y1 y2 y3 htd
              go_wp2_with (first
                | (go_at_call 29; (with_reducible refine CB.mono ?_); rintro e w8 ⟨AB, cB, nb, rfl, HBL⟩; obtain ⟨z0, z1, z2, z3⟩ := HQ.out w8 HBL.out.2.2))
              clear CB
              have hnb : nb ≤ 16 := by rw [← HBL.out.1]; exact HPF.out.fewB _ HTM.out
              go_loopw [13, 17] (fun y x wr4 => ∃ k : Nat, k ≤ nb ∧ y = .int .i64 ((sumP ts i + cntP t k : Nat) : Int) ∧ x = .int .i64 k ∧ Hid (Below w8.heap.size w8 wr4)) (fun _ x _ => (nb - intOf x).toNat)
              case atStart => exact ⟨0, Nat.zero_le _, rfl, rfl, hidb (Below.refl _ _)⟩
              case round =>
                obtain ⟨k, hk, rfl, rfl, HB8⟩ := hrel
                by_cases hlk : k < nb
                · obtain ⟨bb, boff, x, rfl, hxk, hbc⟩ := (HBL.out.2.1.below HB8.out).int_ hlk
                  obtain ⟨f1, f2⟩ := HPF.out.ins t HTM.out x (List.mem_of_getElem? hxk)
                  have hstep := cntP_step hxk
                  have hB58 : Below w5.heap.size w5 wr := bel_trP (bel_trP HB5.out HF.out.2.2.2.2) (bel_trP (bel_trP HT.out.2.2.2.2 HB7.out) (bel_trP HBL.out.2.2 HB8.out))
                  have hB68 : Below w6.heap.size w6 wr := bel_trP (bel_trP HT.out.2.2.2.2 HB7.out) (bel_trP HBL.out.2.2 HB8.out)
                  have hslF : Sl wr wr.heap.size AF nF (F.map iv) := (HF.out.2.2.2.1.below hB68).more hB68.size
                  have hslO : Sl wr wr.heap.size AO O.length (O.map iv) := (HO.out.2.2.1.below hB58).more hB58.size
                  have hfF : nF ≤ 65536 := by rw [← HF.out.2.2.1]; exact HPF.out.few.1
                  have hfO := HPF.out.few.2
                  have hk0 : (0 : Int) ≤ (k : Int) := by omega
                  have hk1 : (k : Int) < (nb : Int) := by omega
                  have hck : cntP t k ≤ 16 := by have := cntP_le t k; rw [HBL.out.1] at this; omega
                  by_cases hx : x ∈ t.l
                  · rw [if_pos hx] at hstep
                    have q1 := fun q => q_inG AF nF cF F x wr q wr.heap.size hslF hfF true (decide_eq_true (f1.2 hx))
                    have q2 := fun q => q_inG AO O.length cO O x wr q wr.heap.size hslO hfO false (decide_eq_false (fun h => f2.1 h hx))
                    have HST := hidb hstep
                    have HZ : Hid (∀ wz, (∃ nq, wz = wr.drewN nq) → wz.cell? ⟨bb, boff + k, none⟩ = some (.int .i64 x) ∧ (Calls Tryz.prog 30 #[.slice AF nF cF, .int .i64 x] wz fun e w' => e = .returned (.bool true) ∧ w' = wz) ∧ Hid (Below w8.heap.size w8 wz)) := hidb (fun wz ⟨nq, e⟩ => by
                      subst e
                      refine ⟨hbc, (ref_bin AF nF cF F x (wr.drewN nq) wr.heap.size (hslF.drewN nq) (by omega)).mono fun e w' h => ⟨by rw [h.1, show decide (x ∈ F) = true from decide_eq_true (f1.2 hx)], h.2.symm⟩, hidb (belowN HB8.out nq)⟩)
                    clear hxk f1 f2 hstep hslF hslO hB58 hB68
                    --@7
                    go_wp2
                    go_quiet (first | (go_at_call 30; (with_reducible exact q1 _)) | (go_at_call 30; (with_reducible exact q2 _)))
                    obtain ⟨wz, hwz⟩ : ∃ wz, wz = wr.drewN nq := ⟨_, rfl⟩
                    rw [← hwz]
                    obtain ⟨hbcz, q3, HB9⟩ := HZ.out wz ⟨nq, hwz⟩
                    clear hwz q1 q2
                    go_wp2_with (first | (go_at_call 30; (with_reducible refine q3.mono ?_); rintro e w9 ⟨rfl, rfl⟩))
                    go_roundw
                    case rel => exact ⟨k + 1, by omega, by rw [HST.out]; go_num, by go_num, HB9⟩
                    case measure => simp [intOf]; omega
                  · rw [if_neg hx] at hstep
                    have q1 := fun q => q_inG AF nF cF F x wr q wr.heap.size hslF hfF false (decide_eq_false (fun h => hx (f1.1 h)))
                    have q2 := fun q => q_inG AO O.length cO O x wr q wr.heap.size hslO hfO true (decide_eq_true (f2.2 hx))
                    have HST := hidb hstep
                    have HZ : Hid (∀ wz, (∃ nq, wz = wr.drewN nq) → wz.cell? ⟨bb, boff + k, none⟩ = some (.int .i64 x) ∧ (Calls Tryz.prog 30 #[.slice AF nF cF, .int .i64 x] wz fun e w' => e = .returned (.bool false) ∧ w' = wz) ∧ Hid (Below w8.heap.size w8 wz)) := hidb (fun wz ⟨nq, e⟩ => by
                      subst e
                      refine ⟨hbc, (ref_bin AF nF cF F x (wr.drewN nq) wr.heap.size (hslF.drewN nq) (by omega)).mono fun e w' h => ⟨by rw [h.1, show decide (x ∈ F) = false from decide_eq_false (fun h => hx (f1.1 h))], h.2.symm⟩, hidb (belowN HB8.out nq)⟩)
                    clear hxk f1 f2 hstep hslF hslO hB58 hB68
                    --@17
                    go_wp2
                    go_quiet (first | (go_at_call 30; (with_reducible exact q1 _)) | (go_at_call 30; (with_reducible exact q2 _)))
                    obtain ⟨wz, hwz⟩ : ∃ wz, wz = wr.drewN nq := ⟨_, rfl⟩
                    rw [← hwz]
                    obtain ⟨hbcz, q3, HB9⟩ := HZ.out wz ⟨nq, hwz⟩
                    clear hwz q1 q2
                    go_wp2_with (first | (go_at_call 30; (with_reducible refine q3.mono ?_); rintro e w9 ⟨rfl, rfl⟩))
                    go_roundw
                    case rel => exact ⟨k + 1, by omega, by rw [HST.out]; rfl, by go_num, HB9⟩
                    case measure => simp [intOf]; omega
                · obtain rfl : k = nb := by omega
                  have hsum := sumP_step HTI.out
                  have hall := cntP_all HPF.out HTM.out
                  rw [HBL.out.1] at hall
                  --@8
                  go_wp2
                  go_roundw
                  case rel => exact ⟨i + 1, by omega, by rw [hsum, hall], by go_num, hidb (bel_trP HB7.out (bel_trP HBL.out.2.2 HB8.out))⟩
                  case measure => simp [intOf]; omega
            · obtain rfl : i = nt := by omega
              have hend : sumP ts i = nF := by rw [HNT.out, sumP_all, HPF.out.len, HF.out.2.2.1]
              rw [hend]
              clear hend
              --@9
              go_wp2
              go_roundw
              case rel => exact ⟨o + 1, by omega, by go_num, hidb (bel_trP (bel_trP HB5.out HF.out.2.2.2.2) (bel_trP HT.out.2.2.2.2 HB7.out))⟩
              case measure => simp [intOf]; omega
        · obtain rfl : o = 4 := by omega
          --@4
          go_wp2_with (first
            | (go_at_call 10; (with_reducible refine (cw _).mono ?_); rintro e w9 ⟨rfl, hb9⟩))
          go_ret
          exact ⟨rfl, bel_trP (bel_trP HB0.out HO.out.2.2.2) (bel_trP HB5.out hb9)⟩

end Go.Proofs.YtcgfmpegakpddaaGreat
