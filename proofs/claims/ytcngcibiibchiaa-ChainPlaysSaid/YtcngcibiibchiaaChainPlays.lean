/- The walk of layer 8's ChainPlays. -/
import Derived.Test.YtcngcibiibchiaaChainPlays0
namespace Go.Proofs.Ytcngcibiibchiaa
open Go.RowKit
set_option linter.unusedVariables false

set_option maxRecDepth 100000 in
set_option maxHeartbeats 16000000 in
theorem chainPlays_any (h0 l0 : Int) (A2 : Option Addr) (n2 cap2 : Nat) (acts : List Act8) (w : World) (i1 : in64 h0) (i2 : in64 l0) (hn2 : n2 ≤ maxLen) (hs : RowOf (Act8Is w) 4 w w.heap.size A2 n2 acts) :
    Calls Try.prog 3 #[.agg #[.int .i64 h0, .int .i64 l0], .slice A2 n2 cap2] w fun e w' => e = .returned (.bool true) ∧ Below w.heap.size w w' := by
  have ca := fun W => awake8 W
  unfold maxLen at hn2
  by_cases g1 : 60 < n2
  · clear hs
    go_enter Try.func3, Try.ntmps3
    go_wp2_with (first | (go_at_call 7; (with_reducible refine (ca _).mono ?_); rintro e w1 ⟨rfl, hb1⟩))
    go_ret
    exact ⟨rfl, ((Below.refl w.heap.size w).alloc (Nat.le_refl _) (.cells #[.int .i64 h0, .int .i64 l0] 23)).trans (hb1.mono (by simp))⟩
  have hn60 : n2 ≤ 60 := by omega
  have cn := code_new4 (w.alloc (.cells #[.int .i64 h0, .int .i64 l0] 23))
  have HS : Hid (∀ W, Below w.heap.size w W → RowOf (Act8Is w) 4 W w.heap.size A2 n2 acts) := hidb (fun W hb => hs.below hb)
  have I1 := hidb i1
  have I2 := hidb i2
  obtain ⟨i0, hi, hz0, hz1, hz2⟩ := info_parts info_u64
  clear hs i1 i2
  go_enter Try.func3, Try.ntmps3
  go_wp2_with (first
    | (go_at_call 8; (with_reducible refine cn.mono ?_); rintro e w1 ⟨p, g, rfl, har, hb1⟩; have HAR := hidb har; have HB1 := hidb hb1; clear har hb1)
    | (at_make; refine wpList_make_full w1 rfl _ _ 30 rfl w1.heap.size 31 i0 (.int .u64 0) 1 Try.underlying30 hi hz0 hz1 .i64 .i64 _ _ 256 rfl rfl (by omega) (by omega) (by rw [hz2]; omega) (by unfold maxLen; omega) (Nat.le_refl _) ?_; intro w2 hown hgrow; have hsl := Sl.of_own hown; rw [zero_words 256] at hsl; have HB2 : Hid (Below w1.heap.size w1 w2) := hidb ((Below.refl _ _).grown hgrow (Nat.le_refl _) (fun k hk => by cases hk)); have HSL := hidb hsl; clear hown hgrow hsl))
  have HR0 : Hid (R8 w w2 p g w.heap.size (some ⟨w1.heap.size, 0, none⟩) zs256 (h0, l0)) := hidb (by
    have hb0 : Below w.heap.size w (w.alloc (.cells #[.int .i64 h0, .int .i64 l0] 23)) := (Below.refl _ _).alloc (Nat.le_refl _) _
    have hbb := HB1.out.trans (HB2.out.mono HB1.out.size)
    have q1 := HAR.out.ge
    have q2 := HAR.out.geg
    have q3 := HAR.out.lt
    have q4 := HB1.out.size
    simp only [World.size_alloc] at q1 q2 q4
    refine ⟨(HAR.out.below HB2.out (Nat.le_refl _)).more (by simp), (Two.new w h0 l0 23).step (below_to_grown hbb (some g)) (by omega), HSL.out, hb0.trans (hbb.mono hb0.size), fun a e => ?_, Nat.le_refl _, by omega, zs256_wide, I1.out, I2.out⟩
    obtain rfl := Option.some.inj e
    simp only
    omega)
  obtain ⟨cb, hcb⟩ : ∃ cb, cb = w.heap.size := ⟨_, rfl⟩
  rw [← hcb] at HR0 ⊢
  clear cn hi hz0 hz1 hz2 HAR HB1 HB2 HSL hcb
  go_loopw [7, 8] (fun wv' kv wr => ∃ (j : Nat) (A7 : Option Addr) (c7 : Nat) (ws : List Nat) (ch cl : Int), j ≤ n2 ∧ kv = .int .i64 j ∧ wv' = .slice A7 256 c7 ∧ Hid (R8 w wr p g cb A7 ws (ch, cl))) (fun _ kv _ => (n2 - intOf kv).toNat)
  case atStart => exact ⟨0, _, 256, zs256, h0, l0, Nat.zero_le _, rfl, rfl, HR0⟩
  case round =>
    obtain ⟨j, A7, c7, ws, ch, cl, hj, rfl, rfl, HR⟩ := hrel
    clear HR0
    by_cases hlt : j < n2
    · obtain ⟨b, off, y, cs, hA, hbb, hy, hcl, hc, ⟨rfl, ak, aat, ax, ac, asl, al⟩⟩ := (HS.out wr HR.out.bel).at_ hlt
      obtain ⟨kind, at', x, AL, lL, cL, L⟩ := y
      simp only at ak aat ax ac asl al hc
      have z0 : wr.cell? ⟨b, off + j * 4, none⟩ = some (.int .i64 kind) := hc 0 (by omega)
      have z1 : wr.cell? ⟨b, off + j * 4 + 1, none⟩ = some (.int .i64 at') := hc 1 (by omega)
      have z2 : wr.cell? ⟨b, off + j * 4 + 2, none⟩ = some (.int .u64 (x : Int)) := hc 2 (by omega)
      have z3 : wr.cell? ⟨b, off + j * 4 + 3, none⟩ = some (.slice AL lL cL) := hc 3 (by omega)
      have hj0 : (0 : Int) ≤ (j : Int) := by omega
      have hj1 : (j : Int) < (n2 : Int) := by omega
      subst hA
      have HBL : Hid (∀ a, 0 < lL → AL = some a → a.block < w.heap.size) := hidb (fun a h0 e => by
        obtain ⟨b2, off2, e2, hb2, _⟩ := asl.2 h0
        rw [e] at e2
        obtain rfl := Option.some.inj e2
        exact hb2)
      have HSL : Hid (∀ W, Below w.heap.size w W → Sl W W.heap.size AL lL (L.map iv)) := hidb (fun W hb => (asl.below hb).more hb.size)
      have AK := hidb ak
      have AAT := hidb aat
      have AX := hidb ax
      have AL64 := hidb al
      have AC := hidb ac
      clear hc hy hcl hbb asl ak al aat ax
      obtain ⟨ac1, ac2⟩ := ac
      by_cases g2 : 20 < lL
      · have g3 : (20 : Int) < (lL : Int) := by omega
        unfold maxLen at ac2
        go_wp2_with (first | (go_at_call 7; (with_reducible refine (ca _).mono ?_); rintro e w9 ⟨rfl, hb9⟩))
        go_ret
        exact ⟨rfl, (HR.out.bel.alloc HR.out.bel.size _).trans (hb9.mono (by have := HR.out.bel.size; simp; omega))⟩
      have g3 : ¬ (20 : Int) < (lL : Int) := by omega
      unfold maxLen at ac2
      obtain ⟨W3, hW3⟩ : ∃ W3, W3 = ((wr.alloc (.cells #[.int .i64 kind, .int .i64 at', .int .u64 (x : Int), .slice AL lL cL] 34)).alloc (.cells #[.int .i64 ch, .int .i64 cl] 23)).alloc (.cells #[.int .i64 ch, .int .i64 cl] 23) := ⟨_, rfl⟩
      have k3 : P8 w W3 p g cb (wr.heap.size + 1) (wr.heap.size + 1 + 1) wr.heap.size A7 ws ws (ch, cl) (ch, cl) (ch, cl) [.int .i64 kind, .int .i64 at', .int .u64 (x : Int), .slice AL lL cL] := by
        rw [hW3]
        exact HR.out.start [.int .i64 kind, .int .i64 at', .int .u64 (x : Int), .slice AL lL cL] _ _ _
      have K3 := hidb k3
      have HW3 := hidb hW3
      have m0 : wr.cell? ⟨cb, 0, none⟩ = some (.int .i64 ch) := HR.out.tc.c0
      have m1 : wr.cell? ⟨cb, 1, none⟩ = some (.int .i64 cl) := HR.out.tc.c1
      have ba1 : Below wr.heap.size wr (wr.alloc (.cells #[.int .i64 kind, .int .i64 at', .int .u64 (x : Int), .slice AL lL cL] 34)) := (Below.refl _ _).alloc (Nat.le_refl _) _
      have ba2 : Below wr.heap.size wr ((wr.alloc (.cells #[.int .i64 kind, .int .i64 at', .int .u64 (x : Int), .slice AL lL cL] 34)).alloc (.cells #[.int .i64 ch, .int .i64 cl] 23)) := ba1.alloc ba1.size _
      have tc1 := HR.out.tc.step (below_to_grown ba1 (some g)) HR.out.dc.1
      have tc2 := HR.out.tc.step (below_to_grown ba2 (some g)) HR.out.dc.1
      have mb0 := tc1.c0
      have mb1 := tc1.c1
      have mc0 := tc2.c0
      have mc1 := tc2.c1
      simp only at mb0 mb1 mc0 mc1
      clear ba1 ba2 tc1 tc2
      obtain ⟨s0, s1, s2, s3, s4, s5, s6, s7, s8, s9, s10, s11⟩ := k3.facts
      have x0 := k3.tx 0 _ rfl
      have x1 := k3.tx 1 _ rfl
      have x2 := k3.tx 2 _ rfl
      have x3 := k3.tx 3 _ rfl
      simp only at s0 s1 s4 s5 s8 s9
      rw [hW3] at s0 s1 s2 s3 s4 s5 s6 s7 s8 s9 s10 s11 x0 x1 x2 x3
      have OK : Hid (Ok8 ws (ch, cl)) := hidb ⟨HR.out.wd, HR.out.ar.hlen, HR.out.c1, HR.out.c2⟩
      clear k3 hW3
      by_cases k0 : kind = 0
      · subst k0
        obtain ⟨⟨ws', ⟨h', l'⟩, no⟩, hr⟩ : ∃ r, cPush ws (ch, cl) L = r := ⟨_, rfl⟩
        have hok : Ok8 ws' (h', l') := by
          have q := OK.out.push L
          rw [hr] at q
          exact q
        have HOK := hidb hok
        have cr := ref_cpush A7 AL 256 c7 lL cL ws ch cl L W3 K3.out.sl (HSL.out W3 K3.out.bel) (by omega) (by omega) ac1 (by omega) OK.out.c1 OK.out.c2 AL64.out
        rw [hr] at cr
        have hq := fun W => neq_chain h' l' h' l' W
        clear hok
        cases hR : cList ws' (h', l') with
        | none =>
          go_wp2_with (first
            | (go_at_call 9; rw [← HW3.out]; (with_reducible refine cr.mono ?_); rintro e w5 ⟨A5, c5, rfl, hsl5, hb5, hA5⟩; have K5 := hidb (K3.out.row hb5 hsl5 hA5); obtain ⟨f0, f1, f2, f3, f4, f5, f6, f7, f8, f9, f10, f11⟩ := K5.out.facts; have y1 := K5.out.tx 1 _ rfl; have y3 := K5.out.tx 3 _ rfl; have K6 := hidb (K5.out.setN h' l'); obtain ⟨e0, e1, e2, e3, e4, e5, e6, e7, e8, e9, e10, e11⟩ := K6.out.facts; have v1 := K6.out.tx 1 _ rfl; have v3 := K6.out.tx 3 _ rfl; have cp := code_cpush K6.out.ar ch cl OK.out.c1 OK.out.c2 OK.out.wd AL lL cL L (HSL.out _ K6.out.bel) (fun h0 a e => by (have q1 := HBL.out a h0 e); (have q2 := K6.out.ar.geg); omega) (by omega) AL64.out; rw [hr] at cp; clear hsl5 hb5 hA5 cr)
            | (go_at_call 10; (with_reducible refine cp.mono ?_); rintro e w6 ⟨rfl, ha6, hg6⟩; have K7 := hidb (K6.out.step hg6 ha6); obtain ⟨f0, f1, f2, f3, f4, f5, f6, f7, f8, f9, f10, f11⟩ := K7.out.facts; have K8 := hidb (K7.out.setO h' l'); obtain ⟨e0, e1, e2, e3, e4, e5, e6, e7, e8, e9, e10, e11⟩ := K8.out.facts; have K9 := hidb (K8.out.setC h' l'); obtain ⟨d0, d1, d2, d3, d4, d5, d6, d7, d8, d9, d10, d11⟩ := K9.out.facts; have crl := ref_clist A5 256 c5 ws' h' l' _ K9.out.sl (by omega) HOK.out.c1 HOK.out.c2; rw [hR] at crl; clear ha6 hg6 cp)
            | (go_at_call 17; (with_reducible refine (chain_none8 crl).mono ?_); rintro e w7 ⟨A8, n8, c8, rfl, hb7⟩; have K10 := hidb (K9.out.below hb7); obtain ⟨f0, f1, f2, f3, f4, f5, f6, f7, f8, f9, f10, f11⟩ := K10.out.facts; have ccl := code_clist K10.out.ar h' l' HOK.out.c1 HOK.out.c2 HOK.out.wd; rw [hR] at ccl; clear hb7 crl)
            | (go_at_call 18; (with_reducible refine (list_none8 ccl).mono ?_); rintro e w8 ⟨A9, c9, rfl, hb8⟩; have K11 := hidb (K10.out.below hb8); obtain ⟨f0, f1, f2, f3, f4, f5, f6, f7, f8, f9, f10, f11⟩ := K11.out.facts; have crt := right_one8 K11.out.ar HOK.out.wd h' l' HOK.out.c1 HOK.out.c2 false (by rw [hR]; rfl); clear hb8 ccl)
            | (go_at_call 19; (with_reducible refine crt.mono ?_); rintro e w10 ⟨rfl, hb10⟩; have K12 := hidb (K11.out.below hb10); clear hb10 crt))
          go_roundw
          case rel => exact ⟨j + 1, A5, c5, ws', h', l', by omega, by go_num, rfl, hidb (K12.out.back HOK.out.wd HOK.out.c1 HOK.out.c2)⟩
          case measure => simp [intOf]; omega
        | some lst =>
          have hlst : lst.length ≤ 65536 := by
            have q1 := nodup_le _ _ (cList_some hR).1 (cList_some hR).2.1
            have q2 := HOK.out.ln
            omega
          go_wp2_with (first
            | (go_at_call 9; rw [← HW3.out]; (with_reducible refine cr.mono ?_); rintro e w5 ⟨A5, c5, rfl, hsl5, hb5, hA5⟩; have K5 := hidb (K3.out.row hb5 hsl5 hA5); obtain ⟨f0, f1, f2, f3, f4, f5, f6, f7, f8, f9, f10, f11⟩ := K5.out.facts; have y1 := K5.out.tx 1 _ rfl; have y3 := K5.out.tx 3 _ rfl; have K6 := hidb (K5.out.setN h' l'); obtain ⟨e0, e1, e2, e3, e4, e5, e6, e7, e8, e9, e10, e11⟩ := K6.out.facts; have v1 := K6.out.tx 1 _ rfl; have v3 := K6.out.tx 3 _ rfl; have cp := code_cpush K6.out.ar ch cl OK.out.c1 OK.out.c2 OK.out.wd AL lL cL L (HSL.out _ K6.out.bel) (fun h0 a e => by (have q1 := HBL.out a h0 e); (have q2 := K6.out.ar.geg); omega) (by omega) AL64.out; rw [hr] at cp; clear hsl5 hb5 hA5 cr)
            | (go_at_call 10; (with_reducible refine cp.mono ?_); rintro e w6 ⟨rfl, ha6, hg6⟩; have K7 := hidb (K6.out.step hg6 ha6); obtain ⟨f0, f1, f2, f3, f4, f5, f6, f7, f8, f9, f10, f11⟩ := K7.out.facts; have K8 := hidb (K7.out.setO h' l'); obtain ⟨e0, e1, e2, e3, e4, e5, e6, e7, e8, e9, e10, e11⟩ := K8.out.facts; have K9 := hidb (K8.out.setC h' l'); obtain ⟨d0, d1, d2, d3, d4, d5, d6, d7, d8, d9, d10, d11⟩ := K9.out.facts; have crl := ref_clist A5 256 c5 ws' h' l' _ K9.out.sl (by omega) HOK.out.c1 HOK.out.c2; rw [hR] at crl; clear ha6 hg6 cp)
            | (go_at_call 17; (with_reducible refine (chain_some8 crl).mono ?_); rintro e w7 ⟨A8, n8, c8, rfl, hsl7, hb7⟩; have K10 := hidb (K9.out.below hb7); obtain ⟨f0, f1, f2, f3, f4, f5, f6, f7, f8, f9, f10, f11⟩ := K10.out.facts; have HSL7 := hidb hsl7; have ccl := code_clist K10.out.ar h' l' HOK.out.c1 HOK.out.c2 HOK.out.wd; rw [hR] at ccl; clear hb7 crl hsl7)
            | (go_at_call 18; (with_reducible refine (list_some8 ccl hlst).mono ?_); rintro e w8 ⟨A9, n9, c9, rfl, hn9, hsl8, hb8⟩; have K11 := hidb (K10.out.below hb8); obtain ⟨f0, f1, f2, f3, f4, f5, f6, f7, f8, f9, f10, f11⟩ := K11.out.facts; have HSL8 := hidb hsl8; have HSL7' := hidb ((HSL7.out.below hb8).more hb8.size); have crt := right_one8 K11.out.ar HOK.out.wd h' l' HOK.out.c1 HOK.out.c2 true (by rw [hR]; rfl); clear hb8 ccl hsl8)
            | (go_at_call 19; (with_reducible refine crt.mono ?_); rintro e w10 ⟨rfl, hb10⟩; have K12 := hidb (K11.out.below hb10); have cis := ints_same8 A9 A8 n9 c9 n8 c8 lst w10 ((HSL8.out.below hb10).more hb10.size) ((HSL7'.out.below hb10).more hb10.size) hn9; clear hb10 crt)
            | (go_at_call 20; (with_reducible refine cis.mono ?_); rintro e w11 ⟨rfl, hb11⟩; have K13 := hidb (K12.out.below hb11); clear hb11 cis))
          go_roundw
          case rel => exact ⟨j + 1, A5, c5, ws', h', l', by omega, by go_num, rfl, hidb (K13.out.back HOK.out.wd HOK.out.c1 HOK.out.c2)⟩
          case measure => simp [intOf]; omega
      have kb0 : (kind == 0) = false := by simpa using k0
      by_cases k1 : kind = 1
      · subst k1
        obtain ⟨⟨ws', ⟨h', l'⟩, av, no⟩, hr⟩ : ∃ r, cPop ws (ch, cl) = r := ⟨_, rfl⟩
        have hok : Ok8 ws' (h', l') := by
          have q := OK.out.pop
          rw [hr] at q
          exact q
        have HOK := hidb hok
        have cr := ref_cpop A7 256 c7 ws ch cl W3 K3.out.sl (by omega) OK.out.c1 OK.out.c2
        rw [hr] at cr
        have hq := fun W => neq_chain h' l' h' l' W
        clear hok
        cases hR : cList ws' (h', l') with
        | none =>
          go_wp2_with (first
            | (go_at_call 11; rw [← HW3.out]; (with_reducible refine cr.mono ?_); rintro e w5 ⟨A5, c5, rfl, hsl5, hb5, hA5⟩; have K5 := hidb (K3.out.row hb5 hsl5 hA5); obtain ⟨f0, f1, f2, f3, f4, f5, f6, f7, f8, f9, f10, f11⟩ := K5.out.facts; have y1 := K5.out.tx 1 _ rfl; have y3 := K5.out.tx 3 _ rfl; have K6 := hidb (K5.out.setN h' l'); obtain ⟨e0, e1, e2, e3, e4, e5, e6, e7, e8, e9, e10, e11⟩ := K6.out.facts; have v1 := K6.out.tx 1 _ rfl; have v3 := K6.out.tx 3 _ rfl; have cp := code_cpop K6.out.ar ch cl OK.out.c1 OK.out.c2 OK.out.wd; rw [hr] at cp; clear hsl5 hb5 hA5 cr)
            | (go_at_call 12; (with_reducible refine cp.mono ?_); rintro e w6 ⟨rfl, ha6, hg6⟩; have K7 := hidb (K6.out.step hg6 ha6); obtain ⟨f0, f1, f2, f3, f4, f5, f6, f7, f8, f9, f10, f11⟩ := K7.out.facts; have K8 := hidb (K7.out.setO h' l'); obtain ⟨e0, e1, e2, e3, e4, e5, e6, e7, e8, e9, e10, e11⟩ := K8.out.facts; have K9 := hidb (K8.out.setC h' l'); obtain ⟨d0, d1, d2, d3, d4, d5, d6, d7, d8, d9, d10, d11⟩ := K9.out.facts; have crl := ref_clist A5 256 c5 ws' h' l' _ K9.out.sl (by omega) HOK.out.c1 HOK.out.c2; rw [hR] at crl; clear ha6 hg6 cp)
            | (go_at_call 17; (with_reducible refine (chain_none8 crl).mono ?_); rintro e w7 ⟨A8, n8, c8, rfl, hb7⟩; have K10 := hidb (K9.out.below hb7); obtain ⟨f0, f1, f2, f3, f4, f5, f6, f7, f8, f9, f10, f11⟩ := K10.out.facts; have ccl := code_clist K10.out.ar h' l' HOK.out.c1 HOK.out.c2 HOK.out.wd; rw [hR] at ccl; clear hb7 crl)
            | (go_at_call 18; (with_reducible refine (list_none8 ccl).mono ?_); rintro e w8 ⟨A9, c9, rfl, hb8⟩; have K11 := hidb (K10.out.below hb8); obtain ⟨f0, f1, f2, f3, f4, f5, f6, f7, f8, f9, f10, f11⟩ := K11.out.facts; have crt := right_one8 K11.out.ar HOK.out.wd h' l' HOK.out.c1 HOK.out.c2 false (by rw [hR]; rfl); clear hb8 ccl)
            | (go_at_call 19; (with_reducible refine crt.mono ?_); rintro e w10 ⟨rfl, hb10⟩; have K12 := hidb (K11.out.below hb10); clear hb10 crt))
          go_roundw
          case rel => exact ⟨j + 1, A5, c5, ws', h', l', by omega, by go_num, rfl, hidb (K12.out.back HOK.out.wd HOK.out.c1 HOK.out.c2)⟩
          case measure => simp [intOf]; omega
        | some lst =>
          have hlst : lst.length ≤ 65536 := by
            have q1 := nodup_le _ _ (cList_some hR).1 (cList_some hR).2.1
            have q2 := HOK.out.ln
            omega
          go_wp2_with (first
            | (go_at_call 11; rw [← HW3.out]; (with_reducible refine cr.mono ?_); rintro e w5 ⟨A5, c5, rfl, hsl5, hb5, hA5⟩; have K5 := hidb (K3.out.row hb5 hsl5 hA5); obtain ⟨f0, f1, f2, f3, f4, f5, f6, f7, f8, f9, f10, f11⟩ := K5.out.facts; have y1 := K5.out.tx 1 _ rfl; have y3 := K5.out.tx 3 _ rfl; have K6 := hidb (K5.out.setN h' l'); obtain ⟨e0, e1, e2, e3, e4, e5, e6, e7, e8, e9, e10, e11⟩ := K6.out.facts; have v1 := K6.out.tx 1 _ rfl; have v3 := K6.out.tx 3 _ rfl; have cp := code_cpop K6.out.ar ch cl OK.out.c1 OK.out.c2 OK.out.wd; rw [hr] at cp; clear hsl5 hb5 hA5 cr)
            | (go_at_call 12; (with_reducible refine cp.mono ?_); rintro e w6 ⟨rfl, ha6, hg6⟩; have K7 := hidb (K6.out.step hg6 ha6); obtain ⟨f0, f1, f2, f3, f4, f5, f6, f7, f8, f9, f10, f11⟩ := K7.out.facts; have K8 := hidb (K7.out.setO h' l'); obtain ⟨e0, e1, e2, e3, e4, e5, e6, e7, e8, e9, e10, e11⟩ := K8.out.facts; have K9 := hidb (K8.out.setC h' l'); obtain ⟨d0, d1, d2, d3, d4, d5, d6, d7, d8, d9, d10, d11⟩ := K9.out.facts; have crl := ref_clist A5 256 c5 ws' h' l' _ K9.out.sl (by omega) HOK.out.c1 HOK.out.c2; rw [hR] at crl; clear ha6 hg6 cp)
            | (go_at_call 17; (with_reducible refine (chain_some8 crl).mono ?_); rintro e w7 ⟨A8, n8, c8, rfl, hsl7, hb7⟩; have K10 := hidb (K9.out.below hb7); obtain ⟨f0, f1, f2, f3, f4, f5, f6, f7, f8, f9, f10, f11⟩ := K10.out.facts; have HSL7 := hidb hsl7; have ccl := code_clist K10.out.ar h' l' HOK.out.c1 HOK.out.c2 HOK.out.wd; rw [hR] at ccl; clear hb7 crl hsl7)
            | (go_at_call 18; (with_reducible refine (list_some8 ccl hlst).mono ?_); rintro e w8 ⟨A9, n9, c9, rfl, hn9, hsl8, hb8⟩; have K11 := hidb (K10.out.below hb8); obtain ⟨f0, f1, f2, f3, f4, f5, f6, f7, f8, f9, f10, f11⟩ := K11.out.facts; have HSL8 := hidb hsl8; have HSL7' := hidb ((HSL7.out.below hb8).more hb8.size); have crt := right_one8 K11.out.ar HOK.out.wd h' l' HOK.out.c1 HOK.out.c2 true (by rw [hR]; rfl); clear hb8 ccl hsl8)
            | (go_at_call 19; (with_reducible refine crt.mono ?_); rintro e w10 ⟨rfl, hb10⟩; have K12 := hidb (K11.out.below hb10); have cis := ints_same8 A9 A8 n9 c9 n8 c8 lst w10 ((HSL8.out.below hb10).more hb10.size) ((HSL7'.out.below hb10).more hb10.size) hn9; clear hb10 crt)
            | (go_at_call 20; (with_reducible refine cis.mono ?_); rintro e w11 ⟨rfl, hb11⟩; have K13 := hidb (K12.out.below hb11); clear hb11 cis))
          go_roundw
          case rel => exact ⟨j + 1, A5, c5, ws', h', l', by omega, by go_num, rfl, hidb (K13.out.back HOK.out.wd HOK.out.c1 HOK.out.c2)⟩
          case measure => simp [intOf]; omega
      have kb1 : (kind == 1) = false := by simpa using k1
      by_cases k2 : kind = 2
      · subst k2
        obtain ⟨⟨ws', ⟨h', l'⟩, no⟩, hr⟩ : ∃ r, cRemove ws (ch, cl) at' = r := ⟨_, rfl⟩
        have hok : Ok8 ws' (h', l') := by
          have q := OK.out.rem at'
          rw [hr] at q
          exact q
        have HOK := hidb hok
        have cr := ref_cremove A7 256 c7 ws ch cl at' W3 K3.out.sl (by omega) OK.out.c1 OK.out.c2 AAT.out
        rw [hr] at cr
        have hq := fun W => neq_chain h' l' h' l' W
        clear hok
        cases hR : cList ws' (h', l') with
        | none =>
          go_wp2_with (first
            | (go_at_call 13; rw [← HW3.out]; (with_reducible refine cr.mono ?_); rintro e w5 ⟨A5, c5, rfl, hsl5, hb5, hA5⟩; have K5 := hidb (K3.out.row hb5 hsl5 hA5); obtain ⟨f0, f1, f2, f3, f4, f5, f6, f7, f8, f9, f10, f11⟩ := K5.out.facts; have y1 := K5.out.tx 1 _ rfl; have y3 := K5.out.tx 3 _ rfl; have K6 := hidb (K5.out.setN h' l'); obtain ⟨e0, e1, e2, e3, e4, e5, e6, e7, e8, e9, e10, e11⟩ := K6.out.facts; have v1 := K6.out.tx 1 _ rfl; have v3 := K6.out.tx 3 _ rfl; have cp := code_cremove K6.out.ar ch cl at' OK.out.c1 OK.out.c2 OK.out.wd AAT.out; rw [hr] at cp; clear hsl5 hb5 hA5 cr)
            | (go_at_call 14; (with_reducible refine cp.mono ?_); rintro e w6 ⟨rfl, ha6, hg6⟩; have K7 := hidb (K6.out.step hg6 ha6); obtain ⟨f0, f1, f2, f3, f4, f5, f6, f7, f8, f9, f10, f11⟩ := K7.out.facts; have K8 := hidb (K7.out.setO h' l'); obtain ⟨e0, e1, e2, e3, e4, e5, e6, e7, e8, e9, e10, e11⟩ := K8.out.facts; have K9 := hidb (K8.out.setC h' l'); obtain ⟨d0, d1, d2, d3, d4, d5, d6, d7, d8, d9, d10, d11⟩ := K9.out.facts; have crl := ref_clist A5 256 c5 ws' h' l' _ K9.out.sl (by omega) HOK.out.c1 HOK.out.c2; rw [hR] at crl; clear ha6 hg6 cp)
            | (go_at_call 17; (with_reducible refine (chain_none8 crl).mono ?_); rintro e w7 ⟨A8, n8, c8, rfl, hb7⟩; have K10 := hidb (K9.out.below hb7); obtain ⟨f0, f1, f2, f3, f4, f5, f6, f7, f8, f9, f10, f11⟩ := K10.out.facts; have ccl := code_clist K10.out.ar h' l' HOK.out.c1 HOK.out.c2 HOK.out.wd; rw [hR] at ccl; clear hb7 crl)
            | (go_at_call 18; (with_reducible refine (list_none8 ccl).mono ?_); rintro e w8 ⟨A9, c9, rfl, hb8⟩; have K11 := hidb (K10.out.below hb8); obtain ⟨f0, f1, f2, f3, f4, f5, f6, f7, f8, f9, f10, f11⟩ := K11.out.facts; have crt := right_one8 K11.out.ar HOK.out.wd h' l' HOK.out.c1 HOK.out.c2 false (by rw [hR]; rfl); clear hb8 ccl)
            | (go_at_call 19; (with_reducible refine crt.mono ?_); rintro e w10 ⟨rfl, hb10⟩; have K12 := hidb (K11.out.below hb10); clear hb10 crt))
          go_roundw
          case rel => exact ⟨j + 1, A5, c5, ws', h', l', by omega, by go_num, rfl, hidb (K12.out.back HOK.out.wd HOK.out.c1 HOK.out.c2)⟩
          case measure => simp [intOf]; omega
        | some lst =>
          have hlst : lst.length ≤ 65536 := by
            have q1 := nodup_le _ _ (cList_some hR).1 (cList_some hR).2.1
            have q2 := HOK.out.ln
            omega
          go_wp2_with (first
            | (go_at_call 13; rw [← HW3.out]; (with_reducible refine cr.mono ?_); rintro e w5 ⟨A5, c5, rfl, hsl5, hb5, hA5⟩; have K5 := hidb (K3.out.row hb5 hsl5 hA5); obtain ⟨f0, f1, f2, f3, f4, f5, f6, f7, f8, f9, f10, f11⟩ := K5.out.facts; have y1 := K5.out.tx 1 _ rfl; have y3 := K5.out.tx 3 _ rfl; have K6 := hidb (K5.out.setN h' l'); obtain ⟨e0, e1, e2, e3, e4, e5, e6, e7, e8, e9, e10, e11⟩ := K6.out.facts; have v1 := K6.out.tx 1 _ rfl; have v3 := K6.out.tx 3 _ rfl; have cp := code_cremove K6.out.ar ch cl at' OK.out.c1 OK.out.c2 OK.out.wd AAT.out; rw [hr] at cp; clear hsl5 hb5 hA5 cr)
            | (go_at_call 14; (with_reducible refine cp.mono ?_); rintro e w6 ⟨rfl, ha6, hg6⟩; have K7 := hidb (K6.out.step hg6 ha6); obtain ⟨f0, f1, f2, f3, f4, f5, f6, f7, f8, f9, f10, f11⟩ := K7.out.facts; have K8 := hidb (K7.out.setO h' l'); obtain ⟨e0, e1, e2, e3, e4, e5, e6, e7, e8, e9, e10, e11⟩ := K8.out.facts; have K9 := hidb (K8.out.setC h' l'); obtain ⟨d0, d1, d2, d3, d4, d5, d6, d7, d8, d9, d10, d11⟩ := K9.out.facts; have crl := ref_clist A5 256 c5 ws' h' l' _ K9.out.sl (by omega) HOK.out.c1 HOK.out.c2; rw [hR] at crl; clear ha6 hg6 cp)
            | (go_at_call 17; (with_reducible refine (chain_some8 crl).mono ?_); rintro e w7 ⟨A8, n8, c8, rfl, hsl7, hb7⟩; have K10 := hidb (K9.out.below hb7); obtain ⟨f0, f1, f2, f3, f4, f5, f6, f7, f8, f9, f10, f11⟩ := K10.out.facts; have HSL7 := hidb hsl7; have ccl := code_clist K10.out.ar h' l' HOK.out.c1 HOK.out.c2 HOK.out.wd; rw [hR] at ccl; clear hb7 crl hsl7)
            | (go_at_call 18; (with_reducible refine (list_some8 ccl hlst).mono ?_); rintro e w8 ⟨A9, n9, c9, rfl, hn9, hsl8, hb8⟩; have K11 := hidb (K10.out.below hb8); obtain ⟨f0, f1, f2, f3, f4, f5, f6, f7, f8, f9, f10, f11⟩ := K11.out.facts; have HSL8 := hidb hsl8; have HSL7' := hidb ((HSL7.out.below hb8).more hb8.size); have crt := right_one8 K11.out.ar HOK.out.wd h' l' HOK.out.c1 HOK.out.c2 true (by rw [hR]; rfl); clear hb8 ccl hsl8)
            | (go_at_call 19; (with_reducible refine crt.mono ?_); rintro e w10 ⟨rfl, hb10⟩; have K12 := hidb (K11.out.below hb10); have cis := ints_same8 A9 A8 n9 c9 n8 c8 lst w10 ((HSL8.out.below hb10).more hb10.size) ((HSL7'.out.below hb10).more hb10.size) hn9; clear hb10 crt)
            | (go_at_call 20; (with_reducible refine cis.mono ?_); rintro e w11 ⟨rfl, hb11⟩; have K13 := hidb (K12.out.below hb11); clear hb11 cis))
          go_roundw
          case rel => exact ⟨j + 1, A5, c5, ws', h', l', by omega, by go_num, rfl, hidb (K13.out.back HOK.out.wd HOK.out.c1 HOK.out.c2)⟩
          case measure => simp [intOf]; omega
      have kb2 : (kind == 2) = false := by simpa using k2
      have hz3 : W3.heap.size = wr.heap.size + 1 + 1 + 1 := by rw [HW3.out]; simp
      have hq := fun W => neq_chain ch cl ch cl W
      have KA := hidb (K3.out.below ((Below.refl _ _).alloc (Nat.le_refl _) (.cells #[.int .u64 (x : Int)] 31)))
      obtain ⟨f0, f1, f2, f3, f4, f5, f6, f7, f8, f9, f10, f11⟩ := KA.out.facts
      have xa1 := KA.out.tx 1 _ rfl
      have xa2 := KA.out.tx 2 _ rfl
      by_cases hin : aIn 256 at' 1 = true
      · obtain ⟨a, rfl⟩ : ∃ a : Nat, at' = (a : Int) := ⟨at'.toNat, by unfold aIn at hin; have := of_decide_eq_true hin; omega⟩
        have ha256 : a < 256 := by unfold aIn at hin; have := of_decide_eq_true hin; omega
        have HOK : Hid (Ok8 (ws.set a x) (ch, cl)) := hidb ⟨OK.out.wd.set a AX.out, by rw [List.length_set]; exact OK.out.ln, OK.out.c1, OK.out.c2⟩
        have cr := ref_store8 A7 c7 ws x a (W3.alloc (.cells #[.int .u64 (x : Int)] 31)) (some ⟨W3.heap.size, 0, none⟩) KA.out.sl (Sl.one_ W3 x _) ha256
        rw [hz3] at cr
        clear hin k0 k1 k2 hz3
        cases hR : cList (ws.set a x) (ch, cl) with
        | none =>
          go_wp2_with (first
            | (go_at_call 15; rw [← HW3.out]; (with_reducible refine cr.mono ?_); rintro e w5 ⟨A5, c5, rfl, hsl5, hb5, hA5⟩; have K5 := hidb (KA.out.row hb5 hsl5 (Or.inr hA5)); obtain ⟨f0, f1, f2, f3, f4, f5, f6, f7, f8, f9, f10, f11⟩ := K5.out.facts; have y1 := K5.out.tx 1 _ rfl; have y2 := K5.out.tx 2 _ rfl; have K6 := hidb (K5.out.below ((Below.refl _ _).alloc (Nat.le_refl _) (.cells #[.int .u64 (x : Int)] 31))); have cp := store256 K6.out.ar a x (some ⟨w5.heap.size, 0, none⟩) (Sl.one_ w5 x _) ha256; clear hsl5 hb5 hA5 cr)
            | (go_at_call 16; (with_reducible refine cp.mono ?_); rintro e w6 ⟨rfl, ha6, hg6⟩; have K8 := hidb (K6.out.step hg6 ha6); obtain ⟨e0, e1, e2, e3, e4, e5, e6, e7, e8, e9, e10, e11⟩ := K8.out.facts; have K9 := hidb (K8.out.setC ch cl); obtain ⟨d0, d1, d2, d3, d4, d5, d6, d7, d8, d9, d10, d11⟩ := K9.out.facts; have crl := ref_clist A5 256 c5 (ws.set a x) ch cl _ K9.out.sl (by omega) HOK.out.c1 HOK.out.c2; rw [hR] at crl; clear ha6 hg6 cp)
            | (go_at_call 17; (with_reducible refine (chain_none8 crl).mono ?_); rintro e w7 ⟨A8, n8, c8, rfl, hb7⟩; have K10 := hidb (K9.out.below hb7); obtain ⟨f0, f1, f2, f3, f4, f5, f6, f7, f8, f9, f10, f11⟩ := K10.out.facts; have ccl := code_clist K10.out.ar ch cl HOK.out.c1 HOK.out.c2 HOK.out.wd; rw [hR] at ccl; clear hb7 crl)
            | (go_at_call 18; (with_reducible refine (list_none8 ccl).mono ?_); rintro e w8 ⟨A9, c9, rfl, hb8⟩; have K11 := hidb (K10.out.below hb8); obtain ⟨f0, f1, f2, f3, f4, f5, f6, f7, f8, f9, f10, f11⟩ := K11.out.facts; have crt := right_one8 K11.out.ar HOK.out.wd ch cl HOK.out.c1 HOK.out.c2 false (by rw [hR]; rfl); clear hb8 ccl)
            | (go_at_call 19; (with_reducible refine crt.mono ?_); rintro e w10 ⟨rfl, hb10⟩; have K12 := hidb (K11.out.below hb10); clear hb10 crt))
          go_roundw
          case rel => exact ⟨j + 1, A5, c5, (ws.set a x), ch, cl, by omega, by go_num, rfl, hidb (K12.out.back HOK.out.wd HOK.out.c1 HOK.out.c2)⟩
          case measure => simp [intOf]; omega
        | some lst =>
          have hlst : lst.length ≤ 65536 := by
            have q1 := nodup_le _ _ (cList_some hR).1 (cList_some hR).2.1
            have q2 := HOK.out.ln
            omega
          go_wp2_with (first
            | (go_at_call 15; rw [← HW3.out]; (with_reducible refine cr.mono ?_); rintro e w5 ⟨A5, c5, rfl, hsl5, hb5, hA5⟩; have K5 := hidb (KA.out.row hb5 hsl5 (Or.inr hA5)); obtain ⟨f0, f1, f2, f3, f4, f5, f6, f7, f8, f9, f10, f11⟩ := K5.out.facts; have y1 := K5.out.tx 1 _ rfl; have y2 := K5.out.tx 2 _ rfl; have K6 := hidb (K5.out.below ((Below.refl _ _).alloc (Nat.le_refl _) (.cells #[.int .u64 (x : Int)] 31))); have cp := store256 K6.out.ar a x (some ⟨w5.heap.size, 0, none⟩) (Sl.one_ w5 x _) ha256; clear hsl5 hb5 hA5 cr)
            | (go_at_call 16; (with_reducible refine cp.mono ?_); rintro e w6 ⟨rfl, ha6, hg6⟩; have K8 := hidb (K6.out.step hg6 ha6); obtain ⟨e0, e1, e2, e3, e4, e5, e6, e7, e8, e9, e10, e11⟩ := K8.out.facts; have K9 := hidb (K8.out.setC ch cl); obtain ⟨d0, d1, d2, d3, d4, d5, d6, d7, d8, d9, d10, d11⟩ := K9.out.facts; have crl := ref_clist A5 256 c5 (ws.set a x) ch cl _ K9.out.sl (by omega) HOK.out.c1 HOK.out.c2; rw [hR] at crl; clear ha6 hg6 cp)
            | (go_at_call 17; (with_reducible refine (chain_some8 crl).mono ?_); rintro e w7 ⟨A8, n8, c8, rfl, hsl7, hb7⟩; have K10 := hidb (K9.out.below hb7); obtain ⟨f0, f1, f2, f3, f4, f5, f6, f7, f8, f9, f10, f11⟩ := K10.out.facts; have HSL7 := hidb hsl7; have ccl := code_clist K10.out.ar ch cl HOK.out.c1 HOK.out.c2 HOK.out.wd; rw [hR] at ccl; clear hb7 crl hsl7)
            | (go_at_call 18; (with_reducible refine (list_some8 ccl hlst).mono ?_); rintro e w8 ⟨A9, n9, c9, rfl, hn9, hsl8, hb8⟩; have K11 := hidb (K10.out.below hb8); obtain ⟨f0, f1, f2, f3, f4, f5, f6, f7, f8, f9, f10, f11⟩ := K11.out.facts; have HSL8 := hidb hsl8; have HSL7' := hidb ((HSL7.out.below hb8).more hb8.size); have crt := right_one8 K11.out.ar HOK.out.wd ch cl HOK.out.c1 HOK.out.c2 true (by rw [hR]; rfl); clear hb8 ccl hsl8)
            | (go_at_call 19; (with_reducible refine crt.mono ?_); rintro e w10 ⟨rfl, hb10⟩; have K12 := hidb (K11.out.below hb10); have cis := ints_same8 A9 A8 n9 c9 n8 c8 lst w10 ((HSL8.out.below hb10).more hb10.size) ((HSL7'.out.below hb10).more hb10.size) hn9; clear hb10 crt)
            | (go_at_call 20; (with_reducible refine cis.mono ?_); rintro e w11 ⟨rfl, hb11⟩; have K13 := hidb (K12.out.below hb11); clear hb11 cis))
          go_roundw
          case rel => exact ⟨j + 1, A5, c5, (ws.set a x), ch, cl, by omega, by go_num, rfl, hidb (K13.out.back HOK.out.wd HOK.out.c1 HOK.out.c2)⟩
          case measure => simp [intOf]; omega
      · have hno : aIn 256 at' 1 = false := by simpa using hin
        have HOK := hidb OK.out
        have cr := ref_astore_no A7 (some ⟨W3.heap.size, 0, none⟩) 256 c7 1 1 at' (W3.alloc (.cells #[.int .u64 (x : Int)] 31)) (by omega) (by omega) AAT.out.1 AAT.out.2 hno
        rw [hz3] at cr
        have K6 := hidb (KA.out.below ((Below.refl _ _).alloc (Nat.le_refl _) (.cells #[.int .u64 (x : Int)] 31)))
        have cp := code_astore_no (.pointer (some ⟨p, 0, none⟩)) 256 at' (some ⟨W3.heap.size + 1, 0, none⟩) 1 1 ((W3.alloc (.cells #[.int .u64 (x : Int)] 31)).alloc (.cells #[.int .u64 (x : Int)] 31)) (by omega) (by omega) (code_awords p _ _ _ _ (K6.out.ar.alloc _).cell) AAT.out hno
        clear hin hno k0 k1 k2 hz3
        cases hR : cList ws (ch, cl) with
        | none =>
          go_wp2_with (first
            | (go_at_call 15; rw [← HW3.out]; (with_reducible refine cr.mono ?_); rintro e w' ⟨rfl, rfl⟩)
            | (go_at_call 16; (with_reducible refine cp.mono ?_); rintro e w6 ⟨rfl, hb6⟩; have K8 := hidb (K6.out.below hb6); obtain ⟨e0, e1, e2, e3, e4, e5, e6, e7, e8, e9, e10, e11⟩ := K8.out.facts; have K9 := hidb (K8.out.setC ch cl); obtain ⟨d0, d1, d2, d3, d4, d5, d6, d7, d8, d9, d10, d11⟩ := K9.out.facts; have crl := ref_clist A7 256 c7 ws ch cl _ K9.out.sl (by omega) HOK.out.c1 HOK.out.c2; rw [hR] at crl; clear hb6 cp)
            | (go_at_call 17; (with_reducible refine (chain_none8 crl).mono ?_); rintro e w7 ⟨A8, n8, c8, rfl, hb7⟩; have K10 := hidb (K9.out.below hb7); obtain ⟨f0, f1, f2, f3, f4, f5, f6, f7, f8, f9, f10, f11⟩ := K10.out.facts; have ccl := code_clist K10.out.ar ch cl HOK.out.c1 HOK.out.c2 HOK.out.wd; rw [hR] at ccl; clear hb7 crl)
            | (go_at_call 18; (with_reducible refine (list_none8 ccl).mono ?_); rintro e w8 ⟨A9, c9, rfl, hb8⟩; have K11 := hidb (K10.out.below hb8); obtain ⟨f0, f1, f2, f3, f4, f5, f6, f7, f8, f9, f10, f11⟩ := K11.out.facts; have crt := right_one8 K11.out.ar HOK.out.wd ch cl HOK.out.c1 HOK.out.c2 false (by rw [hR]; rfl); clear hb8 ccl)
            | (go_at_call 19; (with_reducible refine crt.mono ?_); rintro e w10 ⟨rfl, hb10⟩; have K12 := hidb (K11.out.below hb10); clear hb10 crt))
          go_roundw
          case rel => exact ⟨j + 1, A7, c7, ws, ch, cl, by omega, by go_num, rfl, hidb (K12.out.back HOK.out.wd HOK.out.c1 HOK.out.c2)⟩
          case measure => simp [intOf]; omega
        | some lst =>
          have hlst : lst.length ≤ 65536 := by
            have q1 := nodup_le _ _ (cList_some hR).1 (cList_some hR).2.1
            have q2 := HOK.out.ln
            omega
          go_wp2_with (first
            | (go_at_call 15; rw [← HW3.out]; (with_reducible refine cr.mono ?_); rintro e w' ⟨rfl, rfl⟩)
            | (go_at_call 16; (with_reducible refine cp.mono ?_); rintro e w6 ⟨rfl, hb6⟩; have K8 := hidb (K6.out.below hb6); obtain ⟨e0, e1, e2, e3, e4, e5, e6, e7, e8, e9, e10, e11⟩ := K8.out.facts; have K9 := hidb (K8.out.setC ch cl); obtain ⟨d0, d1, d2, d3, d4, d5, d6, d7, d8, d9, d10, d11⟩ := K9.out.facts; have crl := ref_clist A7 256 c7 ws ch cl _ K9.out.sl (by omega) HOK.out.c1 HOK.out.c2; rw [hR] at crl; clear hb6 cp)
            | (go_at_call 17; (with_reducible refine (chain_some8 crl).mono ?_); rintro e w7 ⟨A8, n8, c8, rfl, hsl7, hb7⟩; have K10 := hidb (K9.out.below hb7); obtain ⟨f0, f1, f2, f3, f4, f5, f6, f7, f8, f9, f10, f11⟩ := K10.out.facts; have HSL7 := hidb hsl7; have ccl := code_clist K10.out.ar ch cl HOK.out.c1 HOK.out.c2 HOK.out.wd; rw [hR] at ccl; clear hb7 crl hsl7)
            | (go_at_call 18; (with_reducible refine (list_some8 ccl hlst).mono ?_); rintro e w8 ⟨A9, n9, c9, rfl, hn9, hsl8, hb8⟩; have K11 := hidb (K10.out.below hb8); obtain ⟨f0, f1, f2, f3, f4, f5, f6, f7, f8, f9, f10, f11⟩ := K11.out.facts; have HSL8 := hidb hsl8; have HSL7' := hidb ((HSL7.out.below hb8).more hb8.size); have crt := right_one8 K11.out.ar HOK.out.wd ch cl HOK.out.c1 HOK.out.c2 true (by rw [hR]; rfl); clear hb8 ccl hsl8)
            | (go_at_call 19; (with_reducible refine crt.mono ?_); rintro e w10 ⟨rfl, hb10⟩; have K12 := hidb (K11.out.below hb10); have cis := ints_same8 A9 A8 n9 c9 n8 c8 lst w10 ((HSL8.out.below hb10).more hb10.size) ((HSL7'.out.below hb10).more hb10.size) hn9; clear hb10 crt)
            | (go_at_call 20; (with_reducible refine cis.mono ?_); rintro e w11 ⟨rfl, hb11⟩; have K13 := hidb (K12.out.below hb11); clear hb11 cis))
          go_roundw
          case rel => exact ⟨j + 1, A7, c7, ws, ch, cl, by omega, by go_num, rfl, hidb (K13.out.back HOK.out.wd HOK.out.c1 HOK.out.c2)⟩
          case measure => simp [intOf]; omega
    · obtain rfl : n2 = j := by omega
      have crow := code_arow_ok 0 256 HR.out.ar (by omega)
      rw [show ((0 : Nat) : Int) = 0 from rfl, show ((256 : Nat) : Int) = 256 from rfl, row_all HR.out.ar.hlen] at crow
      unfold OwnWNo at crow
      rw [HR.out.ar.hlen] at crow
      go_wp2_with (first
        | (go_at_call 21; (with_reducible refine crow.mono ?_); rintro e w5 ⟨A5, c5, rfl, ho5, hb5⟩; have HB5 := hidb (HR.out.bel.trans (hb5.mono HR.out.bel.size)); have csm := same_all8 A5 A7 c5 c7 ws w5 (Sl.of_own ho5) ((HR.out.sl.below hb5).more hb5.size); clear ho5 hb5)
        | (go_at_call 22; (with_reducible refine csm.mono ?_); rintro e w6 ⟨rfl, hb6⟩; have HB6 := hidb (HB5.out.trans (hb6.mono HB5.out.size)); clear hb6)
        | (go_at_call 7; (with_reducible refine (ca _).mono ?_); rintro e w9 ⟨rfl, hb9⟩))
      go_ret
      exact ⟨rfl, HB6.out.trans (hb9.mono HB6.out.size)⟩

end Go.Proofs.Ytcngcibiibchiaa
