/- What 'Give' of the document's own keeper returns. -/
import Derived.Test.YtonmkanppapjjaaGreatKeepGive0
import Derived.Test.YtonmkanppapjjaaGreatIntsRef
import Derived.Test.YtonmkanppapjjaaGreatLargeFits
import Derived.Deep.RegionHeld3
import Derived.Deep.Cut
import Derived.Deep.CutRange
namespace Go.Proofs.YtonmkanppapjjaaGreat
open Go.RowKit
set_option linter.unusedVariables false

theorem q_inK (A : Option Addr) (n c : Nat) (zs : List Int) (v : Int) (w : World) (q B : Nat) (hs : Sl w B A n (zs.map iv)) (hn : n ≤ 65536) (b : Bool) (hb : decide (v ∈ zs) = b) :
    Calls Tryz.prog 18 #[.slice A n c, .int .i64 v] (w.drewN q) fun e w'' => e = .returned (.bool b) ∧ ∃ m, w'' = w.drewN m :=
  (ref_bin A n c zs v (w.drewN q) B (hs.drewN q) (by omega)).mono fun e w' h => ⟨by rw [h.1, hb], q, h.2.symm⟩
theorem q_fits (n : Int) (w : World) (q : Nat) (hn : in64 n) (b : Bool) (hb : lFits n = b) : Calls Tryz.prog 41 #[.int .i64 n] (w.drewN q) fun e w'' => e = .returned (.bool b) ∧ ∃ m, w'' = w.drewN m :=
  (ref_fits n (w.drewN q) hn).mono fun e w' h => ⟨by rw [h.1, hb], q, h.2.symm⟩
theorem q_lin (A : Option Addr) (n c : Nat) (l : List Spn) (id : Int) (w : World) (q B : Nat) (hs : Sn w B A n l) (hn : n ≤ 65536) (b : Bool) (hb : hasId l id = b) : Calls Tryz.prog 138 #[.slice A n c, .int .i64 id] (w.drewN q) fun e w'' => e = .returned (.bool b) ∧ ∃ m, w'' = w.drewN m :=
  (ref_lin A n c l id (w.drewN q) B (RowOf.drewN hs q) hn).mono fun e w' h => ⟨by rw [h.1, hb], q, h.2.symm⟩
theorem Sl.takeK {w : World} {B n : Nat} {A : Option Addr} {zs : List Int} (h : Sl w B A n (zs.map iv)) {j : Nat} (hj : j ≤ n) : Sl w B A j ((zs.take j).map iv) := by
  have hl : zs.length = n := by have := h.1; simpa using this
  refine ⟨by rw [List.length_map, List.length_take]; omega, fun h0 => ?_⟩
  obtain ⟨b, off, e, hb, hc⟩ := h.2 (by omega)
  refine ⟨b, off, e, hb, fun i hi => ?_⟩
  rw [hc i (by omega), List.getElem?_map, List.getElem?_map, List.getElem?_take_of_lt hi]

set_option maxRecDepth 100000 in
set_option maxHeartbeats 8000000 in
theorem ref_kgive (P : Nat → Prop) (q : LargeV) (v : Value) (AI : Option Addr) (N cI : Nat) (ids : List Int) (w : World) (hP : ∀ b, w.heap.size ≤ b → P b) (hv : KoIs w P q v) (o : LOk q) (hla0 : q.h.last ≤ 1000000000) (hs : Sl w w.heap.size AI N (ids.map iv)) (hN : N ≤ 60000) (hNc : N ≤ cI ∧ cI ≤ 9223372036854775807) (hid : ∀ i ∈ ids, in64 i) :
    Calls Tryz.prog 89 #[v, .slice AI N cI] w (HeldIs w P (lGive q ids).1 (.int .i64 (lGive q ids).2)) := by
  obtain ⟨A, m, c, A2, m2, c2, A3, m3, c3, A4, m4, c4, rfl, k⟩ := hv
  have hFew := o.few
  obtain ⟨W0, hW0⟩ : ∃ W0, W0 = ((w.alloc (.cells #[.int .i64 q.h.pages, .slice A m c, .slice A2 m2 c2, .int .i64 q.h.last, .slice A3 m3 c3, .slice A4 m4 c4, .bool q.held] 76)).alloc (.cells #[.int .i64 0, .slice none 0 0, .slice none 0 0, .int .i64 0, .slice none 0 0, .slice none 0 0, .bool false] 76)) := ⟨_, rfl⟩
  have HG0 := GSt.start k (by rw [o.hok.fl]; omega) 76 76
  rw [← hW0] at HG0
  have HG := hidb HG0
  clear HG0
  obtain ⟨pg, hpg⟩ : ∃ x, q.h.pages = x := ⟨_, rfl⟩
  obtain ⟨la, hla⟩ : ∃ x, q.h.last = x := ⟨_, rfl⟩
  obtain ⟨hd, hhd⟩ : ∃ x, q.held = x := ⟨_, rfl⟩
  obtain ⟨l, hl⟩ : ∃ l, q.h.l = l := ⟨_, rfl⟩
  have hm3 : m3 ≤ 60000 := by rw [← k.l3]; exact hFew.k
  have hm4 : m4 ≤ 60000 := by rw [← k.l4]; exact hFew.w
  have hm2 : m2 ≤ 60000 := by rw [← (k.hi.parts_).1.2.2.1]; exact hFew.l
  have HC : Hid (∀ W, Below W0.heap.size W0 W → F7 W w.heap.size (.int .i64 pg) (.slice A m c) (.slice A2 m2 c2) (.int .i64 la) (.slice A3 m3 c3) (.slice A4 m4 c4) (.bool hd) ∧ F7 W (w.heap.size + 1) (.int .i64 0) (.slice none 0 0) (.slice none 0 0) (.int .i64 0) (.slice none 0 0) (.slice none 0 0) (.bool false) ∧ (∀ j, j < N → ∃ b off x, AI = some ⟨b, off, none⟩ ∧ ids[j]? = some x ∧ in64 x ∧ W.cell? ⟨b, off + j, none⟩ = some (.int .i64 x)) ∧ Sl W w.heap.size AI N (ids.map iv) ∧ Sn W W.heap.size A2 m2 l ∧ Sn W W.heap.size A3 m3 q.kept ∧ Sn W W.heap.size A4 m4 q.waits) := hidb (fun W hb => by
    have k2 := HG.out.below hb
    have hb2 := k2.bel
    have hs2 := hs.below hb2
    refine ⟨?_, k2.f1, fun j hj => ?_, hs2, by rw [← hl]; exact k2.ko.hi.parts_.2.2, k2.ko.kr.row, k2.ko.wr.row⟩
    · rw [← hpg, ← hla, ← hhd]; exact k2.f0
    · obtain ⟨b, off, x, e, hx, hc⟩ := hs2.int_ hj
      exact ⟨b, off, x, e, hx, hid x (List.mem_of_getElem? hx), hc⟩)
  -- an answer that changes nothing
  have HFIN : Hid (∀ no : Int, lGive q ids = (q, no) → ∀ W, Below W0.heap.size W0 W → HeldIs w P (lGive q ids).1 (.int .i64 (lGive q ids).2) (.returned (.tuple #[.agg #[.int .i64 pg, .slice A m c, .slice A2 m2 c2, .int .i64 la, .slice A3 m3 c3, .slice A4 m4 c4, .bool hd], .int .i64 no])) (set7 W (w.heap.size + 1) (.int .i64 pg) (.slice A m c) (.slice A2 m2 c2) (.int .i64 la) (.slice A3 m3 c3) (.slice A4 m4 c4) (.bool hd)) ∧
      F7 (set7 W (w.heap.size + 1) (.int .i64 pg) (.slice A m c) (.slice A2 m2 c2) (.int .i64 la) (.slice A3 m3 c3) (.slice A4 m4 c4) (.bool hd)) (w.heap.size + 1) (.int .i64 pg) (.slice A m c) (.slice A2 m2 c2) (.int .i64 la) (.slice A3 m3 c3) (.slice A4 m4 c4) (.bool hd)) := hidb (fun no e W hb => by
    rw [e]
    exact (HG.out.below hb).fin hP o no pg la hd hpg hla hhd)
  have HST : Hid (∀ id, (hFind l id = -1 ∧ lStack q.h id = none) ∨ ∃ (i : Nat) (s : Spn), hFind l id = (i : Int) ∧ l[i]? = some s ∧ i < m2 ∧ s.1 = id ∧ in64 s.2.2.1 ∧ lStack q.h id = if lBig s then some s else none) := hidb (fun id => by
    rcases stack_two o.hok id with h | ⟨i, s, h1, h2, h3, h4⟩
    · rw [← hl]; exact Or.inl h
    · refine Or.inr ⟨i, s, by rw [← hl]; exact h1, by rw [← hl]; exact h2, ?_, h3, (o.ids64 hla0 (List.mem_of_getElem? h2)).2, h4⟩
      rw [← (k.hi.parts_).1.2.2.1]
      exact (List.getElem?_eq_some_iff.1 h2).1)
  have HOK := hidb o
  have HPL := hidb (⟨hpg, hla, hhd⟩ : q.h.pages = pg ∧ q.h.last = la ∧ q.held = hd)
  have HSI := hidb hs
  have HLI : Hid (ids.length = N) := hidb (by have := hs.1; simpa using this)
  unfold kval
  rw [hpg, hla, hhd]
  rw [hpg, hla, hhd] at hW0
  have HW0 := hidb hW0
  have HP := hidb hP
  have hW0s : w.heap.size + 2 = W0.heap.size := by rw [hW0]; simp
  have HZ := hidb hW0s
  have hn1 := hNc.1
  have hn2 := hNc.2
  clear hW0 k hpg hla hhd hP o hs hid hl hFew hW0s hNc
  go_enter Tryz.func89, Tryz.ntmps89
  go_wp2
  rw [← HW0.out]
  go_loopw [13] (fun x wr => ∃ (j : Nat) (d : List Spn), j ≤ N ∧ x = .int .i64 j ∧ Hid (AskedK q.h ids j d) ∧ Hid (Below W0.heap.size W0 wr)) (fun x _ => (N - intOf x).toNat)
  case atStart => exact ⟨0, [], Nat.zero_le _, rfl, hidb (AskedK.zero _ _), hidb (Below.refl _ _)⟩
  case round =>
    obtain ⟨j, d, hj, rfl, HA, HB⟩ := hrel
    by_cases hlt : j < N
    · obtain ⟨⟨c0, c1, c2', c3', c4', c5', c6', _⟩, ⟨z0, z1, z2, z3, z4, z5, z6, zf⟩, hcell, hsl, hsn, _, _⟩ := HC.out wr HB.out
      have HZF := hidb zf
      obtain ⟨b, off, id, rfl, hx, hx64, hc⟩ := hcell j hlt
      have hsz := HB.out.size
      have HX := hidb hx
      have hi0 : (0 : Int) ≤ (j : Int) := by omega
      have hi1 : (j : Int) < (N : Int) := by omega
      have cf := ref_hfind pg la A (A2) m c m2 c2 l id wr.drew (RowOf.drewN hsn 1) (by omega)
      obtain ⟨wo, rfl⟩ : ∃ wo : World, wo = wr := ⟨_, rfl⟩
      have hbs : b < w.heap.size := by
        obtain ⟨b2, o2, e2, hb2, _⟩ := hsl.2 (by omega)
        injection e2 with e2
        injection e2 with e2 _ _
        rw [e2]; exact hb2
      clear hx hcell hsn hsl zf
      go_wp2
      go_region_held3 (fun W' => W'.cell? ⟨w.heap.size, 0, none⟩ = some (.int .i64 pg) ∧ W'.cell? ⟨w.heap.size, 1, none⟩ = some (.slice A m c) ∧ W'.cell? ⟨w.heap.size, 2, none⟩ = some (.slice A2 m2 c2) ∧ W'.cell? ⟨w.heap.size, 3, none⟩ = some (.int .i64 la) ∧ W'.cell? ⟨b, off + j, none⟩ = some (.int .i64 id)) (go_keep)
        (first | (go_at_call 137; (with_reducible refine cf.mono ?_); rintro e w3 ⟨rfl, hb3'⟩; have hb3 : Below W0.heap.size W0 w3 := HB.out.trans (((Below.refl wo.heap.size wo).drew.trans hb3').mono hsz); clear hb3'; obtain ⟨⟨y0, y1, y2, y3, y4, y5, y6, _⟩, _, _, _, hs3, _⟩ := HC.out w3 hb3; have y7 : w3.cell? ⟨b, off + j, none⟩ = some (.int .i64 id) := (hb3.cell (p := ⟨b, off + j, none⟩) (by have := HZ.out; show b < _; omega)).trans ((HB.out.cell (p := ⟨b, off + j, none⟩) (by have := HZ.out; show b < _; omega)).symm.trans hc)))
      have HB3 := hidb hb3
      rcases HST.out id with ⟨hf, hls⟩ | ⟨i, s, hf, hli, him, hsid, h64, hls⟩
      · have HE : Hid (lGive q ids = (q, 6)) := hidb (lGive_none (HA.out.none_ HX.out hls))
        rw [hf]
        clear cf hb3 c0 c1 c2' c3' c4' c5' c6' hs3 hls
        --@1
        go_wp2
        go_quiet (fail)
        obtain ⟨wz, hwz⟩ : ∃ wz, wz = w3.drewN nq := ⟨_, rfl⟩
        have HBz : Below W0.heap.size W0 wz := by rw [hwz]; exact belowN HB3.out nq
        rw [← hwz]
        obtain ⟨⟨p0, p1, p2, p3, p4, p5, p6, _⟩, ⟨r0, r1, r2, r3, r4, r5, r6, rf⟩, _⟩ := HC.out wz HBz
        have rf0 := rf 0
        have rf1 := rf 1
        have rf2 := rf 2
        have rf3 := rf 3
        have rf4 := rf 4
        have rf5 := rf 5
        have rf6 := rf 6
        obtain ⟨HR, v0, v1, v2, v3, v4, v5, v6, _⟩ := HFIN.out 6 HE.out wz HBz
        unfold set7 at v0 v1 v2 v3 v4 v5 v6
        clear hwz rf
        go_wp2
        exact bodyPost_ret (v := .tuple #[.agg #[.int .i64 pg, .slice A m c, .slice A2 m2 c2, .int .i64 la, .slice A3 m3 c3, .slice A4 m4 c4, .bool hd], .int .i64 6]) (by simp [results, Tryz.results89, go_sem, v0, v1, v2, v3, v4, v5, v6]) rfl HR
      · obtain ⟨s1, s2, s3, s4⟩ := s
        have hsid : s1 = id := hsid
        subst hsid
        obtain ⟨b2, off2, t1, t2, t3, t4, rfl, hx2, d0, d1, d2, d3⟩ := Sn.span hs3 him
        rw [hli] at hx2
        injection hx2 with hx2
        simp only [Prod.mk.injEq] at hx2
        obtain ⟨rfl, rfl, rfl, rfl⟩ := hx2
        have hsl3 := (HC.out w3 HB3.out).2.2.2.1
        have hk0 : (0 : Int) ≤ (i : Int) := by omega
        have hk1 : (i : Int) < (m2 : Int) := by omega
        have hk2 : decide ((i : Int) < 0) = false := decide_eq_false (by omega)
        have hj5 : (j : Int) ≤ (cI : Int) := by omega
        rw [hf]
        clear cf hb3 c0 c1 c2' c3' c4' c5' c6' hli hf
        by_cases g1 : s4 = -1
        · subst g1
          cases hfit : lFits s3 with
          | false =>
            have HE : Hid (lGive q ids = (q, 6)) := hidb (lGive_none (HA.out.none_ HX.out (by rw [hls, if_neg]; unfold lBig; rw [hfit]; simp)))
            have cq := fun q => q_fits s3 w3 q h64 false hfit
            clear hls hs3 hsl3
            --@2
            go_wp2
            go_quiet (first | (go_at_call 41; (with_reducible exact cq _)))
            obtain ⟨wz, hwz⟩ : ∃ wz, wz = w3.drewN nq := ⟨_, rfl⟩
            have HBz : Below W0.heap.size W0 wz := by rw [hwz]; exact belowN HB3.out nq
            rw [← hwz]
            obtain ⟨⟨p0, p1, p2, p3, p4, p5, p6, _⟩, ⟨r0, r1, r2, r3, r4, r5, r6, rf⟩, _⟩ := HC.out wz HBz
            have rf0 := rf 0
            have rf1 := rf 1
            have rf2 := rf 2
            have rf3 := rf 3
            have rf4 := rf 4
            have rf5 := rf 5
            have rf6 := rf 6
            obtain ⟨HR, v0, v1, v2, v3, v4, v5, v6, _⟩ := HFIN.out 6 HE.out wz HBz
            unfold set7 at v0 v1 v2 v3 v4 v5 v6
            clear hwz rf
            go_wp2
            exact bodyPost_ret (v := .tuple #[.agg #[.int .i64 pg, .slice A m c, .slice (some ⟨b2, off2, none⟩) m2 c2, .int .i64 la, .slice A3 m3 c3, .slice A4 m4 c4, .bool hd], .int .i64 6]) (by simp [results, Tryz.results89, go_sem, v0, v1, v2, v3, v4, v5, v6]) rfl HR
          | true =>
            have hst : lStack q.h s1 = some (s1, s2, s3, -1) := by rw [hls, if_pos]; unfold lBig; rw [hfit]; rfl
            have cq := fun q => q_fits s3 w3 q h64 true hfit
            by_cases g2 : s1 ∈ ids.take j
            · have HE : Hid (lGive q ids = (q, 6)) := hidb (lGive_none (HA.out.twice HOK.out.hok HX.out hst g2))
              have ci := fun q => q_inK (some ⟨b, off, none⟩) j cI (ids.take j) s1 w3 q w.heap.size (hsl3.takeK (by omega)) (by omega) true (decide_eq_true g2)
              clear hls hs3 hsl3 hst g2
              --@3
              go_wp2
              go_quiet (first
                | (go_at_call 41; (with_reducible exact cq _))
                | (go_at_call 18; (with_reducible exact ci _)))
              obtain ⟨wz, hwz⟩ : ∃ wz, wz = w3.drewN nq := ⟨_, rfl⟩
              have HBz : Below W0.heap.size W0 wz := by rw [hwz]; exact belowN HB3.out nq
              rw [← hwz]
              obtain ⟨⟨p0, p1, p2, p3, p4, p5, p6, _⟩, ⟨r0, r1, r2, r3, r4, r5, r6, rf⟩, _⟩ := HC.out wz HBz
              have rf0 := rf 0
              have rf1 := rf 1
              have rf2 := rf 2
              have rf3 := rf 3
              have rf4 := rf 4
              have rf5 := rf 5
              have rf6 := rf 6
              obtain ⟨HR, v0, v1, v2, v3, v4, v5, v6, _⟩ := HFIN.out 6 HE.out wz HBz
              unfold set7 at v0 v1 v2 v3 v4 v5 v6
              clear hwz rf
              go_wp2
              exact bodyPost_ret (v := .tuple #[.agg #[.int .i64 pg, .slice A m c, .slice (some ⟨b2, off2, none⟩) m2 c2, .int .i64 la, .slice A3 m3 c3, .slice A4 m4 c4, .bool hd], .int .i64 6]) (by simp [results, Tryz.results89, go_sem, v0, v1, v2, v3, v4, v5, v6]) rfl HR
            · have HA2 : Hid (AskedK q.h ids (j + 1) (d ++ [(s1, s2, s3, -1)])) := hidb (HA.out.next HOK.out.hok HX.out hst g2)
              have ci := fun q => q_inK (some ⟨b, off, none⟩) j cI (ids.take j) s1 w3 q w.heap.size (hsl3.takeK (by omega)) (by omega) false (decide_eq_false g2)
              clear hls hs3 hsl3 hst g2
              --@4
              go_wp2
              go_quiet (first
                | (go_at_call 41; (with_reducible exact cq _))
                | (go_at_call 18; (with_reducible exact ci _)))
              go_wp2
              go_roundw
              case rel => exact ⟨j + 1, _, by omega, by go_num, HA2, hidb (belowN HB3.out _)⟩
              case measure => simp [intOf]; omega
        · have HE : Hid (lGive q ids = (q, 6)) := hidb (lGive_none (HA.out.none_ HX.out (by rw [hls, if_neg]; unfold lBig; simp [g1])))
          clear hls hs3 hsl3
          have g1a : (s4 == -1) = false := by simp [g1]
          have g1b : decide (s4 = -1) = false := decide_eq_false g1
          have g1c : (s4 != -1) = true := by simp [g1]
          --@5
          go_wp2
          go_quiet (fail)
          obtain ⟨wz, hwz⟩ : ∃ wz, wz = w3.drewN nq := ⟨_, rfl⟩
          have HBz : Below W0.heap.size W0 wz := by rw [hwz]; exact belowN HB3.out nq
          rw [← hwz]
          obtain ⟨⟨p0, p1, p2, p3, p4, p5, p6, _⟩, ⟨r0, r1, r2, r3, r4, r5, r6, rf⟩, _⟩ := HC.out wz HBz
          have rf0 := rf 0
          have rf1 := rf 1
          have rf2 := rf 2
          have rf3 := rf 3
          have rf4 := rf 4
          have rf5 := rf 5
          have rf6 := rf 6
          obtain ⟨HR, v0, v1, v2, v3, v4, v5, v6, _⟩ := HFIN.out 6 HE.out wz HBz
          unfold set7 at v0 v1 v2 v3 v4 v5 v6
          clear hwz rf
          go_wp2
          exact bodyPost_ret (v := .tuple #[.agg #[.int .i64 pg, .slice A m c, .slice (some ⟨b2, off2, none⟩) m2 c2, .int .i64 la, .slice A3 m3 c3, .slice A4 m4 c4, .bool hd], .int .i64 6]) (by simp [results, Tryz.results89, go_sem, v0, v1, v2, v3, v4, v5, v6]) rfl HR
    · obtain rfl : N = j := by omega
      obtain ⟨hask, hnum⟩ := HA.out.done (by rw [HLI.out]; exact Nat.le_refl _)
      have HMEM := hidb HA.out.mem
      have HASK := hidb hask
      have HNUM := hidb hnum
      clear HA hask hnum
      go_wp2
      obtain ⟨wa, rfl⟩ : ∃ wa : World, wa = wr := ⟨_, rfl⟩
      go_loopw [61] (fun x wr => ∃ j : Nat, j ≤ N ∧ x = .int .i64 j ∧ Hid (∀ i, i < j → ∀ x, ids[i]? = some x → hasId q.kept x = false ∧ hasId q.waits x = false) ∧ Hid (Below W0.heap.size W0 wr)) (fun x _ => (N - intOf x).toNat)
      case atStart => exact ⟨0, Nat.zero_le _, rfl, hidb (fun i h => absurd h (Nat.not_lt_zero _)), HB⟩
      case round =>
        obtain ⟨j, hj, rfl, HA, HB⟩ := hrel
        by_cases hlt : j < N
        · obtain ⟨⟨c0, c1, c2', c3', c4', c5', c6', _⟩, _, hcell, _, _, hs3, hs4⟩ := HC.out wr HB.out
          obtain ⟨b, off, id, rfl, hx, hx64, hc⟩ := hcell j hlt
          have HX := hidb hx
          have hi0 : (0 : Int) ≤ (j : Int) := by omega
          have hi1 : (j : Int) < (N : Int) := by omega
          obtain ⟨wo, rfl⟩ : ∃ wo : World, wo = wr := ⟨_, rfl⟩
          cases hk : hasId q.kept id with
          | true =>
            have HE : Hid (lGive q ids = (q, 9)) := hidb (lGive_nine HOK.out HASK.out HNUM.out HMEM.out HX.out (Or.inl hk))
            have ck := fun q' => q_lin A3 m3 c3 q.kept id wo q' wo.heap.size hs3 (by omega) true hk
            clear hx hcell hs3 hs4
            --@6
            go_wp2
            go_quiet (first | (go_at_call 138; (with_reducible exact ck _)))
            obtain ⟨wz, hwz⟩ : ∃ wz, wz = wo.drewN nq := ⟨_, rfl⟩
            have HBz : Below W0.heap.size W0 wz := by rw [hwz]; exact belowN HB.out nq
            rw [← hwz]
            obtain ⟨⟨p0, p1, p2, p3, p4, p5, p6, _⟩, ⟨r0, r1, r2, r3, r4, r5, r6, rf⟩, _⟩ := HC.out wz HBz
            have rf0 := rf 0
            have rf1 := rf 1
            have rf2 := rf 2
            have rf3 := rf 3
            have rf4 := rf 4
            have rf5 := rf 5
            have rf6 := rf 6
            obtain ⟨HR, v0, v1, v2, v3, v4, v5, v6, _⟩ := HFIN.out 9 HE.out wz HBz
            unfold set7 at v0 v1 v2 v3 v4 v5 v6
            clear hwz rf
            go_wp2
            exact bodyPost_ret (v := .tuple #[.agg #[.int .i64 pg, .slice A m c, .slice A2 m2 c2, .int .i64 la, .slice A3 m3 c3, .slice A4 m4 c4, .bool hd], .int .i64 9]) (by simp [results, Tryz.results89, go_sem, v0, v1, v2, v3, v4, v5, v6]) rfl HR
          | false =>
            have ck := fun q' => q_lin A3 m3 c3 q.kept id wo q' wo.heap.size hs3 (by omega) false hk
            cases hw : hasId q.waits id with
            | true =>
              have HE : Hid (lGive q ids = (q, 9)) := hidb (lGive_nine HOK.out HASK.out HNUM.out HMEM.out HX.out (Or.inr hw))
              have cv := fun q' => q_lin A4 m4 c4 q.waits id wo q' wo.heap.size hs4 (by omega) true hw
              clear hx hcell hs3 hs4
              --@7
              go_wp2
              go_quiet (first | (go_at_call 138; (with_reducible exact ck _)) | (go_at_call 138; (with_reducible exact cv _)))
              obtain ⟨wz, hwz⟩ : ∃ wz, wz = wo.drewN nq := ⟨_, rfl⟩
              have HBz : Below W0.heap.size W0 wz := by rw [hwz]; exact belowN HB.out nq
              rw [← hwz]
              obtain ⟨⟨p0, p1, p2, p3, p4, p5, p6, _⟩, ⟨r0, r1, r2, r3, r4, r5, r6, rf⟩, _⟩ := HC.out wz HBz
              have rf0 := rf 0
              have rf1 := rf 1
              have rf2 := rf 2
              have rf3 := rf 3
              have rf4 := rf 4
              have rf5 := rf 5
              have rf6 := rf 6
              obtain ⟨HR, v0, v1, v2, v3, v4, v5, v6, _⟩ := HFIN.out 9 HE.out wz HBz
              unfold set7 at v0 v1 v2 v3 v4 v5 v6
              clear hwz rf
              go_wp2
              exact bodyPost_ret (v := .tuple #[.agg #[.int .i64 pg, .slice A m c, .slice A2 m2 c2, .int .i64 la, .slice A3 m3 c3, .slice A4 m4 c4, .bool hd], .int .i64 9]) (by simp [results, Tryz.results89, go_sem, v0, v1, v2, v3, v4, v5, v6]) rfl HR
            | false =>
              have cv := fun q' => q_lin A4 m4 c4 q.waits id wo q' wo.heap.size hs4 (by omega) false hw
              have HA2 : Hid (∀ i, i < j + 1 → ∀ x, ids[i]? = some x → hasId q.kept x = false ∧ hasId q.waits x = false) := hidb (fun i hi y hy => by
                by_cases e : i = j
                · rw [e, HX.out] at hy; obtain rfl := Option.some.inj hy; exact ⟨hk, hw⟩
                · exact HA.out i (by omega) y hy)
              clear hx hcell hs3 hs4
              --@8
              go_wp2
              go_quiet (first | (go_at_call 138; (with_reducible exact ck _)) | (go_at_call 138; (with_reducible exact cv _)))
              go_wp2
              go_roundw
              case rel => exact ⟨j + 1, by omega, by go_num, HA2, hidb (belowN HB.out _)⟩
              case measure => simp [intOf]; omega
        · obtain rfl : N = j := by omega
          obtain ⟨hgive, hnd, hout⟩ := lGive_all HOK.out HASK.out HNUM.out HMEM.out (fun x hx => by
            obtain ⟨i, hi, e⟩ := List.getElem_of_mem hx
            exact HA.out i (by rw [HLI.out] at hi; exact hi) x (by rw [List.getElem?_eq_getElem hi, e]))
          have HPU : Hid (∀ j, j ≤ d.length → _) := hidb (puts_at HOK.out hnd hout)
          have HGV := hidb hgive
          have hdl : d.length = N := by rw [← HLI.out, ← HNUM.out, List.length_map]
          have HDL := hidb hdl
          clear hgive hnd hout hdl HA HASK HMEM
          --@9
          go_wp2
          obtain ⟨wb, rfl⟩ : ∃ wb : World, wb = wr := ⟨_, rfl⟩
          go_loopw [84] (fun x wr => ∃ (j : Nat) (u : LargeV) (B : Option Addr) (j1 d1 : Nat) (B2 : Option Addr) (j2 d2 : Nat) (B3 : Option Addr) (j3 d3 : Nat) (B4 : Option Addr) (j4 d4 : Nat), j ≤ N ∧ x = .int .i64 j ∧ Hid (u = (d.take j).foldl lPut q) ∧ Hid (GSt w (w.heap.size + 2) P wr u B j1 d1 B2 j2 d2 B3 j3 d3 B4 j4 d4)) (fun x _ => (N - intOf x).toNat)
          case atStart => exact ⟨0, q, A, m, c, A2, m2, c2, A3, m3, c3, A4, m4, c4, Nat.zero_le _, rfl, hidb rfl, hidb (HG.out.below HB.out)⟩
          case round =>
            obtain ⟨j, u, B, j1, d1, B2, j2, d2, B3, j3, d3, B4, j4, d4, hj, rfl, HU, HK⟩ := hrel
            obtain ⟨uo, uh, ⟨up, ul⟩, uout⟩ := HPU.out j (by rw [HDL.out]; exact hj)
            rw [← HU.out] at uo uh up ul uout
            have ep : u.h.pages = pg := up.trans HPL.out.1
            have el : u.h.last = la := ul.trans HPL.out.2.1
            have eh : u.held = hd := uh.trans HPL.out.2.2
            have HG0 := hidb HK.out.f0
            obtain ⟨c0, c1, c2', c3', c4', c5', c6', cf⟩ := HK.out.f0
            rw [ep] at c0
            rw [el] at c3'
            rw [eh] at c6'
            have hx2 := HK.out.x2
            have hsz := HK.out.sz
            by_cases hlt : j < N
            · obtain ⟨s, hs⟩ : ∃ s, d[j]? = some s := ⟨_, List.getElem?_eq_getElem (by rw [HDL.out]; exact hlt)⟩
              obtain ⟨b, off, id, rfl, hx, hc⟩ := (HSI.out.below HK.out.bel).int_ hlt
              obtain rfl : s.1 = id := by
                have := HNUM.out
                rw [← this, List.getElem?_map, hs] at hx
                exact Option.some.inj hx
              have hsd : s ∈ d.drop j := by
                refine List.mem_of_getElem? (i := 0) ?_
                rw [List.getElem?_drop]; exact hs
              have HO := hidb (uout s hsd)
              obtain ⟨i, hfi, hli⟩ := find_span uo.hok HO.out.1
              have hpar := HK.out.ko.hi.parts_
              have him : i < j2 := by rw [← hpar.1.2.2.1]; exact (List.getElem?_eq_some_iff.1 hli).1
              have hj2 : j2 ≤ 60000 := by rw [← hpar.1.2.2.1]; exact uo.few.l
              have HSN := hidb hpar.2.2
              obtain ⟨b2, off2, s1, s2, s3, s4, rfl, hy, d0, d1', d2', d3'⟩ := Sn.span HSN.out him
              rw [hli] at hy
              obtain rfl := Option.some.inj hy
              have HS := hidb hs
              have hbs : b < w.heap.size := by
                obtain ⟨b5, o5, e5, hb5, _⟩ := HSI.out.2 (by omega)
                injection e5 with e5
                injection e5 with e5 _ _
                rw [e5]; exact hb5
              obtain ⟨wo, rfl⟩ : ∃ wo : World, wo = wr := ⟨_, rfl⟩
              have hb2s := lt_of_cell d0
              simp only at hb2s
              have hi0 : (0 : Int) ≤ (j : Int) := by omega
              have hi1 : (j : Int) < (N : Int) := by omega
              have hk0 : (0 : Int) ≤ (i : Int) := by omega
              have hk1 : (i : Int) < (j2 : Int) := by omega
              have CFI : Hid (∀ W, Below wo.heap.size wo W → Calls Tryz.prog 137 #[.agg #[.int .i64 pg, .slice B j1 d1, .slice (some ⟨b2, off2, none⟩) j2 d2, .int .i64 la], .int .i64 s1] W fun e w3 => e = .returned (.int .i64 (i : Int)) ∧ Below wo.heap.size wo w3 ∧ Below W.heap.size W w3 ∧
                  (w3.cell? ⟨w.heap.size, 0, none⟩ = some (.int .i64 pg) ∧ w3.cell? ⟨w.heap.size, 1, none⟩ = some (.slice B j1 d1) ∧ w3.cell? ⟨w.heap.size, 2, none⟩ = some (.slice (some ⟨b2, off2, none⟩) j2 d2) ∧ w3.cell? ⟨w.heap.size, 3, none⟩ = some (.int .i64 la) ∧ w3.cell? ⟨b, off + j, none⟩ = some (.int .i64 s1) ∧ w3.cell? ⟨b2, off2 + i * 4, none⟩ = some (.int .i64 s1) ∧ w3.cell? ⟨b2, off2 + i * 4 + 1, none⟩ = some (.int .i64 s2) ∧ w3.cell? ⟨b2, off2 + i * 4 + 2, none⟩ = some (.int .i64 s3) ∧ w3.cell? ⟨b2, off2 + i * 4 + 3, none⟩ = some (.int .i64 s4))) := hidb (fun W hb => by
                refine (ref_hfind pg la B (some ⟨b2, off2, none⟩) j1 d1 j2 d2 u.h.l s1 W (RowOf.more (RowOf.below HSN.out hb) hb.size) (by omega)).mono ?_
                rw [hfi]
                rintro e w3 ⟨rfl, hb3⟩
                have hb4 := hb.trans (hb3.mono hb.size)
                have hq : ∀ (b i : Nat), b < wo.heap.size → w3.cell? ⟨b, i, none⟩ = wo.cell? ⟨b, i, none⟩ := fun b i h => hb4.cell (p := ⟨b, i, none⟩) h
                exact ⟨rfl, hb4, hb3, (hq _ _ (by omega)).trans c0, (hq _ _ (by omega)).trans c1, (hq _ _ (by omega)).trans c2', (hq _ _ (by omega)).trans c3', (hq _ _ (by omega)).trans hc, (hq _ _ hb2s).trans d0, (hq _ _ hb2s).trans d1', (hq _ _ hb2s).trans d2', (hq _ _ hb2s).trans d3'⟩)
              clear hx hs hli hfi hpar uout hsd
              go_wp2
              have hbo : b < wo.heap.size := by omega
              have hwo : w.heap.size < wo.heap.size := by omega
              have cfb := CFI.out wo.drew (Below.refl _ _).drew
              have cfa := (CFI.out ((wo.alloc (.cells #[.int .i64 0, .int .i64 0, .int .i64 0, .int .i64 0] 50)).drew) ((Below.refl _ _).alloc (Nat.le_refl _) _).drew).mono (fun e w3 h => (⟨h.1, h.2.1, h.2.2.2, (F4.made wo (.int .i64 0) (.int .i64 0) (.int .i64 0) (.int .i64 0) 50).below (Below.refl _ _).drew |>.below h.2.2.1⟩ : e = .returned (.int .i64 (i : Int)) ∧ Below wo.heap.size wo w3 ∧ _ ∧ F4 w3 wo.heap.size (.int .i64 0) (.int .i64 0) (.int .i64 0) (.int .i64 0)))
              clear CFI
              go_cut [10] from 87 to 98 (fun v10 wx => ∃ t, v10 = .pointer (some ⟨t, 0, none⟩) ∧ Below wo.heap.size wo wx ∧ F4 wx t (.int .i64 s1) (.int .i64 s2) (.int .i64 s3) (.int .i64 s4) ∧ wo.heap.size ≤ t)
              case first =>
                clear HFIN HST HC HGV HPU HU HG HG0 HK HSN HO
                --@11
                go_region_law
                  (first
                    | (go_simp; go_at_call 137; (with_reducible refine cfa.mono ?_); rintro e w3 ⟨rfl, hb3, ⟨x0, x1, x2, x3, x4, x5, x6, x7, x8⟩, hf4⟩; have hl2 := lt_of_cell x5; have hl3 := lt_of_cell x0; simp only at hl2 hl3; have hlz := hf4.lt; have HF := hidb hf4; obtain ⟨y0, y1, y2, y3, yf⟩ := hf4; have z0 := yf 0; have z1 := yf 1; have z2 := yf 2; have z3 := yf 3; clear yf)
                    | (go_simp; go_at_call 137; (with_reducible refine cfb.mono ?_); rintro e w3 ⟨rfl, hb3, _, x0, x1, x2, x3, x4, x5, x6, x7, x8⟩; have hl2 := lt_of_cell x5; have hl3 := lt_of_cell x0; simp only at hl2 hl3))
                all_goals
                  go_wp2_with fail
                  go_meet
                  first
                    | exact ⟨wo.heap.size, rfl, below_set4 hb3 (Nat.le_refl _) _ _ _ _, HF.out.put _ _ _ _, Nat.le_refl _⟩
                    | exact ⟨w3.heap.size, rfl, hb3.alloc hb3.size _, F4.made _ _ _ _ _ _, hb3.size⟩
              case rest =>
                obtain ⟨t, rfl, hbx, hf4, htlt⟩ := hcut
                have HT := hidb hf4
                have HK4 := hidb (HK.out.below hbx)
                obtain ⟨wd, rfl⟩ : ∃ wd : World, wd = wc := ⟨_, rfl⟩
                clear c0 c1 c2' c3' c4' c5' c6' cf hc d0 d1' d2' d3' cfb cfa HSN hbx hf4 hbo hb2s htlt
                obtain ⟨c0, c1, c2', c3', c4', c5', c6', cf⟩ := HK4.out.f0
                rw [ep] at c0
                rw [el] at c3'
                rw [eh] at c6'
                have hwl := lt_of_cell c0
                simp only at hwl
                cases hd with
                | true =>
                  --@12
                  go_wp2
                  have l2 : wd.cell? ⟨w.heap.size, 5, none⟩ = some (.slice B4 j4 d4) := HK4.out.f0.2.2.2.2.2.1
                  have l2z : wd.frozen? ⟨w.heap.size, 5, none⟩ = false := HK4.out.f0.2.2.2.2.2.2.2 5
                  have hb0lt : w.heap.size < wd.heap.size := lt_of_cell l2
                  have HL2 : Hid (∀ W, Below wd.heap.size wd W → W.cell? ⟨w.heap.size, 5, none⟩ = some (.slice B4 j4 d4) ∧ W.frozen? ⟨w.heap.size, 5, none⟩ = false) := hidb (fun W hb => ⟨(hb.cell (p := ⟨w.heap.size, 5, none⟩) hb0lt).trans l2, (hb.frozen (p := ⟨w.heap.size, 5, none⟩) hb0lt).trans l2z⟩)
                  have HS4 : Hid (∀ W, Below wd.heap.size wd W → W.cell? ⟨t, 0, none⟩ = some (.int .i64 s1) ∧ W.cell? ⟨t, 1, none⟩ = some (.int .i64 s2) ∧ W.cell? ⟨t, 2, none⟩ = some (.int .i64 s3) ∧ W.cell? ⟨t, 3, none⟩ = some (.int .i64 s4)) := hidb (fun W hb => by
                    obtain ⟨y0, y1, y2, y3, _⟩ := HT.out.below hb
                    exact ⟨y0, y1, y2, y3⟩)
                  have hbtlt : t < wd.heap.size := HT.out.lt
                  obtain ⟨m0', m1', m2', m3'⟩ := HS4.out wd (Below.refl _ _)
                  have HG8 : Hid (∀ W, Below wd.heap.size wd W → CellsAt W B4 (cellsAll scells u.waits)) := hidb (fun W hb => Sn.cellsAt (RowOf.below HK4.out.ko.wr.row hb))
                  have HOne : Hid (∀ v ∈ cellsAll scells u.waits, v.oneCell' = true) := hidb scells_one
                  have HLn : Hid (u.waits.length = j4) := hidb HK4.out.ko.wr.row.1
                  have HLen : Hid ((cellsAll scells u.waits).length = j4 * 4) := hidb (by rw [cellsAll_length scells_len, HLn.out])
                  have HA0 : Hid (B4 = none → j4 = 0 ∧ d4 = 0) := hidb (fun e => by
                    have h0 : j4 = 0 := by
                      refine Nat.eq_zero_of_not_pos fun hp => ?_
                      obtain ⟨b, off, e2, _⟩ := HK4.out.ko.wr.row.2 hp
                      rw [e] at e2; cases e2
                    exact ⟨h0, HK4.out.ko.wr.cap.2.2 e⟩)
                  have hl : j4 ≤ 60000 := by rw [← HLn.out]; exact uo.few.w
                  obtain ⟨i0', hji, hjz0, hjz1, hjz2⟩ := info_parts info_span
                  go_cut [108] from 101 to 108 (fun v wx => ∃ A' c' w'', v = .pointer (some ⟨w.heap.size, 5, none⟩) ∧ wx = w''.setCell ⟨w.heap.size, 5, none⟩ (.slice A' (j4 + 1) c') ∧ Below wd.heap.size wd w'' ∧ w''.ownsRow wd.heap.size 50 4 (.slice A' (j4 + 1) c') (j4 + 1) (cellsAll scells u.waits ++ scells (s1, s2, s3, s4)))
                  case first =>
                    clear HFIN HST HC HGV HPU HU HG HG0 HK HO HK4 HT HP HOK HPL HLI HSI HZ HNUM HS HDL
                    --@15
                    go_region_law
                      (first
                        | (refine step_append_row rfl (.tmp 101) (.tmp 103) 30 rfl wd.heap.size 50 i0' (.agg #[.int .i64 0, .int .i64 0, .int .i64 0, .int .i64 0]) 4 32 Tryz.underlying30 hji hjz0 hjz1 hjz2 rfl (by decide) _ 0 [] rfl (by first | exact (own_empty' _ _ _ _ _ (by first | rfl | simp) (by first | exact Nat.le_refl _ | simp)).drew | exact ((own_empty' _ _ _ _ _ (by first | rfl | simp) (by first | exact Nat.le_refl _ | simp)).alloc _).drew) (by first | omega | (simp; done) | (simp; omega)) B4 j4 d4 (cellsAll scells u.waits) rfl HLen.out HA0.out (HG8.out _ (by repeat (first | assumption | exact Below.refl _ _ | refine Below.drew ?_ | refine Below.alloc ?_ (by first | omega | (simp; done) | (simp; omega)) _))) HOne.out (by unfold maxLen; omega) (by omega) ?_; intro A5 c5 w5 hown5 hg5; have hB5 : Below wd.heap.size wd w5 := Below.grown (by repeat (first | assumption | exact Below.refl _ _ | refine Below.drew ?_ | refine Below.alloc ?_ (by first | omega | (simp; done) | (simp; omega)) _)) hg5 (by first | omega | (simp; done) | (simp; omega)) (fun q hq => own_ge hq (by first | omega | (simp; done) | (simp; omega))); have hz5 : wd.heap.size ≤ w5.heap.size := hB5.size; obtain ⟨v0, v1, v2, v3⟩ := HS4.out _ hB5; have vlt : t < w5.heap.size := (by omega); rw [List.nil_append, Nat.zero_add] at hown5; have hown5' : w5.ownsRow wd.heap.size 50 4 (.slice A5 (0 + j4) c5) j4 (cellsAll scells u.waits) := by rw [Nat.zero_add]; exact hown5)
                        | (refine step_append_row rfl (.tmp 104) (.tmp 106) 30 rfl wd.heap.size 50 i0' (.agg #[.int .i64 0, .int .i64 0, .int .i64 0, .int .i64 0]) 4 32 Tryz.underlying30 hji hjz0 hjz1 hjz2 rfl (by decide) _ j4 (cellsAll scells u.waits) rfl (by first | exact hown5 | exact hown5.alloc _ | exact hown5' | exact hown5'.alloc _) (by first | omega | (simp; done) | (simp; omega)) (some ⟨_, 0, none⟩) 1 1 (scells (s1, s2, s3, s4)) rfl rfl (fun h => by cases h) (by first | exact cells_new' _ _ _ _ (by first | rfl | simp) | (refine CellsAt.grown ?_ hg5 (own_off (by first | omega | (simp; done))); first | exact (cells_new' _ _ _ _ (by first | rfl | simp)).drew | exact ((cells_new' _ _ _ _ (by first | rfl | simp)).alloc _).drew)) (scells_one1 _) (by unfold maxLen; omega) (by omega) ?_; intro A6 c6 w6' hown6 hg6; have hB6 : Below wd.heap.size wd w6' := Below.grown (by repeat (first | assumption | exact Below.refl _ _ | refine Below.drew ?_ | refine Below.alloc ?_ (by first | omega | (simp; done) | (simp; omega)) _)) hg6 (by first | omega | (simp; done) | (simp; omega)) (by first | exact fun q hq => (hown5.lt q hq).1 | exact fun q hq => (hown5'.lt q hq).1); have hz6 : wd.heap.size ≤ w6'.heap.size := hB6.size; obtain ⟨m2, m2z⟩ := HL2.out _ hB6; have HO6 := hidb hown6; clear hown6 hg6))
                    all_goals
                      go_wp2_with fail
                      go_meet
                      exact ⟨A6, c6, w6', rfl, rfl, hB6, HO6.out⟩
                  case rest =>
                    obtain ⟨A7, c7, w7, e7, rfl, hB7, HO7⟩ := hcut
                    subst e7
                    have HK7 := hidb (HK4.out.wait hB7 (l' := u.waits ++ [(s1, s2, s3, s4)]) (by rw [cellsAll_append, cellsAll_one]; exact HO7) (by rw [List.length_append, HLn.out]; rfl))
                    have HU7 : Hid (({ u with waits := u.waits ++ [(s1, s2, s3, s4)] } : LargeV) = (d.take (j + 1)).foldl lPut q) := hidb (by
                      rw [List.take_add_one, HS.out, List.foldl_append, ← HU.out]
                      show _ = lPut u (s1, s2, s3, s4)
                      unfold lPut
                      rw [if_pos eh])
                    clear hB7 HO7
                    go_wp2
                    go_roundw
                    case rel => exact ⟨j + 1, _, _, _, _, _, _, _, _, _, _, _, _, _, by omega, by go_num, HU7, HK7⟩
                    case measure => simp [intOf]; omega
                | false =>
                  have HLC : Hid (Calls Tryz.prog 42 #[.agg #[.int .i64 pg, .slice B j1 d1, .slice (some ⟨b2, off2, none⟩) j2 d2, .int .i64 la, .slice B3 j3 d3, .slice B4 j4 d4, .bool false], .int .i64 s3] wd fun e w6 => ∃ A6 c6, e = .returned (.slice A6 (lOf u.kept s3).length c6) ∧ Hid (GSt w (w.heap.size + 2) P w6 u B j1 d1 (some ⟨b2, off2, none⟩) j2 d2 B3 j3 d3 B4 j4 d4) ∧ Hid (F4 w6 t (.int .i64 s1) (.int .i64 s2) (.int .i64 s3) (.int .i64 s4))) := hidb (by
                    have h3 : j3 ≤ 60000 := by rw [← HK4.out.ko.l3]; exact uo.few.k
                    refine (ref_klist P u s3 wd B j1 d1 (some ⟨b2, off2, none⟩) j2 d2 B3 j3 d3 B4 j4 d4 pg la false HK4.out.ko.kr.row (by omega) _ rfl).mono ?_
                    rintro e w6 ⟨A6, c6, rfl, _, hb6⟩
                    exact ⟨A6, c6, by rw [List.length_map], hidb (HK4.out.below hb6), hidb (HT.out.below hb6)⟩)
                  obtain ⟨nl, hnl⟩ : ∃ nl, (lOf u.kept s3).length = nl := ⟨_, rfl⟩
                  rw [hnl] at HLC
                  obtain ⟨y0, y1, y2, y3, yf⟩ := HT.out
                  by_cases hcnt : (lOf u.kept s3).length < 2
                  · have hc2 : (nl : Int) < 2 := by omega
                    --@13
                    clear HT HK4 yf cf
                    go_wp2_with (first
                      | (go_at_call 42; (with_reducible refine HLC.out.mono ?_); rintro e w6 ⟨A6, c6, rfl, HK6, HT⟩))
                    clear HLC
                    clear c0 c1 c2' c3' c4' c5' c6' y0 y1 y2 y3
                    have l2 : w6.cell? ⟨w.heap.size, 4, none⟩ = some (.slice B3 j3 d3) := HK6.out.f0.2.2.2.2.1
                    have l2z : w6.frozen? ⟨w.heap.size, 4, none⟩ = false := HK6.out.f0.2.2.2.2.2.2.2 4
                    have hb0lt : w.heap.size < w6.heap.size := lt_of_cell l2
                    have HL2 : Hid (∀ W, Below w6.heap.size w6 W → W.cell? ⟨w.heap.size, 4, none⟩ = some (.slice B3 j3 d3) ∧ W.frozen? ⟨w.heap.size, 4, none⟩ = false) := hidb (fun W hb => ⟨(hb.cell (p := ⟨w.heap.size, 4, none⟩) hb0lt).trans l2, (hb.frozen (p := ⟨w.heap.size, 4, none⟩) hb0lt).trans l2z⟩)
                    have HS4 : Hid (∀ W, Below w6.heap.size w6 W → W.cell? ⟨t, 0, none⟩ = some (.int .i64 s1) ∧ W.cell? ⟨t, 1, none⟩ = some (.int .i64 s2) ∧ W.cell? ⟨t, 2, none⟩ = some (.int .i64 s3) ∧ W.cell? ⟨t, 3, none⟩ = some (.int .i64 s4)) := hidb (fun W hb => by
                      obtain ⟨y0, y1, y2, y3, _⟩ := HT.out.below hb
                      exact ⟨y0, y1, y2, y3⟩)
                    have hbtlt : t < w6.heap.size := HT.out.lt
                    obtain ⟨m0', m1', m2', m3'⟩ := HS4.out w6 (Below.refl _ _)
                    have HG8 : Hid (∀ W, Below w6.heap.size w6 W → CellsAt W B3 (cellsAll scells u.kept)) := hidb (fun W hb => Sn.cellsAt (RowOf.below HK6.out.ko.kr.row hb))
                    have HOne : Hid (∀ v ∈ cellsAll scells u.kept, v.oneCell' = true) := hidb scells_one
                    have HLn : Hid (u.kept.length = j3) := hidb HK6.out.ko.kr.row.1
                    have HLen : Hid ((cellsAll scells u.kept).length = j3 * 4) := hidb (by rw [cellsAll_length scells_len, HLn.out])
                    have HA0 : Hid (B3 = none → j3 = 0 ∧ d3 = 0) := hidb (fun e => by
                      have h0 : j3 = 0 := by
                        refine Nat.eq_zero_of_not_pos fun hp => ?_
                        obtain ⟨b, off, e2, _⟩ := HK6.out.ko.kr.row.2 hp
                        rw [e] at e2; cases e2
                      exact ⟨h0, HK6.out.ko.kr.cap.2.2 e⟩)
                    have hl : j3 ≤ 60000 := by rw [← HLn.out]; exact uo.few.k
                    obtain ⟨i0', hji, hjz0, hjz1, hjz2⟩ := info_parts info_span
                    go_cut [123] from 116 to 123 (fun v wx => ∃ A' c' w'', v = .pointer (some ⟨w.heap.size, 4, none⟩) ∧ wx = w''.setCell ⟨w.heap.size, 4, none⟩ (.slice A' (j3 + 1) c') ∧ Below w6.heap.size w6 w'' ∧ w''.ownsRow w6.heap.size 50 4 (.slice A' (j3 + 1) c') (j3 + 1) (cellsAll scells u.kept ++ scells (s1, s2, s3, s4)))
                    case first =>
                      clear HFIN HST HC HGV HPU HU HG HG0 HK HO HK6 HT HP HOK HPL HLI HSI HZ HNUM HS HDL
                      --@16
                      go_region_law
                        (first
                          | (refine step_append_row rfl (.tmp 116) (.tmp 118) 30 rfl w6.heap.size 50 i0' (.agg #[.int .i64 0, .int .i64 0, .int .i64 0, .int .i64 0]) 4 32 Tryz.underlying30 hji hjz0 hjz1 hjz2 rfl (by decide) _ 0 [] rfl (by first | exact (own_empty' _ _ _ _ _ (by first | rfl | simp) (by first | exact Nat.le_refl _ | simp)).drew | exact ((own_empty' _ _ _ _ _ (by first | rfl | simp) (by first | exact Nat.le_refl _ | simp)).alloc _).drew) (by first | omega | (simp; done) | (simp; omega)) B3 j3 d3 (cellsAll scells u.kept) rfl HLen.out HA0.out (HG8.out _ (by repeat (first | assumption | exact Below.refl _ _ | refine Below.drew ?_ | refine Below.alloc ?_ (by first | omega | (simp; done) | (simp; omega)) _))) HOne.out (by unfold maxLen; omega) (by omega) ?_; intro A5 c5 w5 hown5 hg5; have hB5 : Below w6.heap.size w6 w5 := Below.grown (by repeat (first | assumption | exact Below.refl _ _ | refine Below.drew ?_ | refine Below.alloc ?_ (by first | omega | (simp; done) | (simp; omega)) _)) hg5 (by first | omega | (simp; done) | (simp; omega)) (fun q hq => own_ge hq (by first | omega | (simp; done) | (simp; omega))); have hz5 : w6.heap.size ≤ w5.heap.size := hB5.size; obtain ⟨v0, v1, v2, v3⟩ := HS4.out _ hB5; have vlt : t < w5.heap.size := (by omega); rw [List.nil_append, Nat.zero_add] at hown5; have hown5' : w5.ownsRow w6.heap.size 50 4 (.slice A5 (0 + j3) c5) j3 (cellsAll scells u.kept) := by rw [Nat.zero_add]; exact hown5)
                          | (refine step_append_row rfl (.tmp 119) (.tmp 121) 30 rfl w6.heap.size 50 i0' (.agg #[.int .i64 0, .int .i64 0, .int .i64 0, .int .i64 0]) 4 32 Tryz.underlying30 hji hjz0 hjz1 hjz2 rfl (by decide) _ j3 (cellsAll scells u.kept) rfl (by first | exact hown5 | exact hown5.alloc _ | exact hown5' | exact hown5'.alloc _) (by first | omega | (simp; done) | (simp; omega)) (some ⟨_, 0, none⟩) 1 1 (scells (s1, s2, s3, s4)) rfl rfl (fun h => by cases h) (by first | exact cells_new' _ _ _ _ (by first | rfl | simp) | (refine CellsAt.grown ?_ hg5 (own_off (by first | omega | (simp; done))); first | exact (cells_new' _ _ _ _ (by first | rfl | simp)).drew | exact ((cells_new' _ _ _ _ (by first | rfl | simp)).alloc _).drew)) (scells_one1 _) (by unfold maxLen; omega) (by omega) ?_; intro A6 c6 w6' hown6 hg6; have hB6 : Below w6.heap.size w6 w6' := Below.grown (by repeat (first | assumption | exact Below.refl _ _ | refine Below.drew ?_ | refine Below.alloc ?_ (by first | omega | (simp; done) | (simp; omega)) _)) hg6 (by first | omega | (simp; done) | (simp; omega)) (by first | exact fun q hq => (hown5.lt q hq).1 | exact fun q hq => (hown5'.lt q hq).1); have hz6 : w6.heap.size ≤ w6'.heap.size := hB6.size; obtain ⟨m2, m2z⟩ := HL2.out _ hB6; have HO6 := hidb hown6; clear hown6 hg6))
                      all_goals
                        go_wp2_with fail
                        go_meet
                        exact ⟨A6, c6, w6', rfl, rfl, hB6, HO6.out⟩
                    case rest =>
                      obtain ⟨A7, c7, w7, e7, rfl, hB7, HO7⟩ := hcut
                      subst e7
                      have HK7 := hidb (HK6.out.keep hB7 (l' := u.kept ++ [(s1, s2, s3, s4)]) (by rw [cellsAll_append, cellsAll_one]; exact HO7) (by rw [List.length_append, HLn.out]; rfl))
                      have HU7 : Hid (({ u with kept := u.kept ++ [(s1, s2, s3, s4)] } : LargeV) = (d.take (j + 1)).foldl lPut q) := hidb (by
                        rw [List.take_add_one, HS.out, List.foldl_append, ← HU.out]
                        show _ = lPut u (s1, s2, s3, s4)
                        unfold lPut
                        rw [if_neg (by rw [eh]; decide), if_pos hcnt])
                      clear hB7 HO7
                      go_wp2
                      go_roundw
                      case rel => exact ⟨j + 1, _, _, _, _, _, _, _, _, _, _, _, _, _, by omega, by go_num, HU7, HK7⟩
                      case measure => simp [intOf]; omega
                  · have hc2 : ¬ (nl : Int) < 2 := by omega
                    obtain ⟨⟨g, no⟩, hg⟩ : ∃ r, hDrop u.h [s1] = r := ⟨_, rfl⟩
                    have hgo := hDrop_ok uo.hok [s1]
                    rw [hg] at hgo
                    have eg1 : g.pages = pg := hgo.2.1.trans ep
                    have eg2 : g.last = la := hgo.2.2.2.trans el
                    have CD : Hid (∀ w6, Hid (GSt w (w.heap.size + 2) P w6 u B j1 d1 (some ⟨b2, off2, none⟩) j2 d2 B3 j3 d3 B4 j4 d4) → Calls Tryz.prog 139 #[.agg #[.int .i64 pg, .slice B j1 d1, .slice (some ⟨b2, off2, none⟩) j2 d2, .int .i64 la], .slice (some ⟨w6.heap.size, 0, none⟩) 1 1] (w6.alloc (.cells #[.int .i64 s1] 3)) fun e w7 => ∃ C k5 c5 C2 k6 c6, e = .returned (.tuple #[.agg #[.int .i64 pg, .slice C k5 c5, .slice C2 k6 c6, .int .i64 la], .int .i64 no]) ∧ Hid (F7 w7 w.heap.size (.int .i64 pg) (.slice B j1 d1) (.slice (some ⟨b2, off2, none⟩) j2 d2) (.int .i64 la) (.slice B3 j3 d3) (.slice B4 j4 d4) (.bool false)) ∧
                        Hid (GSt w (w.heap.size + 2) P (set4 w7 w.heap.size (.int .i64 pg) (.slice C k5 c5) (.slice C2 k6 c6) (.int .i64 la)) { u with h := g } C k5 c5 C2 k6 c6 B3 j3 d3 B4 j4 d4)) := hidb (fun w6 HK6 => by
                      have hb1 : Below w6.heap.size w6 (w6.alloc (.cells #[.int .i64 s1] 3)) := (Below.refl _ _).alloc (Nat.le_refl _) _
                      have k7 := HK6.out.below hb1
                      have hh : HIs (w6.alloc (.cells #[.int .i64 s1] 3)) (OldD w.heap.size (w.heap.size + 2) P) u.h (hval pg B j1 d1 (some ⟨b2, off2, none⟩) j2 d2 la) := by
                        have := k7.ko.hi
                        rw [ep, el] at this
                        exact this
                      have hsl : Sl (w6.alloc (.cells #[.int .i64 s1] 3)) (w6.alloc (.cells #[.int .i64 s1] 3)).heap.size (some ⟨w6.heap.size, 0, none⟩) 1 (([(s1, s2, s3, s4)].map (·.1)).map iv) := by
                        refine ⟨rfl, fun _ => ⟨w6.heap.size, 0, rfl, by simp, fun i hi => ?_⟩⟩
                        obtain rfl : i = 0 := by omega
                        simp [iv]
                      refine (t_kdrop k7.sz hh uo.hok uo.few.l (by rw [el, ← HPL.out.2.1]; exact hla0) (some ⟨w6.heap.size, 0, none⟩) 1 1 [(s1, s2, s3, s4)] hsl (by omega) (fun x hx => by obtain rfl := List.mem_singleton.1 hx; exact HO.out.1) g no hg).mono ?_
                      rintro e w7 ⟨C, k5, c5, C2, k6, c6, rfl, h7, hb7⟩
                      refine ⟨C, k5, c5, C2, k6, c6, rfl, hidb ?_, hidb ?_⟩
                      · have := (k7.below hb7).f0
                        rw [ep, el, eh] at this
                        exact this
                      · have := GSt.heap k7 hb7 (g := g) (B := C) (j := k5) (d := c5) (B2 := C2) (j2 := k6) (d2 := c6) (by rw [eg1, eg2]; exact h7)
                        rw [eg1, eg2] at this
                        exact this)
                    have HU7 : Hid (({ u with h := g } : LargeV) = (d.take (j + 1)).foldl lPut q) := hidb (by
                      rw [List.take_add_one, HS.out, List.foldl_append, ← HU.out]
                      show _ = lPut u (s1, s2, s3, s4)
                      unfold lPut
                      rw [if_neg (by rw [eh]; decide), if_neg hcnt]
                      simp only [hg])
                    --@14
                    clear HK4 HT yf cf hg hgo eg1 eg2
                    go_wp2_with (first
                      | (go_at_call 42; (with_reducible refine HLC.out.mono ?_); rintro e w6 ⟨A6, c6, rfl, HK6, HT⟩; obtain ⟨x0, x1, x2, x3, x4, x5, x6, xf⟩ := HK6.out.f0; rw [ep] at x0; rw [el] at x3; rw [eh] at x6; obtain ⟨y0, y1, y2, y3, yf⟩ := HT.out; have cd := CD.out w6 HK6; have hw6 := lt_of_cell x0; simp only at hw6; clear xf yf c0 c1 c2' c3' c4' c5' c6')
                      | (go_at_call 139; (with_reducible refine cd.mono ?_); rintro e w7 ⟨C, k5, c5, C2, k6, c6', rfl, HF7, HK7⟩; obtain ⟨q0, q1, q2, q3, _, _, _, qf⟩ := HF7.out; have qf0 := qf 0; have qf1 := qf 1; have qf2 := qf 2; have qf3 := qf 3; clear qf))
                    go_roundw
                    case rel => exact ⟨j + 1, _, _, _, _, _, _, _, _, _, _, _, _, _, by omega, by go_num, HU7, HK7⟩
                    case measure => simp [intOf]; omega
            · obtain rfl : N = j := by omega
              have hu : u = d.foldl lPut q := by rw [HU.out, List.take_of_length_le (by rw [HDL.out]; exact Nat.le_refl _)]
              obtain ⟨HR, v0, v1, v2, v3, v4, v5, v6, _⟩ := HK.out.fin HP.out uo 0 pg la hd ep el eh
              have HR2 := hidb HR
              rw [hu] at HR2
              have HR3 : Hid (HeldIs w P (lGive q ids).1 (.int .i64 (lGive q ids).2) (.returned (.tuple #[.agg #[.int .i64 pg, .slice B j1 d1, .slice B2 j2 d2, .int .i64 la, .slice B3 j3 d3, .slice B4 j4 d4, .bool hd], .int .i64 0])) (set7 wr (w.heap.size + 1) (.int .i64 pg) (.slice B j1 d1) (.slice B2 j2 d2) (.int .i64 la) (.slice B3 j3 d3) (.slice B4 j4 d4) (.bool hd))) := hidb (by rw [HGV.out]; exact HR2.out)
              obtain ⟨r0, r1, r2, r3, r4, r5, r6, rf⟩ := HK.out.f1
              have rf0 := rf 0
              have rf1 := rf 1
              have rf2 := rf 2
              have rf3 := rf 3
              have rf4 := rf 4
              have rf5 := rf 5
              have rf6 := rf 6
              unfold set7 at v0 v1 v2 v3 v4 v5 v6
              clear HR rf cf hu uout
              --@17
              go_wp2
              exact bodyPost_ret (v := .tuple #[.agg #[.int .i64 pg, .slice B j1 d1, .slice B2 j2 d2, .int .i64 la, .slice B3 j3 d3, .slice B4 j4 d4, .bool hd], .int .i64 0]) (by simp [results, Tryz.results89, go_sem, v0, v1, v2, v3, v4, v5, v6]) rfl HR3.out

end Go.Proofs.YtonmkanppapjjaaGreat
