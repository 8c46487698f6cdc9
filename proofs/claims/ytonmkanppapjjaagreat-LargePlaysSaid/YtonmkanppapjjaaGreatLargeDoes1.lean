/- What an act of layer 10's does: Take, and a span that the heap makes. -/
import Derived.Test.YtonmkanppapjjaaGreatLargeDoes0
import Derived.Deep.RegionHeld3
namespace Go.Proofs.YtonmkanppapjjaaGreat
open Go.RowKit Go.Maps
set_option linter.unusedVariables false

set_option maxRecDepth 100000 in
set_option maxHeartbeats 4000000 in
theorem does_take {w W : World} {p hp : Nat} {S D : Nat → Prop} {v : LargeV} {k : Nat} {pages : Int} {mv : Value} (hD : ∀ b, W.heap.size ≤ b → D b) (s : KeepSt w W p hp S v k pages) (hk : k + 1 ≤ 1000000000) (d : KoIs W (fun b => ¬ S b ∧ D b) v mv) (a : Act10) (ha : a.kind = 0) (hn : in64 a.n) :
    Calls Tryz.prog 38 #[.pointer (some ⟨hp, 0, none⟩), .pointer (some ⟨p, 0, none⟩), mv, .agg #[.int .i64 a.kind, .int .i64 a.n, .int .i64 a.order, .bool a.on, .slice a.A a.len a.cap]] W (DoesTo w W p hp S D (kStep v a) (k + 1) pages) := by
  obtain ⟨A, m, c, A2, m2, c2, A3, m3, c3, A4, m4, c4, rfl, d⟩ := d
  obtain ⟨W0, hW0⟩ : ∃ W0, W0 = (((W.alloc (.cells #[.int .i64 v.h.pages, .slice A m c, .slice A2 m2 c2, .int .i64 v.h.last, .slice A3 m3 c3, .slice A4 m4 c4, .bool v.held] 76)).alloc (.cells #[.int .i64 a.kind, .int .i64 a.n, .int .i64 a.order, .bool a.on, .slice a.A a.len a.cap] 78)).alloc (.cells #[.int .i64 0, .slice none 0 0, .slice none 0 0, .int .i64 0, .slice none 0 0, .slice none 0 0, .bool false] 76)) := ⟨_, rfl⟩
  have HA := ActSt.start s a d 76 78 76
  rw [← hW0] at HA
  rw [kStep_0 ha]
  obtain ⟨⟨v', ⟨s1, s2, s3, s4⟩, no⟩, hT⟩ : ∃ r, lTake v a.n = r := ⟨_, rfl⟩
  have ho' := s.ok.take a.n
  rw [hT] at ho' ⊢
  obtain ⟨pg, hpg⟩ : ∃ x, v.h.pages = x := ⟨_, rfl⟩
  obtain ⟨la, hla⟩ : ∃ x, v.h.last = x := ⟨_, rfl⟩
  obtain ⟨hd, hhd⟩ : ∃ x, v.held = x := ⟨_, rfl⟩
  obtain ⟨pg', hpg'⟩ : ∃ x, v'.h.pages = x := ⟨_, rfl⟩
  obtain ⟨la', hla'⟩ : ∃ x, v'.h.last = x := ⟨_, rfl⟩
  obtain ⟨hd', hhd'⟩ : ∃ x, v'.held = x := ⟨_, rfl⟩
  have hSlt := s.lt
  have CT : Hid (Calls Tryz.prog 88 #[.agg #[.int .i64 pg, .slice A m c, .slice A2 m2 c2, .int .i64 la, .slice A3 m3 c3, .slice A4 m4 c4, .bool hd], .int .i64 a.n] W0 fun e w1 => ∃ B j1 d1 B2 j2 d2 B3 j3 d3 B4 j4 d4, e = .returned (.tuple #[.agg #[.int .i64 pg', .slice B j1 d1, .slice B2 j2 d2, .int .i64 la', .slice B3 j3 d3, .slice B4 j4 d4, .bool hd'], .agg #[.int .i64 s1, .int .i64 s2, .int .i64 s3, .int .i64 s4], .int .i64 no]) ∧ Hid (Ko w1 (fun b => (¬ S b ∧ D b) ∧ W.heap.size + 2 ≠ b) v' B j1 d1 B2 j2 d2 B3 j3 d3 B4 j4 d4) ∧ Hid (Below W0.heap.size W0 w1)) := hidb (by
    have := ref_ktake (fun b => (¬ S b ∧ D b) ∧ W.heap.size + 2 ≠ b) v _ a.n W0 (fun b hb => ⟨⟨fun c => by have := hSlt b c; have := HA.sz; omega, hD b (by have := HA.sz; omega)⟩, by have := HA.sz; omega⟩) HA.ko.isv s.ok (by have := s.la; omega) hn
    unfold kval at this
    rw [hT, hpg, hla, hhd] at this
    refine this.mono ?_
    rintro e w1 ⟨v'', rfl, ⟨B, j1, d1, B2, j2, d2, B3, j3, d3, B4, j4, d4, rfl, k1⟩, hb⟩
    refine ⟨B, j1, d1, B2, j2, d2, B3, j3, d3, B4, j4, d4, ?_, hidb k1, hidb hb⟩
    unfold kval
    rw [hpg', hla', hhd']; rfl)
  have CK : Hid (∀ W2, Below W.heap.size W W2 → Calls Tryz.prog 34 #[.pointer (some ⟨p, 0, none⟩), .int .i64 a.n] W2 fun e w3 => e = .returned (.tuple #[.agg #[.int .i64 s1, .int .i64 s2, .int .i64 s3, .int .i64 s4], .int .i64 no]) ∧ ∃ S', Hid (KeepSt w w3 p hp S' v' (k + 1) pages ∧ SideK S W2 S' w3)) := hidb (fun W2 hb => (t_ktake (s.below hb) hk a.n hn v' s1 s2 s3 s4 no hT).mono fun e w3 ⟨x, S', y, z⟩ => ⟨x, S', hidb ⟨y, z⟩⟩)
  have HA0 := HA
  clear HA
  have HA := hidb HA0
  clear HA0
  have HS := hidb hSlt
  have hwW := s.bel.size
  have HO := hidb ho'
  have HW0 := hidb hW0
  have HE := hidb (⟨hpg', hla', hhd'⟩ : v'.h.pages = pg' ∧ v'.h.last = la' ∧ v'.held = hd')
  obtain ⟨a0, a1, a2, a3, a4⟩ := HA.out.a5 W0 (Below.refl _ _)
  obtain ⟨c0, c1, c2', c3', c4', c5', c6', _⟩ := HA.out.m7
  rw [hpg] at c0
  rw [hla] at c3'
  rw [hhd] at c6'
  rw [hpg, hla, hhd] at HW0
  unfold kval
  rw [hpg, hla, hhd]
  rw [ha] at HW0 a0 ⊢
  have hz := HA.out.sz
  have q1 := eqs_span s1 s2 s3 s4 s1 s2 s3 s4
  simp only [decide_true] at q1
  clear hW0 s hT ho' hSlt d hpg hla hhd hpg' hla' hhd' hn hk
  go_enter Tryz.func38, Tryz.ntmps38
  go_wp2_with (first
    | (go_at_call 88; go_loud (rw [← HW0.out]); (with_reducible refine CT.out.mono ?_); rintro e w1 ⟨B, j1, d1, B2, j2, d2, B3, j3, d3, B4, j4, d4, rfl, HK1, HB1⟩; obtain ⟨a0, a1, a2, a3, a4⟩ := HA.out.a5 w1 HB1.out; have hw1 := HB1.out.size; have hlt1 : W.heap.size + 1 < w1.heap.size := (by omega); have hlt0 : W.heap.size < w1.heap.size := (by omega))
    | (go_at_call 34; (with_reducible refine (CK.out _ (by repeat (first | exact HA.out.bel.trans (HB1.out.mono HA.out.bel.size) | refine Below.alloc ?_ (by first | omega | (simp; done) | (simp; omega)) _))).mono ?_); rintro e w3 ⟨rfl, S3, HS3⟩))
  have hnS : ∀ b, W.heap.size ≤ b → ¬ S b := fun b hb c => by have := HS.out b c; omega
  obtain ⟨W2, hW2⟩ : ∃ W2, W2 = (w1.alloc (.cells #[.int .i64 pg', .slice B j1 d1, .slice B2 j2 d2, .int .i64 la', .slice B3 j3 d3, .slice B4 j4 d4, .bool hd'] 76)).alloc (.cells #[.int .i64 s1, .int .i64 s2, .int .i64 s3, .int .i64 s4] 50) := ⟨_, rfl⟩
  rw [← hW2] at HS3
  have hb12 : Below w1.heap.size w1 W2 := by rw [hW2]; exact ((Below.refl _ _).alloc (Nat.le_refl _) _).alloc (by simp) _
  have hz2 : W2.heap.size = w1.heap.size + 2 := by rw [hW2]; simp
  have hB2 : Below W.heap.size W W2 := (HA.out.bel.trans (HB1.out.mono HA.out.bel.size)).trans (hb12.mono (by omega))
  obtain ⟨W4, hW4⟩ : ∃ W4, W4 = w3.alloc (.cells #[.int .i64 s1, .int .i64 s2, .int .i64 s3, .int .i64 s4] 50) := ⟨_, rfl⟩
  have hb4 : Below w3.heap.size w3 W4 := by rw [hW4]; exact (Below.refl _ _).alloc (Nat.le_refl _) _
  have hz3 := HS3.out.2.1.size
  have f10 : F7 W4 w1.heap.size (.int .i64 pg') (.slice B j1 d1) (.slice B2 j2 d2) (.int .i64 la') (.slice B3 j3 d3) (.slice B4 j4 d4) (.bool hd') := (HS3.out.2.f7 (by rw [hW2]; exact (F7.made w1 _ _ _ _ _ _ _ _).al _) (hnS _ (by omega))).below hb4
  have f11 : F4 W4 (w1.heap.size + 1) (.int .i64 s1) (.int .i64 s2) (.int .i64 s3) (.int .i64 s4) := (HS3.out.2.f4 (by
    have := F4.made (w1.alloc (.cells #[.int .i64 pg', .slice B j1 d1, .slice B2 j2 d2, .int .i64 la', .slice B3 j3 d3, .slice B4 j4 d4, .bool hd'] 76)) (.int .i64 s1) (.int .i64 s2) (.int .i64 s3) (.int .i64 s4) 50
    rw [World.size_alloc] at this
    rw [hW2]; exact this) (hnS _ (by omega))).below hb4
  have f13 : F4 W4 w3.heap.size (.int .i64 s1) (.int .i64 s2) (.int .i64 s3) (.int .i64 s4) := by rw [hW4]; exact F4.made _ _ _ _ _ _
  have f9 : F7 W4 (W.heap.size + 1 + 1) (.int .i64 0) (.slice none 0 0) (.slice none 0 0) (.int .i64 0) (.slice none 0 0) (.slice none 0 0) (.bool false) := (HS3.out.2.f7 ((HA.out.r7.below HB1.out).below hb12) (hnS _ (by omega))).below hb4
  have HE9 := hidb (f9.put (.int .i64 pg') (.slice B j1 d1) (.slice B2 j2 d2) (.int .i64 la') (.slice B3 j3 d3) (.slice B4 j4 d4) (.bool hd'))
  have HEND : Hid (∀ WF, Kept (fun b => W.heap.size + 2 = b) W4 WF → DoesTo w W p hp S D v' (k + 1) pages (.returned (.tuple #[.bool true, .agg #[.int .i64 pg', .slice B j1 d1, .slice B2 j2 d2, .int .i64 la', .slice B3 j3 d3, .slice B4 j4 d4, .bool hd']])) WF) := hidb (fun WF hK =>
    does_end hB2 (by omega) HS.out hwW (HK1.out.below hb12) (by rw [HO.out.hok.fl]; omega) HS3.out.1 HS3.out.2 hb4 hK HE.out.1 HE.out.2.1 HE.out.2.2)
  rw [← hW4]
  obtain ⟨x0, x1, x2, x3, x4, x5, x6, _⟩ := f10
  obtain ⟨y0, y1, y2, y3, _⟩ := f11
  obtain ⟨z0, z1, z2, z3, _⟩ := f13
  obtain ⟨r0, r1, r2, r3, r4, r5, r6, rf⟩ := f9
  have rf0 := rf 0
  have rf1 := rf 1
  have rf2 := rf 2
  have rf3 := rf 3
  have rf4 := rf 4
  have rf5 := rf 5
  have rf6 := rf 6
  have nn1 : ¬ W.heap.size + 1 + 1 = w1.heap.size := by omega
  have nn2 : ¬ W.heap.size + 1 + 1 = w1.heap.size + 1 := by omega
  have nn3 : ¬ W.heap.size + 1 + 1 = w3.heap.size := by omega
  have nn4 : ¬ W.heap.size + 1 = w1.heap.size := by omega
  have nn5 : ¬ w1.heap.size = W.heap.size + 1 + 1 := by omega
  have nn6 : ¬ w1.heap.size = W.heap.size + 1 := by omega
  have nn7 : ¬ w3.heap.size = W.heap.size + 1 + 1 := by omega
  clear hW2 hW4 hb12 hz2 hB2 hb4 hz3 rf CT CK HS3 HK1 HB1 a0 a1 a2 a3 a4 c0 c1 c2' c3' c4' c5' c6' hnS
  go_region_held3 (fun W' => W'.cell? ⟨w1.heap.size, 0, none⟩ = some (.int .i64 pg') ∧ W'.cell? ⟨w1.heap.size, 1, none⟩ = some (.slice B j1 d1) ∧ W'.cell? ⟨w1.heap.size, 2, none⟩ = some (.slice B2 j2 d2) ∧ W'.cell? ⟨w1.heap.size, 3, none⟩ = some (.int .i64 la') ∧ W'.cell? ⟨w1.heap.size, 4, none⟩ = some (.slice B3 j3 d3) ∧ W'.cell? ⟨w1.heap.size, 5, none⟩ = some (.slice B4 j4 d4) ∧ W'.cell? ⟨w1.heap.size, 6, none⟩ = some (.bool hd') ∧ W'.cell? ⟨(w1.heap.size + 1), 0, none⟩ = some (.int .i64 s1) ∧ W'.cell? ⟨(w1.heap.size + 1), 1, none⟩ = some (.int .i64 s2) ∧ W'.cell? ⟨(w1.heap.size + 1), 2, none⟩ = some (.int .i64 s3) ∧ W'.cell? ⟨(w1.heap.size + 1), 3, none⟩ = some (.int .i64 s4) ∧ W'.cell? ⟨w3.heap.size, 0, none⟩ = some (.int .i64 s1) ∧ W'.cell? ⟨w3.heap.size, 1, none⟩ = some (.int .i64 s2) ∧ W'.cell? ⟨w3.heap.size, 2, none⟩ = some (.int .i64 s3) ∧ W'.cell? ⟨w3.heap.size, 3, none⟩ = some (.int .i64 s4)) (go_keep) (fail)
  go_wp2
  obtain ⟨b0, b1, b2, b3, b4, b5, b6, _⟩ := HE9.out
  unfold set7 at b0 b1 b2 b3 b4 b5 b6
  refine bodyPost_ret (v := .tuple #[.bool true, .agg #[.int .i64 pg', .slice B j1 d1, .slice B2 j2 d2, .int .i64 la', .slice B3 j3 d3, .slice B4 j4 d4, .bool hd']]) (by simp [results, Tryz.results38, go_sem, b0, b1, b2, b3, b4, b5, b6]) rfl ?_
  exact HEND.out _ (Kept.drew (kept_set7 (Kept.refl _ _) (Or.inl rfl) _ _ _ _ _ _ _))

/-- Both sides ahead of an act's answer, where the document's own block is written too. -/
theorem does_end2 {w W W2 w3 W4 WF : World} {p hp : Nat} {S S' T D : Nat → Prop} {v' : LargeV} {k' : Nat} {pages : Int} {A A2 A3 A4 : Option Addr} {n c n2 c2 n3 c3 n4 c4 : Nat} {pg la : Int} {hd : Bool}
    (hB2 : Below W.heap.size W W2) (hT : ∀ b, T b → W.heap.size ≤ b ∧ b < W2.heap.size) (hS : ∀ b, S b → b < W.heap.size) (hw : w.heap.size ≤ W.heap.size) (d : Ko W2 (fun b => (¬ S b ∧ D b) ∧ ¬ T b) v' A n c A2 n2 c2 A3 n3 c3 A4 n4 c4) (h0 : 0 < v'.h.free.length)
    (s3 : KeepSt w w3 p hp S' v' k' pages) (hs : SideK S W2 S' w3) (hb4 : Below w3.heap.size w3 W4) (hK : Kept T W4 WF) (e1 : v'.h.pages = pg) (e2 : v'.h.last = la) (e3 : v'.held = hd) :
    DoesTo w W p hp S D v' k' pages (.returned (.tuple #[.bool true, .agg #[.int .i64 pg, .slice A n c, .slice A2 n2 c2, .int .i64 la, .slice A3 n3 c3, .slice A4 n4 c4, .bool hd]])) WF := by
  subst e1 e2 e3
  have h2 := hB2.size
  have hn : ∀ b, S' b → ¬ T b := fun b c e => by
    have h3 := hT b e
    rcases hs.2 _ c with h | h
    · have := hS _ h; omega
    · omega
  have d3 := ((d.apart h0).kept hs.1 (fun b hb => hb.1.1.1)).below hb4 |>.kept hK (fun b hb => hb.1.2)
  refine ⟨_, rfl, S', ((s3.below hb4).kept hK hn (fun b e => by have := hT b e; omega)), (d3.isv).weaken (fun b hb => ⟨fun c => ?_, hb.1.1.2⟩), ⟨?_, fun b hb => ?_⟩⟩
  · rcases hs.2 b c with h | h
    · exact hb.1.1.1 h
    · have := hb.2; omega
  · refine (((Kept.of_below hB2 S).trans hs.1 (fun b _ h => h)).trans (Kept.of_below hb4 S) (fun b _ h => h)).trans hK (fun b hb e => ?_)
    have := hT b e
    omega
  · rcases hs.2 b hb with h | h
    · exact Or.inl h
    · exact Or.inr (by omega)

set_option maxRecDepth 100000 in
set_option maxHeartbeats 4000000 in
theorem does_make {w W : World} {p hp : Nat} {S D : Nat → Prop} {v : LargeV} {k : Nat} {pages : Int} {mv : Value} (hD : ∀ b, W.heap.size ≤ b → D b) (s : KeepSt w W p hp S v k pages) (hk : k + 1 ≤ 1000000000) (d : KoIs W (fun b => ¬ S b ∧ D b) v mv) (a : Act10) (ha0 : a.kind ≠ 0) (ha1 : a.kind ≠ 1) (ha2 : a.kind ≠ 2) (ha3 : a.kind ≠ 3) (hn : in64 a.n) (hor : in64 a.order) :
    Calls Tryz.prog 38 #[.pointer (some ⟨hp, 0, none⟩), .pointer (some ⟨p, 0, none⟩), mv, .agg #[.int .i64 a.kind, .int .i64 a.n, .int .i64 a.order, .bool a.on, .slice a.A a.len a.cap]] W (DoesTo w W p hp S D (kStep v a) (k + 1) pages) := by
  obtain ⟨A, m, c, A2, m2, c2, A3, m3, c3, A4, m4, c4, rfl, d⟩ := d
  obtain ⟨W0, hW0⟩ : ∃ W0, W0 = (((W.alloc (.cells #[.int .i64 v.h.pages, .slice A m c, .slice A2 m2 c2, .int .i64 v.h.last, .slice A3 m3 c3, .slice A4 m4 c4, .bool v.held] 76)).alloc (.cells #[.int .i64 a.kind, .int .i64 a.n, .int .i64 a.order, .bool a.on, .slice a.A a.len a.cap] 78)).alloc (.cells #[.int .i64 0, .slice none 0 0, .slice none 0 0, .int .i64 0, .slice none 0 0, .slice none 0 0, .bool false] 76)) := ⟨_, rfl⟩
  have HA := ActSt.start s a d 76 78 76
  rw [← hW0] at HA
  rw [kStep_4 ha0 ha1 ha2 ha3]
  obtain ⟨⟨g, ⟨s1, s2, s3, s4⟩, no⟩, hT⟩ : ∃ r, hMake v.h a.n a.order = r := ⟨_, rfl⟩
  have ho' := s.ok.make a.n a.order
  rw [hT] at ho' ⊢
  obtain ⟨T, hTd⟩ : ∃ T : Nat → Prop, T = fun b => W.heap.size ≤ b ∧ b < W.heap.size + 3 := ⟨_, rfl⟩
  have hko : Ko W0 (fun b => (¬ S b ∧ D b) ∧ ¬ T b) v A m c A2 m2 c2 A3 m3 c3 A4 m4 c4 := ((d.apart (by rw [s.ok.hok.fl]; omega)).weaken (fun b h => ⟨h.1, fun e => by rw [hTd] at e; have := h.2; omega⟩)).below HA.bel
  obtain ⟨pg, hpg⟩ : ∃ x, v.h.pages = x := ⟨_, rfl⟩
  obtain ⟨la, hla⟩ : ∃ x, v.h.last = x := ⟨_, rfl⟩
  obtain ⟨hd, hhd⟩ : ∃ x, v.held = x := ⟨_, rfl⟩
  obtain ⟨pg', hpg'⟩ : ∃ x, g.pages = x := ⟨_, rfl⟩
  obtain ⟨la', hla'⟩ : ∃ x, g.last = x := ⟨_, rfl⟩
  have hSlt := s.lt
  have CT : Hid (Calls Tryz.prog 54 #[.agg #[.int .i64 pg, .slice A m c, .slice A2 m2 c2, .int .i64 la], .int .i64 a.n, .int .i64 a.order] W0 fun e w1 => ∃ B j1 d1 B2 j2 d2, e = .returned (.tuple #[.agg #[.int .i64 pg', .slice B j1 d1, .slice B2 j2 d2, .int .i64 la'], .agg #[.int .i64 s1, .int .i64 s2, .int .i64 s3, .int .i64 s4], .int .i64 no]) ∧ Hid (Ko w1 (fun b => (¬ S b ∧ D b) ∧ ¬ T b) { v with h := g } B j1 d1 B2 j2 d2 A3 m3 c3 A4 m4 c4) ∧ Hid (Below W0.heap.size W0 w1)) := hidb (by
    have hll := s.ok.hok.len_le
    have := ref_hmake (fun b => (¬ S b ∧ D b) ∧ ¬ T b) v.h _ a.n a.order W0 (fun b hb => ⟨⟨fun c => by have := hSlt b c; have := HA.sz; omega, hD b (by have := HA.sz; omega)⟩, fun e => by rw [hTd] at e; have := HA.sz; omega⟩) hko.hi hn hor s.ok.hok.fl (by omega) ⟨s.ok.hok.la, by have := s.la; omega⟩
    unfold hval at this
    rw [hT, hpg, hla] at this
    refine this.mono ?_
    rintro e w1 ⟨⟨v'', rfl, hv'⟩, hb⟩
    obtain ⟨B, d1, B2, d2, ev, hrest⟩ := hv'
    have k1 := hko.below hb
    refine ⟨B, g.free.length, d1, B2, g.l.length, d2, ?_, hidb ⟨⟨B, d1, B2, d2, rfl, hrest⟩, k1.kr, k1.wr⟩, hidb hb⟩
    rw [ev, ← hpg', ← hla']; rfl)
  have CK : Hid (∀ W2, Below W.heap.size W W2 → Calls Tryz.prog 55 #[.pointer (some ⟨hp, 0, none⟩), .int .i64 a.n, .int .i64 a.order] W2 fun e w3 => e = .returned (.tuple #[.agg #[.int .i64 s1, .int .i64 s2, .int .i64 s3, .int .i64 s4], .int .i64 no]) ∧ ∃ S', Hid (KeepSt w w3 p hp S' { v with h := g } (k + 1) pages ∧ SideK S W2 S' w3)) := hidb (fun W2 hb => (t_khmake (s.below hb) hk a.n a.order hn hor g s1 s2 s3 s4 no hT).mono fun e w3 ⟨x, S', y, z⟩ => ⟨x, S', hidb ⟨y, z⟩⟩)
  have HA0 := HA
  clear HA
  have HA := hidb HA0
  clear HA0
  have HS := hidb hSlt
  have hwW := s.bel.size
  have HO := hidb ho'
  have HW0 := hidb hW0
  have HE := hidb (⟨hpg', hla', hhd⟩ : g.pages = pg' ∧ g.last = la' ∧ v.held = hd)
  obtain ⟨a0, a1, a2, a3, a4⟩ := HA.out.a5 W0 (Below.refl _ _)
  obtain ⟨c0, c1, c2', c3', c4', c5', c6', _⟩ := HA.out.m7
  rw [hpg] at c0
  rw [hla] at c3'
  rw [hhd] at c6'
  rw [hpg, hla, hhd] at HW0
  unfold kval
  have HPL := hidb (⟨hpg, hla⟩ : v.h.pages = pg ∧ v.h.last = la)
  rw [hpg, hla, hhd]
  have hz := HA.out.sz
  have q1 := eqs_span s1 s2 s3 s4 s1 s2 s3 s4
  simp only [decide_true] at q1
  have hd0 : decide (a.kind = 0) = false := decide_eq_false ha0
  have hd1 : decide (a.kind = 1) = false := decide_eq_false ha1
  have hd2 : decide (a.kind = 2) = false := decide_eq_false ha2
  have hd3 : decide (a.kind = 3) = false := decide_eq_false ha3
  clear hW0 s hT ho' hSlt d hpg hla hhd hpg' hla' hn hk hko hor
  go_enter Tryz.func38, Tryz.ntmps38
  go_wp2_with (first
    | (go_at_call 54; go_loud (rw [← HW0.out]); (with_reducible refine CT.out.mono ?_); rintro e w1 ⟨B, j1, d1, B2, j2, d2, rfl, HK1, HB1⟩; obtain ⟨a0, a1, a2, a3, a4⟩ := HA.out.a5 w1 HB1.out; have hw1 := HB1.out.size; have hlt1 : W.heap.size + 1 < w1.heap.size := (by omega); have hlt0 : W.heap.size < w1.heap.size := (by omega))
    | (go_at_call 55; (with_reducible refine (CK.out _ (by repeat (first | exact HA.out.bel.trans (HB1.out.mono HA.out.bel.size) | refine Below.alloc ?_ (by first | omega | (simp; done) | (simp; omega)) _))).mono ?_); rintro e w3 ⟨rfl, S3, HS3⟩; obtain ⟨W2, hW2⟩ : ∃ W2, W2 = (w1.alloc (.cells #[.int .i64 pg', .slice B j1 d1, .slice B2 j2 d2, .int .i64 la'] 32)).alloc (.cells #[.int .i64 s1, .int .i64 s2, .int .i64 s3, .int .i64 s4] 50) := ⟨_, rfl⟩; rw [← hW2] at HS3; have hz2 : W2.heap.size = w1.heap.size + 2 := (by rw [hW2]; simp); have hb12 : Below w1.heap.size w1 W2 := (by rw [hW2]; exact ((Below.refl _ _).alloc (Nat.le_refl _) _).alloc (by simp) _); have hnS : ∀ b, W.heap.size ≤ b → ¬ S b := (fun b hb c => by have := HS.out b c; omega);
        have h3m := HS3.out.2.f7 ((HA.out.m7.below HB1.out).below hb12) (hnS _ (Nat.le_refl _)); have h3h := HS3.out.2.f4 (b := w1.heap.size) (by rw [hW2]; exact (F4.made w1 _ _ _ _ _).al _) (hnS _ (by omega)); obtain ⟨m0, m1, m2', m3', m4', m5, m6, mf⟩ := h3m; obtain ⟨k0, k1, k2, k3, _⟩ := h3h; have mf0 := mf 0; have mf1 := mf 1; have mf2 := mf 2; have mf3 := mf 3; have hz3 := HS3.out.2.1.size; have hlt3 : W.heap.size < w3.heap.size := (by omega); have hlt4 : w1.heap.size < w3.heap.size := (by omega); clear mf))
  have hB2 : Below W.heap.size W W2 := (HA.out.bel.trans (HB1.out.mono HA.out.bel.size)).trans (hb12.mono (by omega))
  obtain ⟨W4, hW4⟩ : ∃ W4, W4 = (set4 w3 W.heap.size (.int .i64 pg') (.slice B j1 d1) (.slice B2 j2 d2) (.int .i64 la')).alloc (.cells #[.int .i64 s1, .int .i64 s2, .int .i64 s3, .int .i64 s4] 50) := ⟨_, rfl⟩
  have hW5 := hW4
  unfold set4 at hW5
  rw [← hW5]
  clear hW5
  have hs5 : (set4 w3 W.heap.size (.int .i64 pg') (.slice B j1 d1) (.slice B2 j2 d2) (.int .i64 la')).heap.size = w3.heap.size := by unfold set4; simp
  have f10 : F7 W4 W.heap.size (.int .i64 pg') (.slice B j1 d1) (.slice B2 j2 d2) (.int .i64 la') (.slice A3 m3 c3) (.slice A4 m4 c4) (.bool hd) := by
    have := (((HS3.out.2.f7 ((HA.out.m7.below HB1.out).below hb12) (hnS _ (Nat.le_refl _))).set4_ (.int .i64 pg') (.slice B j1 d1) (.slice B2 j2 d2) (.int .i64 la')).al (.cells #[.int .i64 s1, .int .i64 s2, .int .i64 s3, .int .i64 s4] 50))
    rw [HE.out.2.2, ← hW4] at this
    exact this
  have f11 : F4 W4 (w1.heap.size + 1) (.int .i64 s1) (.int .i64 s2) (.int .i64 s3) (.int .i64 s4) := by
    have h1 := F4.made (w1.alloc (.cells #[.int .i64 pg', .slice B j1 d1, .slice B2 j2 d2, .int .i64 la'] 32)) (.int .i64 s1) (.int .i64 s2) (.int .i64 s3) (.int .i64 s4) 50
    rw [World.size_alloc, ← hW2] at h1
    have := ((HS3.out.2.f4 h1 (hnS _ (by omega))).aside4 (b' := W.heap.size) (by omega) (.int .i64 pg') (.slice B j1 d1) (.slice B2 j2 d2) (.int .i64 la')).al (.cells #[.int .i64 s1, .int .i64 s2, .int .i64 s3, .int .i64 s4] 50)
    rw [← hW4] at this
    exact this
  have f13 : F4 W4 w3.heap.size (.int .i64 s1) (.int .i64 s2) (.int .i64 s3) (.int .i64 s4) := by
    have := F4.made (set4 w3 W.heap.size (.int .i64 pg') (.slice B j1 d1) (.slice B2 j2 d2) (.int .i64 la')) (.int .i64 s1) (.int .i64 s2) (.int .i64 s3) (.int .i64 s4) 50
    rw [hs5, ← hW4] at this
    exact this
  have f9 : F7 W4 (W.heap.size + 1 + 1) (.int .i64 0) (.slice none 0 0) (.slice none 0 0) (.int .i64 0) (.slice none 0 0) (.slice none 0 0) (.bool false) := by
    have := ((HS3.out.2.f7 ((HA.out.r7.below HB1.out).below hb12) (hnS _ (by omega))).aside4 (b' := W.heap.size) (by omega) (.int .i64 pg') (.slice B j1 d1) (.slice B2 j2 d2) (.int .i64 la')).al (.cells #[.int .i64 s1, .int .i64 s2, .int .i64 s3, .int .i64 s4] 50)
    rw [← hW4] at this
    exact this
  have HE9 := hidb (f9.put (.int .i64 pg') (.slice B j1 d1) (.slice B2 j2 d2) (.int .i64 la') (.slice A3 m3 c3) (.slice A4 m4 c4) (.bool hd))
  have HEND : Hid (DoesTo w W p hp S D { h := g, kept := v.kept, waits := v.waits, held := hd } (k + 1) pages (.returned (.tuple #[.bool true, .agg #[.int .i64 pg', .slice B j1 d1, .slice B2 j2 d2, .int .i64 la', .slice A3 m3 c3, .slice A4 m4 c4, .bool hd]])) (set7 W4 (W.heap.size + 1 + 1) (.int .i64 pg') (.slice B j1 d1) (.slice B2 j2 d2) (.int .i64 la') (.slice A3 m3 c3) (.slice A4 m4 c4) (.bool hd)).drew) := hidb (by
    have hK : Kept T w3 (set7 W4 (W.heap.size + 1 + 1) (.int .i64 pg') (.slice B j1 d1) (.slice B2 j2 d2) (.int .i64 la') (.slice A3 m3 c3) (.slice A4 m4 c4) (.bool hd)).drew := by
      rw [hW4]
      exact Kept.drew (kept_set7 (kept_al (kept_put4 (Kept.refl _ _) (Or.inl (by rw [hTd]; exact ⟨by omega, by omega⟩)) _ _ _ _) _) (Or.inl (by rw [hTd]; exact ⟨by omega, by omega⟩)) _ _ _ _ _ _ _)
    have := does_end2 (T := T) hB2 (fun b hb => by rw [hTd] at hb; omega) HS.out hwW (HK1.out.below hb12) (by rw [HO.out.hok.fl]; omega) HS3.out.1 HS3.out.2 (Below.refl _ _) hK HE.out.1 HE.out.2.1 HE.out.2.2
    have e3 := HE.out.2.2
    subst e3
    exact this)
  obtain ⟨x0, x1, x2, x3, x4, x5, x6, _⟩ := f10
  obtain ⟨y0, y1, y2, y3, _⟩ := f11
  obtain ⟨z0, z1, z2, z3, _⟩ := f13
  obtain ⟨r0, r1, r2, r3, r4, r5, r6, rf⟩ := f9
  have rf0 := rf 0
  have rf1 := rf 1
  have rf2 := rf 2
  have rf3 := rf 3
  have rf4 := rf 4
  have rf5 := rf 5
  have rf6 := rf 6
  have nn1 : ¬ W.heap.size + 1 + 1 = w1.heap.size := by omega
  have nn2 : ¬ W.heap.size + 1 + 1 = w1.heap.size + 1 := by omega
  have nn3 : ¬ W.heap.size + 1 + 1 = w3.heap.size := by omega
  have nn4 : ¬ W.heap.size + 1 = w1.heap.size := by omega
  have nn5 : ¬ w1.heap.size = W.heap.size + 1 + 1 := by omega
  have nn6 : ¬ w1.heap.size = W.heap.size + 1 := by omega
  have nn8 : ¬ W.heap.size + 1 + 1 = W.heap.size := by omega
  have nn9 : ¬ W.heap.size = W.heap.size + 1 + 1 := by omega
  have nn7 : ¬ w3.heap.size = W.heap.size + 1 + 1 := by omega
  clear hW2 hW4 hb12 hz2 hB2 hz3 hs5 rf CT CK HS3 HK1 HB1 a0 a1 a2 a3 a4 c0 c1 c2' c3' c4' c5' c6' hnS m0 m1 m2' m3' m4' m5 m6 k0 k1 k2 k3 mf0 mf1 mf2 mf3 hd0 hd1 hd2 hd3
  go_region_held3 (fun W' => W'.cell? ⟨W.heap.size, 0, none⟩ = some (.int .i64 pg') ∧ W'.cell? ⟨W.heap.size, 1, none⟩ = some (.slice B j1 d1) ∧ W'.cell? ⟨W.heap.size, 2, none⟩ = some (.slice B2 j2 d2) ∧ W'.cell? ⟨W.heap.size, 3, none⟩ = some (.int .i64 la') ∧ W'.cell? ⟨W.heap.size, 4, none⟩ = some (.slice A3 m3 c3) ∧ W'.cell? ⟨W.heap.size, 5, none⟩ = some (.slice A4 m4 c4) ∧ W'.cell? ⟨W.heap.size, 6, none⟩ = some (.bool hd) ∧ W'.cell? ⟨(w1.heap.size + 1), 0, none⟩ = some (.int .i64 s1) ∧ W'.cell? ⟨(w1.heap.size + 1), 1, none⟩ = some (.int .i64 s2) ∧ W'.cell? ⟨(w1.heap.size + 1), 2, none⟩ = some (.int .i64 s3) ∧ W'.cell? ⟨(w1.heap.size + 1), 3, none⟩ = some (.int .i64 s4) ∧ W'.cell? ⟨w3.heap.size, 0, none⟩ = some (.int .i64 s1) ∧ W'.cell? ⟨w3.heap.size, 1, none⟩ = some (.int .i64 s2) ∧ W'.cell? ⟨w3.heap.size, 2, none⟩ = some (.int .i64 s3) ∧ W'.cell? ⟨w3.heap.size, 3, none⟩ = some (.int .i64 s4)) (go_keep) (fail)
  go_wp2
  obtain ⟨b0, b1, b2, b3, b4, b5, b6, _⟩ := HE9.out
  unfold set7 at b0 b1 b2 b3 b4 b5 b6
  refine bodyPost_ret (v := .tuple #[.bool true, .agg #[.int .i64 pg', .slice B j1 d1, .slice B2 j2 d2, .int .i64 la', .slice A3 m3 c3, .slice A4 m4 c4, .bool hd]]) (by simp [results, Tryz.results38, go_sem, b0, b1, b2, b3, b4, b5, b6]) rfl ?_
  exact HEND.out

end Go.Proofs.YtonmkanppapjjaaGreat
