/- What an act of layer 10's does: Give, Hold, Flush. -/
import Derived.Test.YtonmkanppapjjaaGreatLargeDoes0
import Derived.Deep.RegionHeld3
namespace Go.Proofs.YtonmkanppapjjaaGreat
open Go.RowKit Go.Maps
set_option linter.unusedVariables false

set_option maxRecDepth 100000 in
set_option maxHeartbeats 4000000 in
theorem does_give {w W : World} {p hp : Nat} {S D : Nat → Prop} {v : LargeV} {k : Nat} {pages : Int} {mv : Value} (hD : ∀ b, W.heap.size ≤ b → D b) (s : KeepSt w W p hp S v k pages) (hk : k + 1 ≤ 1000000000) (d : KoIs W (fun b => ¬ S b ∧ D b) v mv) (a : Act10) (ha : a.kind = 1) (hs : Sl W W.heap.size a.A a.len (a.ids.map iv)) (hN : a.len ≤ 60000) (hNc : a.len ≤ a.cap ∧ a.cap ≤ 9223372036854775807) (hid : ∀ i ∈ a.ids, in64 i) :
    Calls Tryz.prog 38 #[.pointer (some ⟨hp, 0, none⟩), .pointer (some ⟨p, 0, none⟩), mv, .agg #[.int .i64 a.kind, .int .i64 a.n, .int .i64 a.order, .bool a.on, .slice a.A a.len a.cap]] W (DoesTo w W p hp S D (kStep v a) (k + 1) pages) := by
  obtain ⟨A, m, c, A2, m2, c2, A3, m3, c3, A4, m4, c4, rfl, d⟩ := d
  obtain ⟨W0, hW0⟩ : ∃ W0, W0 = (((W.alloc (.cells #[.int .i64 v.h.pages, .slice A m c, .slice A2 m2 c2, .int .i64 v.h.last, .slice A3 m3 c3, .slice A4 m4 c4, .bool v.held] 76)).alloc (.cells #[.int .i64 a.kind, .int .i64 a.n, .int .i64 a.order, .bool a.on, .slice a.A a.len a.cap] 78)).alloc (.cells #[.int .i64 0, .slice none 0 0, .slice none 0 0, .int .i64 0, .slice none 0 0, .slice none 0 0, .bool false] 76)) := ⟨_, rfl⟩
  have HA0 := ActSt.start s a d 76 78 76
  rw [← hW0] at HA0
  rw [kStep_1 ha]
  have ho' := s.ok.step a
  rw [kStep_1 ha] at ho'
  obtain ⟨⟨v', no⟩, hT⟩ : ∃ r, lGive v a.ids = r := ⟨_, rfl⟩
  rw [hT] at ho' ⊢
  have HSI := hidb hs
  obtain ⟨pg, hpg⟩ : ∃ x, v.h.pages = x := ⟨_, rfl⟩
  obtain ⟨la, hla⟩ : ∃ x, v.h.last = x := ⟨_, rfl⟩
  obtain ⟨hd, hhd⟩ : ∃ x, v.held = x := ⟨_, rfl⟩
  obtain ⟨pg', hpg'⟩ : ∃ x, v'.h.pages = x := ⟨_, rfl⟩
  obtain ⟨la', hla'⟩ : ∃ x, v'.h.last = x := ⟨_, rfl⟩
  obtain ⟨hd', hhd'⟩ : ∃ x, v'.held = x := ⟨_, rfl⟩
  have hSlt := s.lt
  have CT : Hid (Calls Tryz.prog 89 #[.agg #[.int .i64 pg, .slice A m c, .slice A2 m2 c2, .int .i64 la, .slice A3 m3 c3, .slice A4 m4 c4, .bool hd], .slice a.A a.len a.cap] W0 fun e w1 => ∃ B j1 d1 B2 j2 d2 B3 j3 d3 B4 j4 d4, e = .returned (.tuple #[.agg #[.int .i64 pg', .slice B j1 d1, .slice B2 j2 d2, .int .i64 la', .slice B3 j3 d3, .slice B4 j4 d4, .bool hd'], .int .i64 no]) ∧ Hid (Ko w1 (fun b => (¬ S b ∧ D b) ∧ W.heap.size + 2 ≠ b) v' B j1 d1 B2 j2 d2 B3 j3 d3 B4 j4 d4) ∧ Hid (Below W0.heap.size W0 w1)) := hidb (by
    have hPP : ∀ b, W0.heap.size ≤ b → ((¬ S b ∧ D b) ∧ W.heap.size + 2 ≠ b) := fun b hb => ⟨⟨fun c => by have := hSlt b c; have := HA0.sz; omega, hD b (by have := HA0.sz; omega)⟩, by have := HA0.sz; omega⟩
    have hlb : v.h.last ≤ 1000000000 := by have := s.la; omega
    have := ref_kgive (fun b => (¬ S b ∧ D b) ∧ W.heap.size + 2 ≠ b) v _ a.A a.len a.cap a.ids W0 hPP HA0.ko.isv s.ok hlb ((hs.below HA0.bel).more HA0.bel.size) hN hNc hid
    rw [hT] at this
    unfold kval at this
    rw [hpg, hla, hhd] at this
    refine this.mono ?_
    rintro e w1 ⟨v'', rfl, ⟨B, j1, d1, B2, j2, d2, B3, j3, d3, B4, j4, d4, rfl, k1⟩, hb⟩
    refine ⟨B, j1, d1, B2, j2, d2, B3, j3, d3, B4, j4, d4, ?_, hidb k1, hidb hb⟩
    unfold kval
    rw [hpg', hla', hhd'])
  have CK : Hid (∀ W2, Below W.heap.size W W2 → Calls Tryz.prog 36 #[.pointer (some ⟨p, 0, none⟩), .slice a.A a.len a.cap] W2 fun e w3 => e = .returned (.int .i64 no) ∧ ∃ S', Hid (KeepSt w w3 p hp S' v' (k + 1) pages ∧ SideK S W2 S' w3)) := hidb (fun W2 hb => (t_kgive (s.below hb) a.A a.len a.cap a.ids ((hs.below hb).more hb.size) hN hid v' no hT).mono fun e w3 ⟨x, S', y, z⟩ => ⟨x, S', hidb ⟨y.later (by omega), z⟩⟩)
  have HA := hidb HA0
  have HS := hidb hSlt
  have hwW := s.bel.size
  have HO := hidb ho'
  have HW0 := hidb hW0
  have HE := hidb (⟨hpg', hla', hhd'⟩ : v'.h.pages = pg' ∧ v'.h.last = la' ∧ v'.held = hd')
  obtain ⟨a0, a1, a2, a3, a4⟩ := HA.out.a5 W0 (Below.refl _ _)
  obtain ⟨c0, c1, c2', c3', c4', c5', c6', _⟩ := HA.out.m7
  rw [hpg] at c0
  rw [hla] at c3'
  rw [hhd] at c6'
  rw [hpg, hla, hhd] at HW0
  unfold kval
  rw [hpg, hla, hhd]
  rw [ha] at HW0 a0 ⊢
  have hz := HA.out.sz
  clear HA0 hW0 s ho' hSlt d hpg hla hpg' hla' hhd' hk hT hs hN hNc hid hhd
  go_enter Tryz.func38, Tryz.ntmps38
  go_wp2_with (first
    | (go_at_call 89; go_loud (rw [← HW0.out]); (with_reducible refine CT.out.mono ?_); rintro e w1 ⟨B, j1, d1, B2, j2, d2, B3, j3, d3, B4, j4, d4, rfl, HK1, HB1⟩; have hw1 := HB1.out.size; clear a0 a1 a2 a3 a4 c0 c1 c2' c3' c4' c5' c6'))
  have hnS : ∀ b, W.heap.size ≤ b → ¬ S b := fun b hb c => by have := HS.out b c; omega
  obtain ⟨W2, hW2⟩ : ∃ W2, W2 = w1.alloc (.cells #[.int .i64 pg', .slice B j1 d1, .slice B2 j2 d2, .int .i64 la', .slice B3 j3 d3, .slice B4 j4 d4, .bool hd'] 76) := ⟨_, rfl⟩
  rw [← hW2]
  have hb12 : Below w1.heap.size w1 W2 := by rw [hW2]; exact (Below.refl _ _).alloc (Nat.le_refl _) _
  have hz2 : W2.heap.size = w1.heap.size + 1 := by rw [hW2]; simp
  have hB2 : Below W.heap.size W W2.drew := ((HA.out.bel.trans (HB1.out.mono HA.out.bel.size)).trans (hb12.mono (by omega))).drew
  have g10 : F7 W2 w1.heap.size (.int .i64 pg') (.slice B j1 d1) (.slice B2 j2 d2) (.int .i64 la') (.slice B3 j3 d3) (.slice B4 j4 d4) (.bool hd') := by rw [hW2]; exact F7.made w1 _ _ _ _ _ _ _ _
  have g9 : F7 W2 (W.heap.size + 1 + 1) (.int .i64 0) (.slice none 0 0) (.slice none 0 0) (.int .i64 0) (.slice none 0 0) (.slice none 0 0) (.bool false) := (HA.out.r7.below HB1.out).below hb12
  have hb02 : Below W0.heap.size W0 W2 := HB1.out.trans (hb12.mono hw1)
  have CK2 : Hid (Calls Tryz.prog 36 #[.pointer (some ⟨p, 0, none⟩), .slice a.A a.len a.cap] W2.drew fun e w3 => e = .returned (.int .i64 no) ∧ F7 w3 w1.heap.size (.int .i64 pg') (.slice B j1 d1) (.slice B2 j2 d2) (.int .i64 la') (.slice B3 j3 d3) (.slice B4 j4 d4) (.bool hd') ∧ F7 w3 (W.heap.size + 1 + 1) (.int .i64 0) (.slice none 0 0) (.slice none 0 0) (.int .i64 0) (.slice none 0 0) (.slice none 0 0) (.bool false) ∧ w3.cell? ⟨W.heap.size + 1, 4, none⟩ = some (.slice a.A a.len a.cap) ∧
      Hid (∀ WF, Kept (fun b => W.heap.size + 2 = b) w3 WF → DoesTo w W p hp S D v' (k + 1) pages (.returned (.tuple #[.bool true, .agg #[.int .i64 pg', .slice B j1 d1, .slice B2 j2 d2, .int .i64 la', .slice B3 j3 d3, .slice B4 j4 d4, .bool hd']])) WF)) := hidb ((CK.out _ hB2).mono (by
    rintro e w3 ⟨rfl, S3, HS3⟩
    have hz3 := HS3.out.2.1.size
    refine ⟨rfl, HS3.out.2.f7 (g10.below (Below.refl _ _).drew) (hnS _ (by omega)), HS3.out.2.f7 (g9.below (Below.refl _ _).drew) (hnS _ (by omega)), (World.cell?_of_block (w := W2.drew) (a := ⟨W.heap.size + 1, 4, none⟩) (HS3.out.2.1.block (W.heap.size + 1) (by show _ < W2.heap.size; omega) (hnS _ (by omega)))).trans (by have := HA.out.a5 W2 hb02; exact this.2.2.2.2), hidb (fun WF hK => ?_)⟩
    exact does_end hB2 (by show _ < W2.heap.size; omega) HS.out hwW ((HK1.out.below hb12).below (Below.refl _ _).drew) (by rw [HO.out.hok.fl]; omega) HS3.out.1 HS3.out.2 (Below.refl _ _) hK HE.out.1 HE.out.2.1 HE.out.2.2))
  obtain ⟨a0, a1, a2, a3, a4⟩ := HA.out.a5 W2 hb02
  obtain ⟨x0, x1, x2, x3, x4, x5, x6, _⟩ := g10
  obtain ⟨r0, r1, r2, r3, r4, r5, r6, rf⟩ := g9
  have rf0 := rf 0
  have rf1 := rf 1
  have rf2 := rf 2
  have rf3 := rf 3
  have rf4 := rf 4
  have rf5 := rf 5
  have rf6 := rf 6
  have nn1 : ¬ W.heap.size + 1 + 1 = w1.heap.size := by omega
  have nn4 : ¬ W.heap.size + 1 = w1.heap.size := by omega
  have nn5 : ¬ w1.heap.size = W.heap.size + 1 + 1 := by omega
  have nn6 : ¬ w1.heap.size = W.heap.size + 1 := by omega
  clear hW2 hb12 hz2 hB2 rf CT CK HK1 HB1 hnS hb02
  go_region_held3 (fun W' => W'.cell? ⟨w1.heap.size, 0, none⟩ = some (.int .i64 pg') ∧ W'.cell? ⟨w1.heap.size, 1, none⟩ = some (.slice B j1 d1) ∧ W'.cell? ⟨w1.heap.size, 2, none⟩ = some (.slice B2 j2 d2) ∧ W'.cell? ⟨w1.heap.size, 3, none⟩ = some (.int .i64 la') ∧ W'.cell? ⟨w1.heap.size, 4, none⟩ = some (.slice B3 j3 d3) ∧ W'.cell? ⟨w1.heap.size, 5, none⟩ = some (.slice B4 j4 d4) ∧ W'.cell? ⟨w1.heap.size, 6, none⟩ = some (.bool hd') ∧ W'.cell? ⟨W.heap.size + 1, 4, none⟩ = some (.slice a.A a.len a.cap)) (go_keep)
    (first | (go_at_call 36; (with_reducible refine CK2.out.mono ?_); rintro e w3 ⟨rfl, ⟨y0, y1, y2, y3, y4, y5, y6, _⟩, t9, y7, HEND⟩; have HE9 := hidb (t9.put (.int .i64 pg') (.slice B j1 d1) (.slice B2 j2 d2) (.int .i64 la') (.slice B3 j3 d3) (.slice B4 j4 d4) (.bool hd')); obtain ⟨u0, u1, u2, u3, u4, u5, u6, uf⟩ := t9; have uf0 := uf 0; have uf1 := uf 1; have uf2 := uf 2; have uf3 := uf 3; have uf4 := uf 4; have uf5 := uf 5; have uf6 := uf 6; clear uf))
  go_wp2
  obtain ⟨b0, b1, b2, b3, b4, b5, b6, _⟩ := HE9.out
  unfold set7 at b0 b1 b2 b3 b4 b5 b6
  refine bodyPost_ret (v := .tuple #[.bool true, .agg #[.int .i64 pg', .slice B j1 d1, .slice B2 j2 d2, .int .i64 la', .slice B3 j3 d3, .slice B4 j4 d4, .bool hd']]) (by simp [results, Tryz.results38, go_sem, b0, b1, b2, b3, b4, b5, b6]) rfl ?_
  first
    | exact HEND.out _ (kept_set7 (Kept.refl _ _) (Or.inl rfl) _ _ _ _ _ _ _)
    | exact HEND.out _ (Kept.drew (kept_set7 (Kept.refl _ _) (Or.inl rfl) _ _ _ _ _ _ _))

set_option maxRecDepth 100000 in
set_option maxHeartbeats 4000000 in
theorem does_hold {w W : World} {p hp : Nat} {S D : Nat → Prop} {v : LargeV} {k : Nat} {pages : Int} {mv : Value} (hD : ∀ b, W.heap.size ≤ b → D b) (s : KeepSt w W p hp S v k pages) (hk : k + 1 ≤ 1000000000) (d : KoIs W (fun b => ¬ S b ∧ D b) v mv) (a : Act10) (ha : a.kind = 2) :
    Calls Tryz.prog 38 #[.pointer (some ⟨hp, 0, none⟩), .pointer (some ⟨p, 0, none⟩), mv, .agg #[.int .i64 a.kind, .int .i64 a.n, .int .i64 a.order, .bool a.on, .slice a.A a.len a.cap]] W (DoesTo w W p hp S D (kStep v a) (k + 1) pages) := by
  obtain ⟨A, m, c, A2, m2, c2, A3, m3, c3, A4, m4, c4, rfl, d⟩ := d
  obtain ⟨W0, hW0⟩ : ∃ W0, W0 = (((W.alloc (.cells #[.int .i64 v.h.pages, .slice A m c, .slice A2 m2 c2, .int .i64 v.h.last, .slice A3 m3 c3, .slice A4 m4 c4, .bool v.held] 76)).alloc (.cells #[.int .i64 a.kind, .int .i64 a.n, .int .i64 a.order, .bool a.on, .slice a.A a.len a.cap] 78)).alloc (.cells #[.int .i64 0, .slice none 0 0, .slice none 0 0, .int .i64 0, .slice none 0 0, .slice none 0 0, .bool false] 76)) := ⟨_, rfl⟩
  have HA0 := ActSt.start s a d 76 78 76
  rw [← hW0] at HA0
  rw [kStep_2 ha]
  have ho' := s.ok.step a
  rw [kStep_2 ha] at ho'
  obtain ⟨v', hT⟩ : ∃ r, lHold v a.on = r := ⟨_, rfl⟩
  rw [hT] at ho' ⊢
  obtain ⟨pg, hpg⟩ : ∃ x, v.h.pages = x := ⟨_, rfl⟩
  obtain ⟨la, hla⟩ : ∃ x, v.h.last = x := ⟨_, rfl⟩
  obtain ⟨hd, hhd⟩ : ∃ x, v.held = x := ⟨_, rfl⟩
  obtain ⟨pg', hpg'⟩ : ∃ x, v'.h.pages = x := ⟨_, rfl⟩
  obtain ⟨la', hla'⟩ : ∃ x, v'.h.last = x := ⟨_, rfl⟩
  obtain ⟨hd', hhd'⟩ : ∃ x, v'.held = x := ⟨_, rfl⟩
  have hSlt := s.lt
  have CT : Hid (Calls Tryz.prog 90 #[.agg #[.int .i64 pg, .slice A m c, .slice A2 m2 c2, .int .i64 la, .slice A3 m3 c3, .slice A4 m4 c4, .bool hd], .bool a.on] W0 fun e w1 => ∃ B j1 d1 B2 j2 d2 B3 j3 d3 B4 j4 d4, e = .returned (.tuple #[.agg #[.int .i64 pg', .slice B j1 d1, .slice B2 j2 d2, .int .i64 la', .slice B3 j3 d3, .slice B4 j4 d4, .bool hd'], .bool hd]) ∧ Hid (Ko w1 (fun b => (¬ S b ∧ D b) ∧ W.heap.size + 2 ≠ b) v' B j1 d1 B2 j2 d2 B3 j3 d3 B4 j4 d4) ∧ Hid (Below W0.heap.size W0 w1)) := hidb (by
    have hPP : ∀ b, W0.heap.size ≤ b → ((¬ S b ∧ D b) ∧ W.heap.size + 2 ≠ b) := fun b hb => ⟨⟨fun c => by have := hSlt b c; have := HA0.sz; omega, hD b (by have := HA0.sz; omega)⟩, by have := HA0.sz; omega⟩
    have hlb : v.h.last ≤ 1000000000 := by have := s.la; omega
    have := ref_khold (fun b => (¬ S b ∧ D b) ∧ W.heap.size + 2 ≠ b) v _ a.on W0 hPP HA0.ko.isv s.ok s.ok.few hlb
    rw [hT] at this
    unfold kval at this
    rw [hpg, hla, hhd] at this
    refine this.mono ?_
    rintro e w1 ⟨v'', rfl, ⟨B, j1, d1, B2, j2, d2, B3, j3, d3, B4, j4, d4, rfl, k1⟩, hb⟩
    refine ⟨B, j1, d1, B2, j2, d2, B3, j3, d3, B4, j4, d4, ?_, hidb k1, hidb hb⟩
    unfold kval
    rw [hpg', hla', hhd'])
  have CK : Hid (∀ W2, Below W.heap.size W W2 → Calls Tryz.prog 35 #[.pointer (some ⟨p, 0, none⟩), .bool a.on] W2 fun e w3 => e = .returned (.bool hd) ∧ ∃ S', Hid (KeepSt w w3 p hp S' v' (k + 1) pages ∧ SideK S W2 S' w3)) := hidb (fun W2 hb => (t_khold (s.below hb) a.on v' hd hT hhd).mono fun e w3 ⟨x, S', y, z⟩ => ⟨x, S', hidb ⟨y.later (by omega), z⟩⟩)
  have HA := hidb HA0
  have HS := hidb hSlt
  have hwW := s.bel.size
  have HO := hidb ho'
  have HW0 := hidb hW0
  have HE := hidb (⟨hpg', hla', hhd'⟩ : v'.h.pages = pg' ∧ v'.h.last = la' ∧ v'.held = hd')
  obtain ⟨a0, a1, a2, a3, a4⟩ := HA.out.a5 W0 (Below.refl _ _)
  obtain ⟨c0, c1, c2', c3', c4', c5', c6', _⟩ := HA.out.m7
  rw [hpg] at c0
  rw [hla] at c3'
  rw [hhd] at c6'
  rw [hpg, hla, hhd] at HW0
  unfold kval
  rw [hpg, hla, hhd]
  rw [ha] at HW0 a0 ⊢
  have hz := HA.out.sz
  clear HA0 hW0 s ho' hSlt d hpg hla hpg' hla' hhd' hk hT hhd
  go_enter Tryz.func38, Tryz.ntmps38
  go_wp2_with (first
    | (go_at_call 90; go_loud (rw [← HW0.out]); (with_reducible refine CT.out.mono ?_); rintro e w1 ⟨B, j1, d1, B2, j2, d2, B3, j3, d3, B4, j4, d4, rfl, HK1, HB1⟩; have hw1 := HB1.out.size; clear a0 a1 a2 a3 a4 c0 c1 c2' c3' c4' c5' c6'))
  have hnS : ∀ b, W.heap.size ≤ b → ¬ S b := fun b hb c => by have := HS.out b c; omega
  obtain ⟨W2, hW2⟩ : ∃ W2, W2 = w1.alloc (.cells #[.int .i64 pg', .slice B j1 d1, .slice B2 j2 d2, .int .i64 la', .slice B3 j3 d3, .slice B4 j4 d4, .bool hd'] 76) := ⟨_, rfl⟩
  rw [← hW2]
  have hb12 : Below w1.heap.size w1 W2 := by rw [hW2]; exact (Below.refl _ _).alloc (Nat.le_refl _) _
  have hz2 : W2.heap.size = w1.heap.size + 1 := by rw [hW2]; simp
  have hB2 : Below W.heap.size W W2.drew := ((HA.out.bel.trans (HB1.out.mono HA.out.bel.size)).trans (hb12.mono (by omega))).drew
  have g10 : F7 W2 w1.heap.size (.int .i64 pg') (.slice B j1 d1) (.slice B2 j2 d2) (.int .i64 la') (.slice B3 j3 d3) (.slice B4 j4 d4) (.bool hd') := by rw [hW2]; exact F7.made w1 _ _ _ _ _ _ _ _
  have g9 : F7 W2 (W.heap.size + 1 + 1) (.int .i64 0) (.slice none 0 0) (.slice none 0 0) (.int .i64 0) (.slice none 0 0) (.slice none 0 0) (.bool false) := (HA.out.r7.below HB1.out).below hb12
  have hb02 : Below W0.heap.size W0 W2 := HB1.out.trans (hb12.mono hw1)
  have CK2 : Hid (Calls Tryz.prog 35 #[.pointer (some ⟨p, 0, none⟩), .bool a.on] W2.drew fun e w3 => e = .returned (.bool hd) ∧ F7 w3 w1.heap.size (.int .i64 pg') (.slice B j1 d1) (.slice B2 j2 d2) (.int .i64 la') (.slice B3 j3 d3) (.slice B4 j4 d4) (.bool hd') ∧ F7 w3 (W.heap.size + 1 + 1) (.int .i64 0) (.slice none 0 0) (.slice none 0 0) (.int .i64 0) (.slice none 0 0) (.slice none 0 0) (.bool false) ∧ w3.cell? ⟨W.heap.size + 1, 3, none⟩ = some (.bool a.on) ∧
      Hid (∀ WF, Kept (fun b => W.heap.size + 2 = b) w3 WF → DoesTo w W p hp S D v' (k + 1) pages (.returned (.tuple #[.bool true, .agg #[.int .i64 pg', .slice B j1 d1, .slice B2 j2 d2, .int .i64 la', .slice B3 j3 d3, .slice B4 j4 d4, .bool hd']])) WF)) := hidb ((CK.out _ hB2).mono (by
    rintro e w3 ⟨rfl, S3, HS3⟩
    have hz3 := HS3.out.2.1.size
    refine ⟨rfl, HS3.out.2.f7 (g10.below (Below.refl _ _).drew) (hnS _ (by omega)), HS3.out.2.f7 (g9.below (Below.refl _ _).drew) (hnS _ (by omega)), (World.cell?_of_block (w := W2.drew) (a := ⟨W.heap.size + 1, 3, none⟩) (HS3.out.2.1.block (W.heap.size + 1) (by show _ < W2.heap.size; omega) (hnS _ (by omega)))).trans (by have := HA.out.a5 W2 hb02; exact this.2.2.2.1), hidb (fun WF hK => ?_)⟩
    exact does_end hB2 (by show _ < W2.heap.size; omega) HS.out hwW ((HK1.out.below hb12).below (Below.refl _ _).drew) (by rw [HO.out.hok.fl]; omega) HS3.out.1 HS3.out.2 (Below.refl _ _) hK HE.out.1 HE.out.2.1 HE.out.2.2))
  obtain ⟨a0, a1, a2, a3, a4⟩ := HA.out.a5 W2 hb02
  obtain ⟨x0, x1, x2, x3, x4, x5, x6, _⟩ := g10
  obtain ⟨r0, r1, r2, r3, r4, r5, r6, rf⟩ := g9
  have rf0 := rf 0
  have rf1 := rf 1
  have rf2 := rf 2
  have rf3 := rf 3
  have rf4 := rf 4
  have rf5 := rf 5
  have rf6 := rf 6
  have nn1 : ¬ W.heap.size + 1 + 1 = w1.heap.size := by omega
  have nn4 : ¬ W.heap.size + 1 = w1.heap.size := by omega
  have nn5 : ¬ w1.heap.size = W.heap.size + 1 + 1 := by omega
  have nn6 : ¬ w1.heap.size = W.heap.size + 1 := by omega
  clear hW2 hb12 hz2 hB2 rf CT CK HK1 HB1 hnS hb02
  go_region_held3 (fun W' => W'.cell? ⟨w1.heap.size, 0, none⟩ = some (.int .i64 pg') ∧ W'.cell? ⟨w1.heap.size, 1, none⟩ = some (.slice B j1 d1) ∧ W'.cell? ⟨w1.heap.size, 2, none⟩ = some (.slice B2 j2 d2) ∧ W'.cell? ⟨w1.heap.size, 3, none⟩ = some (.int .i64 la') ∧ W'.cell? ⟨w1.heap.size, 4, none⟩ = some (.slice B3 j3 d3) ∧ W'.cell? ⟨w1.heap.size, 5, none⟩ = some (.slice B4 j4 d4) ∧ W'.cell? ⟨w1.heap.size, 6, none⟩ = some (.bool hd') ∧ W'.cell? ⟨W.heap.size + 1, 3, none⟩ = some (.bool a.on)) (go_keep)
    (first | (go_at_call 35; (with_reducible refine CK2.out.mono ?_); rintro e w3 ⟨rfl, ⟨y0, y1, y2, y3, y4, y5, y6, _⟩, t9, y7, HEND⟩; have HE9 := hidb (t9.put (.int .i64 pg') (.slice B j1 d1) (.slice B2 j2 d2) (.int .i64 la') (.slice B3 j3 d3) (.slice B4 j4 d4) (.bool hd')); obtain ⟨u0, u1, u2, u3, u4, u5, u6, uf⟩ := t9; have uf0 := uf 0; have uf1 := uf 1; have uf2 := uf 2; have uf3 := uf 3; have uf4 := uf 4; have uf5 := uf 5; have uf6 := uf 6; clear uf))
  go_wp2
  obtain ⟨b0, b1, b2, b3, b4, b5, b6, _⟩ := HE9.out
  unfold set7 at b0 b1 b2 b3 b4 b5 b6
  refine bodyPost_ret (v := .tuple #[.bool true, .agg #[.int .i64 pg', .slice B j1 d1, .slice B2 j2 d2, .int .i64 la', .slice B3 j3 d3, .slice B4 j4 d4, .bool hd']]) (by simp [results, Tryz.results38, go_sem, b0, b1, b2, b3, b4, b5, b6]) rfl ?_
  first
    | exact HEND.out _ (kept_set7 (Kept.refl _ _) (Or.inl rfl) _ _ _ _ _ _ _)
    | exact HEND.out _ (Kept.drew (kept_set7 (Kept.refl _ _) (Or.inl rfl) _ _ _ _ _ _ _))

set_option maxRecDepth 100000 in
set_option maxHeartbeats 4000000 in
theorem does_flush {w W : World} {p hp : Nat} {S D : Nat → Prop} {v : LargeV} {k : Nat} {pages : Int} {mv : Value} (hD : ∀ b, W.heap.size ≤ b → D b) (s : KeepSt w W p hp S v k pages) (hk : k + 1 ≤ 1000000000) (d : KoIs W (fun b => ¬ S b ∧ D b) v mv) (a : Act10) (ha : a.kind = 3) :
    Calls Tryz.prog 38 #[.pointer (some ⟨hp, 0, none⟩), .pointer (some ⟨p, 0, none⟩), mv, .agg #[.int .i64 a.kind, .int .i64 a.n, .int .i64 a.order, .bool a.on, .slice a.A a.len a.cap]] W (DoesTo w W p hp S D (kStep v a) (k + 1) pages) := by
  obtain ⟨A, m, c, A2, m2, c2, A3, m3, c3, A4, m4, c4, rfl, d⟩ := d
  obtain ⟨W0, hW0⟩ : ∃ W0, W0 = (((W.alloc (.cells #[.int .i64 v.h.pages, .slice A m c, .slice A2 m2 c2, .int .i64 v.h.last, .slice A3 m3 c3, .slice A4 m4 c4, .bool v.held] 76)).alloc (.cells #[.int .i64 a.kind, .int .i64 a.n, .int .i64 a.order, .bool a.on, .slice a.A a.len a.cap] 78)).alloc (.cells #[.int .i64 0, .slice none 0 0, .slice none 0 0, .int .i64 0, .slice none 0 0, .slice none 0 0, .bool false] 76)) := ⟨_, rfl⟩
  have HA0 := ActSt.start s a d 76 78 76
  rw [← hW0] at HA0
  rw [kStep_3 ha]
  have ho' := s.ok.step a
  rw [kStep_3 ha] at ho'
  obtain ⟨v', hT⟩ : ∃ r, lFlush v = r := ⟨_, rfl⟩
  obtain ⟨nk, hnk⟩ : ∃ x, v.kept.length = x := ⟨_, rfl⟩
  rw [hT] at ho' ⊢
  obtain ⟨pg, hpg⟩ : ∃ x, v.h.pages = x := ⟨_, rfl⟩
  obtain ⟨la, hla⟩ : ∃ x, v.h.last = x := ⟨_, rfl⟩
  obtain ⟨hd, hhd⟩ : ∃ x, v.held = x := ⟨_, rfl⟩
  obtain ⟨pg', hpg'⟩ : ∃ x, v'.h.pages = x := ⟨_, rfl⟩
  obtain ⟨la', hla'⟩ : ∃ x, v'.h.last = x := ⟨_, rfl⟩
  obtain ⟨hd', hhd'⟩ : ∃ x, v'.held = x := ⟨_, rfl⟩
  have hSlt := s.lt
  have CT : Hid (Calls Tryz.prog 91 #[.agg #[.int .i64 pg, .slice A m c, .slice A2 m2 c2, .int .i64 la, .slice A3 m3 c3, .slice A4 m4 c4, .bool hd]] W0 fun e w1 => ∃ B j1 d1 B2 j2 d2 B3 j3 d3 B4 j4 d4, e = .returned (.tuple #[.agg #[.int .i64 pg', .slice B j1 d1, .slice B2 j2 d2, .int .i64 la', .slice B3 j3 d3, .slice B4 j4 d4, .bool hd'], .int .i64 (nk : Int)]) ∧ Hid (Ko w1 (fun b => (¬ S b ∧ D b) ∧ W.heap.size + 2 ≠ b) v' B j1 d1 B2 j2 d2 B3 j3 d3 B4 j4 d4) ∧ Hid (Below W0.heap.size W0 w1)) := hidb (by
    have hPP : ∀ b, W0.heap.size ≤ b → ((¬ S b ∧ D b) ∧ W.heap.size + 2 ≠ b) := fun b hb => ⟨⟨fun c => by have := hSlt b c; have := HA0.sz; omega, hD b (by have := HA0.sz; omega)⟩, by have := HA0.sz; omega⟩
    have hlb : v.h.last ≤ 1000000000 := by have := s.la; omega
    have := ref_kflush (fun b => (¬ S b ∧ D b) ∧ W.heap.size + 2 ≠ b) v _ W0 hPP HA0.ko.isv s.ok s.ok.few hlb
    rw [hT, hnk] at this
    unfold kval at this
    rw [hpg, hla, hhd] at this
    refine this.mono ?_
    rintro e w1 ⟨v'', rfl, ⟨B, j1, d1, B2, j2, d2, B3, j3, d3, B4, j4, d4, rfl, k1⟩, hb⟩
    refine ⟨B, j1, d1, B2, j2, d2, B3, j3, d3, B4, j4, d4, ?_, hidb k1, hidb hb⟩
    unfold kval
    rw [hpg', hla', hhd'])
  have CK : Hid (∀ W2, Below W.heap.size W W2 → Calls Tryz.prog 37 #[.pointer (some ⟨p, 0, none⟩)] W2 fun e w3 => e = .returned (.int .i64 (nk : Int)) ∧ ∃ S', Hid (KeepSt w w3 p hp S' v' (k + 1) pages ∧ SideK S W2 S' w3)) := hidb (fun W2 hb => (t_kflush (s.below hb) v' nk hT hnk).mono fun e w3 ⟨x, S', y, z⟩ => ⟨x, S', hidb ⟨y.later (by omega), z⟩⟩)
  have HA := hidb HA0
  have HS := hidb hSlt
  have hwW := s.bel.size
  have HO := hidb ho'
  have HW0 := hidb hW0
  have HE := hidb (⟨hpg', hla', hhd'⟩ : v'.h.pages = pg' ∧ v'.h.last = la' ∧ v'.held = hd')
  obtain ⟨a0, a1, a2, a3, a4⟩ := HA.out.a5 W0 (Below.refl _ _)
  obtain ⟨c0, c1, c2', c3', c4', c5', c6', _⟩ := HA.out.m7
  rw [hpg] at c0
  rw [hla] at c3'
  rw [hhd] at c6'
  rw [hpg, hla, hhd] at HW0
  unfold kval
  rw [hpg, hla, hhd]
  rw [ha] at HW0 a0 ⊢
  have hz := HA.out.sz
  clear HA0 hW0 s ho' hSlt d hpg hla hpg' hla' hhd' hk hT hnk hhd
  go_enter Tryz.func38, Tryz.ntmps38
  go_wp2_with (first
    | (go_at_call 91; go_loud (rw [← HW0.out]); (with_reducible refine CT.out.mono ?_); rintro e w1 ⟨B, j1, d1, B2, j2, d2, B3, j3, d3, B4, j4, d4, rfl, HK1, HB1⟩; have hw1 := HB1.out.size; clear a0 a1 a2 a3 a4 c0 c1 c2' c3' c4' c5' c6'))
  have hnS : ∀ b, W.heap.size ≤ b → ¬ S b := fun b hb c => by have := HS.out b c; omega
  obtain ⟨W2, hW2⟩ : ∃ W2, W2 = w1.alloc (.cells #[.int .i64 pg', .slice B j1 d1, .slice B2 j2 d2, .int .i64 la', .slice B3 j3 d3, .slice B4 j4 d4, .bool hd'] 76) := ⟨_, rfl⟩
  rw [← hW2]
  have hb12 : Below w1.heap.size w1 W2 := by rw [hW2]; exact (Below.refl _ _).alloc (Nat.le_refl _) _
  have hz2 : W2.heap.size = w1.heap.size + 1 := by rw [hW2]; simp
  have hB2 : Below W.heap.size W W2.drew := ((HA.out.bel.trans (HB1.out.mono HA.out.bel.size)).trans (hb12.mono (by omega))).drew
  have g10 : F7 W2 w1.heap.size (.int .i64 pg') (.slice B j1 d1) (.slice B2 j2 d2) (.int .i64 la') (.slice B3 j3 d3) (.slice B4 j4 d4) (.bool hd') := by rw [hW2]; exact F7.made w1 _ _ _ _ _ _ _ _
  have g9 : F7 W2 (W.heap.size + 1 + 1) (.int .i64 0) (.slice none 0 0) (.slice none 0 0) (.int .i64 0) (.slice none 0 0) (.slice none 0 0) (.bool false) := (HA.out.r7.below HB1.out).below hb12
  have hb02 : Below W0.heap.size W0 W2 := HB1.out.trans (hb12.mono hw1)
  have CK2 : Hid (Calls Tryz.prog 37 #[.pointer (some ⟨p, 0, none⟩)] W2.drew fun e w3 => e = .returned (.int .i64 (nk : Int)) ∧ F7 w3 w1.heap.size (.int .i64 pg') (.slice B j1 d1) (.slice B2 j2 d2) (.int .i64 la') (.slice B3 j3 d3) (.slice B4 j4 d4) (.bool hd') ∧ F7 w3 (W.heap.size + 1 + 1) (.int .i64 0) (.slice none 0 0) (.slice none 0 0) (.int .i64 0) (.slice none 0 0) (.slice none 0 0) (.bool false) ∧ 
      Hid (∀ WF, Kept (fun b => W.heap.size + 2 = b) w3 WF → DoesTo w W p hp S D v' (k + 1) pages (.returned (.tuple #[.bool true, .agg #[.int .i64 pg', .slice B j1 d1, .slice B2 j2 d2, .int .i64 la', .slice B3 j3 d3, .slice B4 j4 d4, .bool hd']])) WF)) := hidb ((CK.out _ hB2).mono (by
    rintro e w3 ⟨rfl, S3, HS3⟩
    have hz3 := HS3.out.2.1.size
    refine ⟨rfl, HS3.out.2.f7 (g10.below (Below.refl _ _).drew) (hnS _ (by omega)), HS3.out.2.f7 (g9.below (Below.refl _ _).drew) (hnS _ (by omega)), hidb (fun WF hK => ?_)⟩
    exact does_end hB2 (by show _ < W2.heap.size; omega) HS.out hwW ((HK1.out.below hb12).below (Below.refl _ _).drew) (by rw [HO.out.hok.fl]; omega) HS3.out.1 HS3.out.2 (Below.refl _ _) hK HE.out.1 HE.out.2.1 HE.out.2.2))
  obtain ⟨a0, a1, a2, a3, a4⟩ := HA.out.a5 W2 hb02
  obtain ⟨x0, x1, x2, x3, x4, x5, x6, _⟩ := g10
  obtain ⟨r0, r1, r2, r3, r4, r5, r6, rf⟩ := g9
  have rf0 := rf 0
  have rf1 := rf 1
  have rf2 := rf 2
  have rf3 := rf 3
  have rf4 := rf 4
  have rf5 := rf 5
  have rf6 := rf 6
  have nn1 : ¬ W.heap.size + 1 + 1 = w1.heap.size := by omega
  have nn4 : ¬ W.heap.size + 1 = w1.heap.size := by omega
  have nn5 : ¬ w1.heap.size = W.heap.size + 1 + 1 := by omega
  have nn6 : ¬ w1.heap.size = W.heap.size + 1 := by omega
  clear hW2 hb12 hz2 hB2 rf CT CK HK1 HB1 hnS hb02
  go_region_held3 (fun W' => W'.cell? ⟨w1.heap.size, 0, none⟩ = some (.int .i64 pg') ∧ W'.cell? ⟨w1.heap.size, 1, none⟩ = some (.slice B j1 d1) ∧ W'.cell? ⟨w1.heap.size, 2, none⟩ = some (.slice B2 j2 d2) ∧ W'.cell? ⟨w1.heap.size, 3, none⟩ = some (.int .i64 la') ∧ W'.cell? ⟨w1.heap.size, 4, none⟩ = some (.slice B3 j3 d3) ∧ W'.cell? ⟨w1.heap.size, 5, none⟩ = some (.slice B4 j4 d4) ∧ W'.cell? ⟨w1.heap.size, 6, none⟩ = some (.bool hd')) (go_keep)
    (first | (go_at_call 37; (with_reducible refine CK2.out.mono ?_); rintro e w3 ⟨rfl, ⟨y0, y1, y2, y3, y4, y5, y6, _⟩, t9, HEND⟩; have HE9 := hidb (t9.put (.int .i64 pg') (.slice B j1 d1) (.slice B2 j2 d2) (.int .i64 la') (.slice B3 j3 d3) (.slice B4 j4 d4) (.bool hd')); obtain ⟨u0, u1, u2, u3, u4, u5, u6, uf⟩ := t9; have uf0 := uf 0; have uf1 := uf 1; have uf2 := uf 2; have uf3 := uf 3; have uf4 := uf 4; have uf5 := uf 5; have uf6 := uf 6; clear uf))
  go_wp2
  obtain ⟨b0, b1, b2, b3, b4, b5, b6, _⟩ := HE9.out
  unfold set7 at b0 b1 b2 b3 b4 b5 b6
  refine bodyPost_ret (v := .tuple #[.bool true, .agg #[.int .i64 pg', .slice B j1 d1, .slice B2 j2 d2, .int .i64 la', .slice B3 j3 d3, .slice B4 j4 d4, .bool hd']]) (by simp [results, Tryz.results38, go_sem, b0, b1, b2, b3, b4, b5, b6]) rfl ?_
  first
    | exact HEND.out _ (kept_set7 (Kept.refl _ _) (Or.inl rfl) _ _ _ _ _ _ _)
    | exact HEND.out _ (Kept.drew (kept_set7 (Kept.refl _ _) (Or.inl rfl) _ _ _ _ _ _ _))

end Go.Proofs.YtonmkanppapjjaaGreat
