/- What 'Take' of the document's own keeper returns for a size that large stacks have. -/
import Derived.Test.YtonmkanppapjjaaGreatKeepTake
import Derived.Test.YtonmkanppapjjaaGreatKeepHold
namespace Go.Proofs.YtonmkanppapjjaaGreat
open Go.RowKit
set_option linter.unusedVariables false

/-- The heap makes a span, in any world that comes up. -/
theorem t_kmake {W : World} {a x : Nat} {D : Nat → Prop} {h : HeapV} {pg la : Int} {A A2 : Option Addr} {n c n2 c2 : Nat} (hx : x ≤ W.heap.size) (hv : HIs W (OldD a x D) h (hval pg A n c A2 n2 c2 la)) (o : HOk h) (hl : h.l.length ≤ 60000) (hla : h.last ≤ 1000000000) (k r : Int) (h0 : in64 k) (h1 : in64 r) (g : HeapV) (s1 s2 s3 s4 no : Int) (e : hMake h k r = (g, (s1, s2, s3, s4), no)) :
    Calls Tryz.prog 54 #[hval pg A n c A2 n2 c2 la, .int .i64 k, .int .i64 r] W fun e w' => ∃ B k d B2 k2 d2, e = .returned (.tuple #[hval g.pages B k d B2 k2 d2 g.last, .agg #[.int .i64 s1, .int .i64 s2, .int .i64 s3, .int .i64 s4], .int .i64 no]) ∧ HIs w' (OldD a x D) g (hval g.pages B k d B2 k2 d2 g.last) ∧ Below W.heap.size W w' := by
  refine (ref_hmake (OldD a x D) h _ k r W (fun b hb => Or.inr (by omega)) hv h0 h1 o.fl (by omega) ⟨o.la, hla⟩).mono ?_
  rw [e]
  rintro e' w' ⟨⟨v', rfl, hv'⟩, hb⟩
  obtain ⟨B, d, B2, d2, ev, hrest⟩ := hv'
  exact ⟨B, g.free.length, d, B2, g.l.length, d2, by rw [ev]; rfl, ⟨B, d, B2, d2, rfl, hrest⟩, hb⟩

set_option maxRecDepth 100000 in
set_option maxHeartbeats 8000000 in
theorem ref_ktake_yes (P : Nat → Prop) (q : LargeV) (v : Value) (n : Int) (w : World) (hP : ∀ b, w.heap.size ≤ b → P b) (hv : KoIs w P q v) (o : LOk q) (hF : Few q) (hla0 : q.h.last ≤ 1000000000) (hn : in64 n) (hf : lFits n = true) :
    Calls Tryz.prog 88 #[v, .int .i64 n] w (TookIs w P (lTake q n)) := by
  have h0 : 0 < q.h.free.length := by rw [o.hok.fl]; omega
  obtain ⟨A, m, c, A2, m2, c2, A3, m3, c3, A4, m4, c4, rfl, k⟩ := hv
  obtain ⟨pg, hpg⟩ : ∃ x, q.h.pages = x := ⟨_, rfl⟩
  obtain ⟨la, hla⟩ : ∃ x, q.h.last = x := ⟨_, rfl⟩
  obtain ⟨hd, hhd⟩ : ∃ x, q.held = x := ⟨_, rfl⟩
  obtain ⟨W0, hW0⟩ : ∃ W0, W0 = ((w.alloc (.cells #[.int .i64 pg, .slice A m c, .slice A2 m2 c2, .int .i64 la, .slice A3 m3 c3, .slice A4 m4 c4, .bool hd] 76)).alloc (.cells #[.int .i64 0, .slice none 0 0, .slice none 0 0, .int .i64 0, .slice none 0 0, .slice none 0 0, .bool false] 76)).alloc (.cells #[.int .i64 0, .int .i64 0, .int .i64 0, .int .i64 0] 50) := ⟨_, rfl⟩
  have HM := took_made w (.int .i64 pg) (.slice A m c) (.slice A2 m2 c2) (.int .i64 la) (.slice A3 m3 c3) (.slice A4 m4 c4) (.bool hd) (.int .i64 0) (.slice none 0 0) (.slice none 0 0) (.int .i64 0) (.slice none 0 0) (.slice none 0 0) (.bool false) (.int .i64 0) (.int .i64 0) (.int .i64 0) (.int .i64 0) 76 76 50
  rw [← hW0] at HM
  obtain ⟨f0, f1, f2, HB, hz⟩ := HM
  have CF := ref_fits n W0 hn
  rw [hf] at CF
  have HKO := hidb (k.open_ h0 HB)
  have lk : q.kept.length = m3 := k.l3
  have hm3 : m3 ≤ 60000 := by rw [← lk]; exact hF.k
  have hmc : m3 ≤ c3 ∧ c3 ≤ 9223372036854775807 := ⟨k.kr.cap.1, k.kr.cap.2.1⟩
  obtain ⟨l, hl⟩ : ∃ l, q.kept = l := ⟨_, rfl⟩
  have HS : Hid (Sn W0 W0.heap.size A3 m3 l) := hidb (by rw [← hl]; exact HKO.out.kr.row)
  have HC : Hid (∀ W, Below W0.heap.size W0 W → F7 W w.heap.size (.int .i64 pg) (.slice A m c) (.slice A2 m2 c2) (.int .i64 la) (.slice A3 m3 c3) (.slice A4 m4 c4) (.bool hd) ∧ F7 W (w.heap.size + 1) (.int .i64 0) (.slice none 0 0) (.slice none 0 0) (.int .i64 0) (.slice none 0 0) (.slice none 0 0) (.bool false) ∧ F4 W (w.heap.size + 1 + 1) (.int .i64 0) (.int .i64 0) (.int .i64 0) (.int .i64 0)) := hidb (fun W hb => ⟨f0.below hb, f1.below hb, f2.below hb⟩)
  -- a span that is kept
  have HAT : Hid (∀ (i : Nat) (s1 s2 s3 s4 : Int), l[i]? = some (s1, s2, s3, s4) → (s3 == n) = true → (∀ (j : Nat), i < j → ∀ y : Spn, l[j]? = some y → (y.2.2.1 == n) = false) →
      Calls Tryz.prog 136 #[.slice A3 m3 c3, .int .i64 (i : Int)] (W0.alloc (.cells #[.int .i64 s1, .int .i64 s2, .int .i64 s3, .int .i64 s4] 50)) fun e w5 => ∃ A5 n5 c5, e = .returned (.slice A5 n5 c5) ∧ Below W0.heap.size W0 w5 ∧ F4 w5 W0.heap.size (.int .i64 s1) (.int .i64 s2) (.int .i64 s3) (.int .i64 s4) ∧ W0.heap.size < w5.heap.size ∧
        ∀ WF, Kept (fun b => w.heap.size ≤ b ∧ b < W0.heap.size) w5 WF → TookIs w P (lTake q n) (.returned (.tuple #[.agg #[.int .i64 pg, .slice A m c, .slice A2 m2 c2, .int .i64 la, .slice A5 n5 c5, .slice A4 m4 c4, .bool hd], .agg #[.int .i64 s1, .int .i64 s2, .int .i64 s3, .int .i64 s4], .int .i64 0])) WF) := hidb (fun i s1 s2 s3 s4 hi hs ha => by
    have hb1 : Below W0.heap.size W0 (W0.alloc (.cells #[.int .i64 s1, .int .i64 s2, .int .i64 s3, .int .i64 s4] 50)) := (Below.refl _ _).alloc (Nat.le_refl _) _
    have hlt : i < m3 := by rw [← lk, hl]; exact (List.getElem?_eq_some_iff.1 hi).1
    have hT := lTake_at o hf (i := i) (s := (s1, s2, s3, s4)) (by rw [hl]; exact hi) hs (by rw [hl]; exact ha)
    refine (ref_lwithout A3 m3 c3 l i _ (by have := RowOf.below HS.out hb1; exact RowOf.more this hb1.size) (by omega) hlt hmc.1 hmc.2).mono ?_
    rintro e w5 ⟨A5, c5, rfl, ho, hb5⟩
    have hb5' := hb1.trans (hb5.mono hb1.size)
    refine ⟨A5, _, c5, rfl, hb5', (F4.made W0 _ _ _ _ _).below hb5, ?_, fun WF hK => ?_⟩
    · have := hb5.size; simp at this; omega
    · have hko := HKO.out.below hb5'
      have hlen : (l.eraseIdx i).length = i + (m3 - (i + 1)) := by rw [List.length_eraseIdx, if_pos (by rw [← hl]; omega), ← hl]; omega
      have kk : KoIs w5 (OldD w.heap.size W0.heap.size P) { q with kept := l.eraseIdx i } (kval q.h.pages A m c A2 m2 c2 q.h.last A5 (i + (m3 - (i + 1))) c5 A4 m4 c4 q.held) :=
        ⟨A, m, c, A2, m2, c2, A5, _, c5, A4, m4, c4, rfl, ⟨hko.hi, SpRow.of_own ho hlen (fun b h1 h2 => Or.inr (by simp at h1; omega)), hko.wr⟩⟩
      obtain ⟨r1, r2⟩ := KoIs.close hP (HB.trans (hb5'.mono HB.size)) HB.size kk h0 hK
      rw [hT, hl]
      rw [hpg, hla] at r1
      subst hhd
      exact ⟨_, rfl, r1, r2⟩)
  -- none is kept
  obtain ⟨⟨g, ⟨s1, s2, s3, s4⟩, no⟩, hg⟩ : ∃ g, hMake q.h n (-1) = g := ⟨_, rfl⟩
  obtain ⟨pg', hpg'⟩ : ∃ x, g.pages = x := ⟨_, rfl⟩
  obtain ⟨la', hla'⟩ : ∃ x, g.last = x := ⟨_, rfl⟩
  have HNO : Hid (lOf l n = [] → Calls Tryz.prog 54 #[.agg #[.int .i64 pg, .slice A m c, .slice A2 m2 c2, .int .i64 la], .int .i64 n, .int .i64 (-1)] W0 fun e w5 => ∃ B j d B2 j2 d2, e = .returned (.tuple #[.agg #[.int .i64 pg', .slice B j d, .slice B2 j2 d2, .int .i64 la'], .agg #[.int .i64 s1, .int .i64 s2, .int .i64 s3, .int .i64 s4], .int .i64 no]) ∧ Below W0.heap.size W0 w5 ∧
        ∀ WF, Kept (fun b => w.heap.size ≤ b ∧ b < W0.heap.size) w5 WF → TookIs w P (lTake q n) (.returned (.tuple #[.agg #[.int .i64 pg', .slice B j d, .slice B2 j2 d2, .int .i64 la', .slice A3 m3 c3, .slice A4 m4 c4, .bool hd], .agg #[.int .i64 s1, .int .i64 s2, .int .i64 s3, .int .i64 s4], .int .i64 no])) WF) := hidb (fun hlo => by
    have hT := lTake_new (v := q) hf (by rw [hl]; exact hlo)
    rw [hg] at hT
    have hgo := hMake_ok o.hok n (-1)
    rw [hg] at hgo
    have hh : HIs W0 (OldD w.heap.size W0.heap.size P) q.h (hval pg A m c A2 m2 c2 la) := by rw [← hpg, ← hla]; exact HKO.out.hi
    refine (t_kmake (Nat.le_refl _) hh o.hok hF.l hla0 n (-1) hn ⟨by omega, by omega⟩ g s1 s2 s3 s4 no hg).mono ?_
    rintro e w5 ⟨B, j, d, B2, j2, d2, rfl, hh5, hb5⟩
    rw [hpg', hla'] at hh5 ⊢
    refine ⟨B, j, d, B2, j2, d2, rfl, hb5, fun WF hK => ?_⟩
    have hko := HKO.out.below hb5
    have kk : KoIs w5 (OldD w.heap.size W0.heap.size P) { q with h := g } (kval g.pages B j d B2 j2 d2 g.last A3 m3 c3 A4 m4 c4 q.held) :=
      ⟨B, j, d, B2, j2, d2, A3, m3, c3, A4, m4, c4, rfl, ⟨by show HIs _ _ g (hval g.pages B j d B2 j2 d2 g.last); rw [hpg', hla']; exact hh5, hko.kr, hko.wr⟩⟩
    obtain ⟨r1, r2⟩ := KoIs.close hP (HB.trans (hb5.mono HB.size)) HB.size kk (by show 0 < g.free.length; rw [hgo.1.fl]; omega) hK
    rw [hT]
    rw [hpg', hla'] at r1
    subst hhd
    exact ⟨_, rfl, r1, r2⟩)
  have HL : Hid (l.length = m3) := hidb (by rw [← hl]; exact lk)
  unfold kval
  rw [hpg, hla, hhd]
  obtain ⟨⟨c0, c1, c2', c3', c4', c5', c6', cf⟩, _⟩ := HC.out W0 (Below.refl _ _)
  have HW0 := hidb hW0
  have HZ := hidb hz
  have HBB := hidb HB
  have e1 : IntKind.i64.wrap ((m3 : Int) - 1) = (m3 : Int) - 1 := IntWalk.i64_in _ (by omega)
  clear hW0 k hpg hla hhd HB hP h0 hf hn hF hla0 o hg hpg' hla' f0 f1 f2 hz cf hl lk hmc HKO
  go_enter Tryz.func88, Tryz.ntmps88
  go_wp2_with (first
    | (go_at_call 41; go_loud (rw [← HW0.out]; (with_reducible refine CF.mono ?_); rintro e w1 ⟨rfl, rfl⟩)))
  go_loop [7] (fun x => ∃ j : Nat, j ≤ m3 ∧ Hid (∀ (i : Nat), j ≤ i → ∀ y : Spn, l[i]? = some y → (y.2.2.1 == n) = false) ∧ x = .int .i64 ((j : Int) - 1)) (fun x => (intOf x + 1).toNat)
  case atStart => exact ⟨m3, Nat.le_refl _, hidb (fun i h y hy => by have := (List.getElem?_eq_some_iff.1 hy).1; have := HL.out; omega), rfl⟩
  case round =>
    obtain ⟨j, hj, HA, rfl⟩ := hrel
    have hq0 : w.heap.size < W0.heap.size := by have := HZ.out; omega
    by_cases hlt : 0 < j
    · obtain ⟨i, rfl⟩ : ∃ i, j = i + 1 := ⟨j - 1, by omega⟩
      obtain ⟨b, off, y1, y2, y3, y4, rfl, hx, hc0, hc1, hc2, hc3⟩ := Sn.span HS.out (j := i) (by omega)
      have ej : (((i + 1 : Nat) : Int) - 1) = (i : Int) := by omega
      rw [ej]
      have hi0 : (0 : Int) ≤ (i : Int) := by omega
      have hi1 : (i : Int) < (m3 : Int) := by omega
      cases he : (y3 == n) with
      | true =>
        have CW := hidb (HAT.out i y1 y2 y3 y4 hx he (fun j' h y hy => HA.out j' h y hy))
        clear hx HAT HNO HA
        go_wp2_with (first
          | (go_at_call 136; (with_reducible refine CW.out.mono ?_); rintro e w5 ⟨A5, n5, c5, rfl, hb5, hF4, hlt5, hfin⟩; obtain ⟨⟨x0, x1, x2, x3, x4, x5, x6, xf⟩, _⟩ := HC.out w5 hb5; have xf4 := xf 4; have HB5 := hidb hb5; have HF4 := hidb hF4; have HFIN := hidb hfin; clear hb5 hF4 hfin xf))
        obtain ⟨W4, hW4⟩ : ∃ W4, W4 = w5.setCell ⟨w.heap.size, 4, none⟩ (.slice A5 n5 c5) := ⟨_, rfl⟩
        rw [← hW4]
        have hz5 := HZ.out
        have hb5z := HB5.out.size
        have HG0 : Hid (F7 W4 w.heap.size (.int .i64 pg) (.slice A m c) (.slice A2 m2 c2) (.int .i64 la) (.slice A5 n5 c5) (.slice A4 m4 c4) (.bool hd)) := hidb (by rw [hW4]; exact ((HC.out w5 HB5.out).1.set_ _).1)
        have HG1 : Hid (F7 W4 (w.heap.size + 1) (.int .i64 0) (.slice none 0 0) (.slice none 0 0) (.int .i64 0) (.slice none 0 0) (.slice none 0 0) (.bool false)) := hidb (by rw [hW4]; exact (HC.out w5 HB5.out).2.1.other (by omega) _ _)
        have HG2 : Hid (F4 W4 (w.heap.size + 1 + 1) (.int .i64 0) (.int .i64 0) (.int .i64 0) (.int .i64 0)) := hidb (by rw [hW4]; exact (HC.out w5 HB5.out).2.2.other (by omega) _ _)
        have HG3 : Hid (F4 W4 W0.heap.size (.int .i64 y1) (.int .i64 y2) (.int .i64 y3) (.int .i64 y4)) := hidb (by rw [hW4]; exact HF4.out.other (by omega) _ _)
        have HE : Hid (F7 (set4 (set7 W4 (w.heap.size + 1) (.int .i64 pg) (.slice A m c) (.slice A2 m2 c2) (.int .i64 la) (.slice A5 n5 c5) (.slice A4 m4 c4) (.bool hd)) (w.heap.size + 1 + 1) (.int .i64 y1) (.int .i64 y2) (.int .i64 y3) (.int .i64 y4)) (w.heap.size + 1) (.int .i64 pg) (.slice A m c) (.slice A2 m2 c2) (.int .i64 la) (.slice A5 n5 c5) (.slice A4 m4 c4) (.bool hd) ∧ F4 (set4 (set7 W4 (w.heap.size + 1) (.int .i64 pg) (.slice A m c) (.slice A2 m2 c2) (.int .i64 la) (.slice A5 n5 c5) (.slice A4 m4 c4) (.bool hd)) (w.heap.size + 1 + 1) (.int .i64 y1) (.int .i64 y2) (.int .i64 y3) (.int .i64 y4)) (w.heap.size + 1 + 1) (.int .i64 y1) (.int .i64 y2) (.int .i64 y3) (.int .i64 y4)) := hidb (eleven HG1.out HG2.out (by omega) _ _ _ _ _ _ _ _ _ _ _)
        have HEND : Hid (TookIs w P (lTake q n) (.returned (.tuple #[.agg #[.int .i64 pg, .slice A m c, .slice A2 m2 c2, .int .i64 la, .slice A5 n5 c5, .slice A4 m4 c4, .bool hd], .agg #[.int .i64 y1, .int .i64 y2, .int .i64 y3, .int .i64 y4], .int .i64 0])) (set4 (set7 W4 (w.heap.size + 1) (.int .i64 pg) (.slice A m c) (.slice A2 m2 c2) (.int .i64 la) (.slice A5 n5 c5) (.slice A4 m4 c4) (.bool hd)) (w.heap.size + 1 + 1) (.int .i64 y1) (.int .i64 y2) (.int .i64 y3) (.int .i64 y4)).drew) := hidb (HFIN.out _ (by
          rw [hW4]
          exact Kept.drew (kept_put4 (kept_set7 ((Kept.refl _ _).set (a := ⟨w.heap.size, 4, none⟩) (Or.inl ⟨Nat.le_refl _, by show w.heap.size < _; omega⟩) _) (Or.inl ⟨by omega, by omega⟩) _ _ _ _ _ _ _) (Or.inl ⟨by omega, by omega⟩) _ _ _ _)))
        obtain ⟨z0, z1, z2, z3, z4, z5, z6, zf⟩ := HG1.out
        obtain ⟨u0, u1, u2, u3, uf⟩ := HG2.out
        obtain ⟨r0, r1, r2, r3, r4, r5, r6, _⟩ := HG0.out
        obtain ⟨v0, v1, v2, v3, _⟩ := HG3.out
        have zf0 := zf 0
        have zf1 := zf 1
        have zf2 := zf 2
        have zf3 := zf 3
        have zf4 := zf 4
        have zf5 := zf 5
        have zf6 := zf 6
        have uf0 := uf 0
        have uf1 := uf 1
        have uf2 := uf 2
        have uf3 := uf 3
        clear zf uf
        have nn1 : ¬ w.heap.size + 1 = w.heap.size + 1 + 1 := by omega
        have nn2 : ¬ w.heap.size + 1 + 1 = w.heap.size + 1 := by omega
        have nn3 : ¬ w.heap.size + 1 = w.heap.size := by omega
        have nn4 : ¬ w.heap.size = w.heap.size + 1 := by omega
        have nn5 : ¬ w.heap.size + 1 + 1 = w.heap.size := by omega
        have nn6 : ¬ w.heap.size = w.heap.size + 1 + 1 := by omega
        have nn7 : ¬ W0.heap.size = w.heap.size + 1 := by omega
        have nn8 : ¬ W0.heap.size = w.heap.size + 1 + 1 := by omega
        have nn9 : ¬ w.heap.size + 1 = W0.heap.size := by omega
        have nn10 : ¬ w.heap.size + 1 + 1 = W0.heap.size := by omega
        clear x0 x1 x2 x3 x4 x5 x6 xf4 c0 c1 c2' c3' c4' c5' c6' hc0 hc1 hc2 hc3 hW4 hz5 hb5z
        go_region_held3 (fun W' => W'.cell? ⟨w.heap.size, 0, none⟩ = some (.int .i64 pg) ∧ W'.cell? ⟨w.heap.size, 1, none⟩ = some (.slice A m c) ∧ W'.cell? ⟨w.heap.size, 2, none⟩ = some (.slice A2 m2 c2) ∧ W'.cell? ⟨w.heap.size, 3, none⟩ = some (.int .i64 la) ∧ W'.cell? ⟨w.heap.size, 4, none⟩ = some (.slice A5 n5 c5) ∧ W'.cell? ⟨w.heap.size, 5, none⟩ = some (.slice A4 m4 c4) ∧ W'.cell? ⟨w.heap.size, 6, none⟩ = some (.bool hd) ∧ W'.cell? ⟨W0.heap.size, 0, none⟩ = some (.int .i64 y1) ∧ W'.cell? ⟨W0.heap.size, 1, none⟩ = some (.int .i64 y2) ∧ W'.cell? ⟨W0.heap.size, 2, none⟩ = some (.int .i64 y3) ∧ W'.cell? ⟨W0.heap.size, 3, none⟩ = some (.int .i64 y4)) (go_keep) (fail)
        go_wp2
        obtain ⟨⟨b0, b1, b2, b3, b4, b5, b6, _⟩, ⟨t0, t1, t2, t3, _⟩⟩ := HE.out
        unfold set4 set7 at b0 b1 b2 b3 b4 b5 b6 t0 t1 t2 t3
        refine bodyPost_ret (v := .tuple #[.agg #[.int .i64 pg, .slice A m c, .slice A2 m2 c2, .int .i64 la, .slice A5 n5 c5, .slice A4 m4 c4, .bool hd], .agg #[.int .i64 y1, .int .i64 y2, .int .i64 y3, .int .i64 y4], .int .i64 0]) (by simp [results, Tryz.results88, go_sem, b0, b1, b2, b3, b4, b5, b6, t0, t1, t2, t3]) rfl ?_
        exact HEND.out
      | false =>
        have H2 : Hid (∀ (i' : Nat), i ≤ i' → ∀ y : Spn, l[i']? = some y → (y.2.2.1 == n) = false) := hidb (fun i' h y hy => by
          by_cases h3 : i' = i
          · subst h3; rw [hx] at hy; injection hy with hy; subst hy; exact he
          · exact HA.out i' (by omega) y hy)
        have e2 : IntKind.i64.wrap ((i : Int) - 1) = (i : Int) - 1 := IntWalk.i64_in _ (by omega)
        clear hx HAT HNO HA
        go_wp2
        go_round
        case rel => exact ⟨i, by omega, H2, by go_num⟩
        case measure => simp [intOf]
    · obtain rfl : j = 0 := by omega
      have CM := hidb (HNO.out (lOf_none fun j' y hy => HA.out j' (Nat.zero_le _) y hy))
      clear HAT HNO HA
      go_wp2_with (first
        | (go_at_call 54; (with_reducible refine CM.out.mono ?_); rintro e w5 ⟨B, jj, d, B2, j2, d2, rfl, hb5, hfin⟩; obtain ⟨⟨x0, x1, x2, x3, x4, x5, x6, xf⟩, _⟩ := HC.out w5 hb5; have xf0 := xf 0; have xf1 := xf 1; have xf2 := xf 2; have xf3 := xf 3; have hq5 : w.heap.size < w5.heap.size := (by have := hb5.size; omega); have HB5 := hidb hb5; have HFIN := hidb hfin; clear hb5 hfin xf))
      obtain ⟨W4, hW4⟩ : ∃ W4, W4 = ((set4 w5 w.heap.size (.int .i64 pg') (.slice B jj d) (.slice B2 j2 d2) (.int .i64 la')).alloc (.cells #[.int .i64 pg', .slice B jj d, .slice B2 j2 d2, .int .i64 la'] 32)).alloc (.cells #[.int .i64 s1, .int .i64 s2, .int .i64 s3, .int .i64 s4] 50) := ⟨_, rfl⟩
      have hW5 := hW4
      unfold set4 at hW5
      rw [← hW5]
      clear hW5
      have hz5 := HZ.out
      have hb5z := HB5.out.size
      have hs5 : (set4 w5 w.heap.size (.int .i64 pg') (.slice B jj d) (.slice B2 j2 d2) (.int .i64 la')).heap.size = w5.heap.size := by unfold set4; simp
      have HG0 : Hid (F7 W4 w.heap.size (.int .i64 pg') (.slice B jj d) (.slice B2 j2 d2) (.int .i64 la') (.slice A3 m3 c3) (.slice A4 m4 c4) (.bool hd)) := hidb (by rw [hW4]; exact (((HC.out w5 HB5.out).1.set4_ _ _ _ _).al _).al _)
      have HG1 : Hid (F7 W4 (w.heap.size + 1) (.int .i64 0) (.slice none 0 0) (.slice none 0 0) (.int .i64 0) (.slice none 0 0) (.slice none 0 0) (.bool false)) := hidb (by rw [hW4]; exact (((HC.out w5 HB5.out).2.1.aside4 (by omega) _ _ _ _).al _).al _)
      have HG2 : Hid (F4 W4 (w.heap.size + 1 + 1) (.int .i64 0) (.int .i64 0) (.int .i64 0) (.int .i64 0)) := hidb (by rw [hW4]; exact (((HC.out w5 HB5.out).2.2.aside4 (by omega) _ _ _ _).al _).al _)
      have HG3 : Hid (F4 W4 (w5.heap.size + 1) (.int .i64 s1) (.int .i64 s2) (.int .i64 s3) (.int .i64 s4)) := hidb (by
        have := F4.made ((set4 w5 w.heap.size (.int .i64 pg') (.slice B jj d) (.slice B2 j2 d2) (.int .i64 la')).alloc (.cells #[.int .i64 pg', .slice B jj d, .slice B2 j2 d2, .int .i64 la'] 32)) (.int .i64 s1) (.int .i64 s2) (.int .i64 s3) (.int .i64 s4) 50
        rw [World.size_alloc, hs5] at this
        rw [hW4]
        exact this)
      have HE : Hid (F7 (set4 (set7 W4 (w.heap.size + 1) (.int .i64 pg') (.slice B jj d) (.slice B2 j2 d2) (.int .i64 la') (.slice A3 m3 c3) (.slice A4 m4 c4) (.bool hd)) (w.heap.size + 1 + 1) (.int .i64 s1) (.int .i64 s2) (.int .i64 s3) (.int .i64 s4)) (w.heap.size + 1) (.int .i64 pg') (.slice B jj d) (.slice B2 j2 d2) (.int .i64 la') (.slice A3 m3 c3) (.slice A4 m4 c4) (.bool hd) ∧ F4 (set4 (set7 W4 (w.heap.size + 1) (.int .i64 pg') (.slice B jj d) (.slice B2 j2 d2) (.int .i64 la') (.slice A3 m3 c3) (.slice A4 m4 c4) (.bool hd)) (w.heap.size + 1 + 1) (.int .i64 s1) (.int .i64 s2) (.int .i64 s3) (.int .i64 s4)) (w.heap.size + 1 + 1) (.int .i64 s1) (.int .i64 s2) (.int .i64 s3) (.int .i64 s4)) := hidb (eleven HG1.out HG2.out (by omega) _ _ _ _ _ _ _ _ _ _ _)
      have HEND : Hid (TookIs w P (lTake q n) (.returned (.tuple #[.agg #[.int .i64 pg', .slice B jj d, .slice B2 j2 d2, .int .i64 la', .slice A3 m3 c3, .slice A4 m4 c4, .bool hd], .agg #[.int .i64 s1, .int .i64 s2, .int .i64 s3, .int .i64 s4], .int .i64 no])) (set4 (set7 W4 (w.heap.size + 1) (.int .i64 pg') (.slice B jj d) (.slice B2 j2 d2) (.int .i64 la') (.slice A3 m3 c3) (.slice A4 m4 c4) (.bool hd)) (w.heap.size + 1 + 1) (.int .i64 s1) (.int .i64 s2) (.int .i64 s3) (.int .i64 s4)).drew) := hidb (HFIN.out _ (by
        rw [hW4]
        exact Kept.drew (kept_put4 (kept_set7 (kept_al (kept_al (kept_put4 (Kept.refl _ _) (Or.inl ⟨by omega, by omega⟩) _ _ _ _) _) _) (Or.inl ⟨by omega, by omega⟩) _ _ _ _ _ _ _) (Or.inl ⟨by omega, by omega⟩) _ _ _ _)))
      obtain ⟨z0, z1, z2, z3, z4, z5, z6, zf⟩ := HG1.out
      obtain ⟨u0, u1, u2, u3, uf⟩ := HG2.out
      obtain ⟨r0, r1, r2, r3, r4, r5, r6, _⟩ := HG0.out
      obtain ⟨v0, v1, v2, v3, _⟩ := HG3.out
      have zf0 := zf 0
      have zf1 := zf 1
      have zf2 := zf 2
      have zf3 := zf 3
      have zf4 := zf 4
      have zf5 := zf 5
      have zf6 := zf 6
      have uf0 := uf 0
      have uf1 := uf 1
      have uf2 := uf 2
      have uf3 := uf 3
      clear zf uf
      have nn1 : ¬ w.heap.size + 1 = w.heap.size + 1 + 1 := by omega
      have nn2 : ¬ w.heap.size + 1 + 1 = w.heap.size + 1 := by omega
      have nn3 : ¬ w.heap.size + 1 = w.heap.size := by omega
      have nn4 : ¬ w.heap.size = w.heap.size + 1 := by omega
      have nn5 : ¬ w.heap.size + 1 + 1 = w.heap.size := by omega
      have nn6 : ¬ w.heap.size = w.heap.size + 1 + 1 := by omega
      have nn11 : ¬ w5.heap.size = w.heap.size := by omega
      have nn12 : ¬ w5.heap.size = w.heap.size + 1 := by omega
      have nn13 : ¬ w.heap.size = w5.heap.size := by omega
      have nn14 : ¬ w.heap.size + 1 = w5.heap.size := by omega
      have nn7 : ¬ w5.heap.size + 1 = w.heap.size + 1 := by omega
      have nn8 : ¬ w5.heap.size + 1 = w.heap.size + 1 + 1 := by omega
      have nn9 : ¬ w.heap.size + 1 = w5.heap.size + 1 := by omega
      have nn10 : ¬ w.heap.size + 1 + 1 = w5.heap.size + 1 := by omega
      clear x0 x1 x2 x3 x4 x5 x6 xf0 xf1 xf2 xf3 c0 c1 c2' c3' c4' c5' c6' hW4 hz5 hb5z hs5
      go_region_held3 (fun W' => W'.cell? ⟨w.heap.size, 0, none⟩ = some (.int .i64 pg') ∧ W'.cell? ⟨w.heap.size, 1, none⟩ = some (.slice B jj d) ∧ W'.cell? ⟨w.heap.size, 2, none⟩ = some (.slice B2 j2 d2) ∧ W'.cell? ⟨w.heap.size, 3, none⟩ = some (.int .i64 la') ∧ W'.cell? ⟨w.heap.size, 4, none⟩ = some (.slice A3 m3 c3) ∧ W'.cell? ⟨w.heap.size, 5, none⟩ = some (.slice A4 m4 c4) ∧ W'.cell? ⟨w.heap.size, 6, none⟩ = some (.bool hd) ∧ W'.cell? ⟨w5.heap.size + 1, 0, none⟩ = some (.int .i64 s1) ∧ W'.cell? ⟨w5.heap.size + 1, 1, none⟩ = some (.int .i64 s2) ∧ W'.cell? ⟨w5.heap.size + 1, 2, none⟩ = some (.int .i64 s3) ∧ W'.cell? ⟨w5.heap.size + 1, 3, none⟩ = some (.int .i64 s4)) (go_keep) (fail)
      go_wp2
      obtain ⟨⟨b0, b1, b2, b3, b4, b5, b6, _⟩, ⟨t0, t1, t2, t3, _⟩⟩ := HE.out
      unfold set4 set7 at b0 b1 b2 b3 b4 b5 b6 t0 t1 t2 t3
      refine bodyPost_ret (v := .tuple #[.agg #[.int .i64 pg', .slice B jj d, .slice B2 j2 d2, .int .i64 la', .slice A3 m3 c3, .slice A4 m4 c4, .bool hd], .agg #[.int .i64 s1, .int .i64 s2, .int .i64 s3, .int .i64 s4], .int .i64 no]) (by simp [results, Tryz.results88, go_sem, b0, b1, b2, b3, b4, b5, b6, t0, t1, t2, t3]) rfl ?_
      exact HEND.out

end Go.Proofs.YtonmkanppapjjaaGreat
