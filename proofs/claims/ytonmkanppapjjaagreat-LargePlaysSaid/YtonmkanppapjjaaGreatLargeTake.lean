/- Layer 10's keeper: Take. -/
import Derived.Test.YtonmkanppapjjaaGreatLargePut
namespace Go.Proofs.YtonmkanppapjjaaGreat
open Go.RowKit Go.Maps
set_option linter.unusedVariables false

/-- What Take answers, where there is no keeper or no such size. -/
theorem code_ktake_no (kv : Option Addr) (n : Int) (hn : in64 n) (hf : lFits n = false) (w : World) : Calls Tryz.prog 34 #[.pointer kv, .int .i64 n] w (NoSpan w 1) := by
  have ci := fun W => code_isSize n W hn
  rw [hf] at ci
  have hb0 : Below w.heap.size w (w.alloc (.cells #[.int .i64 0, .int .i64 0, .int .i64 0, .int .i64 0] 50)) := (Below.refl _ _).alloc (Nat.le_refl _) _
  have HB0 := hidb hb0
  have hzz : w.heap.size < (w.alloc (.cells #[.int .i64 0, .int .i64 0, .int .i64 0, .int .i64 0] 50)).heap.size := by simp
  have HC : Hid (∀ W, Below (w.alloc (.cells #[.int .i64 0, .int .i64 0, .int .i64 0, .int .i64 0] 50)).heap.size (w.alloc (.cells #[.int .i64 0, .int .i64 0, .int .i64 0, .int .i64 0] 50)) W →
      W.heap[w.heap.size]? = some (.cells #[.int .i64 0, .int .i64 0, .int .i64 0, .int .i64 0] 50 (0, 0))) := hidb (fun W hb => (hb.block _ hzz).trans (by show (w.heap.push _)[w.heap.size]? = _; simp))
  clear hb0 hf hn
  go_enter Tryz.func34, Tryz.ntmps34
  go_wp2_with (go_at_call 77; (with_reducible refine (ci _).mono ?_); rintro e w1 ⟨rfl, hb1⟩; obtain ⟨q0, q1, q2, q3, z0, z1, z2, z3⟩ := cells4 (HC.out _ hb1); have hlt1 : w.heap.size < w1.heap.size := lt_of_cell q0)
  obtain ⟨x0, x1, x2, x3⟩ := four_cellsH w1 w.heap.size (.int .i64 0) (.int .i64 0) (.int .i64 0) (.int .i64 0) _ _ _ _ q0 q1 q2 q3
  refine bodyPost_ret (v := .tuple #[.agg #[.int .i64 0, .int .i64 0, .int .i64 0, .int .i64 0], .int .i64 1]) (by simp [results, Tryz.results34, go_sem, x0, x1, x2, x3]) rfl ?_
  exact ⟨rfl, below_set4H (bel_tr2 HB0.out hb1) (Nat.le_refl _) _ _ _ _⟩

/-- Take, where none of so many pages is kept: the heap makes one, or none. -/
theorem code_ktake_new_of {w : World} {kv hp K V : Option Addr} {kc vc : Nat} {kept waits : List Spn} {held : Bool} (h : PartsOf w kv hp K kc V vc kept waits held) (n : Int) (hn : in64 n) (hf : lFits n = true) (hl : lOf kept n = []) (m1 m2 m3 m4 no : Int) (P : World → World → Prop)
    (hm : ∀ W, Below w.heap.size w W → Calls Tryz.prog 55 #[.pointer hp, .int .i64 n, .int .i64 (-1)] W fun e w' => e = .returned (.tuple #[.agg #[.int .i64 m1, .int .i64 m2, .int .i64 m3, .int .i64 m4], .int .i64 no]) ∧ P W w') (hP : ∀ W w', Below w.heap.size w W → w.heap.size < W.heap.size → P W w' → w'.heap[w.heap.size]? = W.heap[w.heap.size]?) :
    Calls Tryz.prog 34 #[.pointer kv, .int .i64 n] w fun e w' => e = .returned (.tuple #[.agg #[.int .i64 m1, .int .i64 m2, .int .i64 m3, .int .i64 m4], .int .i64 no]) ∧ ∃ W w2, Below w.heap.size w W ∧ w.heap.size < W.heap.size ∧ P W w2 ∧ w' = (((w2.setCell ⟨w.heap.size, 0, none⟩ (.int .i64 m1)).setCell ⟨w.heap.size, 1, none⟩ (.int .i64 m2)).setCell ⟨w.heap.size, 2, none⟩ (.int .i64 m3)).setCell ⟨w.heap.size, 3, none⟩ (.int .i64 m4) := by
  have ci := fun W => code_isSize n W hn
  rw [hf] at ci
  have cz := fun W => code_sized n W
  have f0 := @field_k0
  have f1 := @field_k1
  have HPW := hidb h
  have ks := h.ks
  have hb0 : Below w.heap.size w (w.alloc (.cells #[.int .i64 0, .int .i64 0, .int .i64 0, .int .i64 0] 50)) := (Below.refl _ _).alloc (Nat.le_refl _) _
  have HB0 := hidb hb0
  have hzz : w.heap.size < (w.alloc (.cells #[.int .i64 0, .int .i64 0, .int .i64 0, .int .i64 0] 50)).heap.size := by simp
  have HC : Hid (∀ W, Below (w.alloc (.cells #[.int .i64 0, .int .i64 0, .int .i64 0, .int .i64 0] 50)).heap.size (w.alloc (.cells #[.int .i64 0, .int .i64 0, .int .i64 0, .int .i64 0] 50)) W →
      W.heap[w.heap.size]? = some (.cells #[.int .i64 0, .int .i64 0, .int .i64 0, .int .i64 0] 50 (0, 0))) := hidb (fun W hb => (hb.block _ hzz).trans (by show (w.heap.push _)[w.heap.size]? = _; simp))
  have HT : Hid (∀ w2, Below w.heap.size w w2 → Calls Tryz.prog 78 #[.slice K kept.length kc, .func (.func 129) #[] #[.pointer (some ⟨w2.heap.size, 0, none⟩)]] (w2.alloc (.cells #[.int .i64 n] 3)) fun e w' => ∃ A c, e = .returned (.slice A 0 c) ∧ Hid (Below w2.heap.size w2 w')) := hidb (fun w2 hb => by
    have hb2 := bel_al2 hb (.cells #[.int .i64 n] 3)
    refine (code_those K kept.length kc kept w2.heap.size n _ (RowOf.more (RowOf.below HPW.out.kn hb2) hb2.size) (by omega) (by simp)).mono ?_
    rw [hl]
    rintro e w' ⟨A, c, rfl, h1, h2⟩
    exact ⟨A, c, rfl, hidb (((Below.refl _ _).alloc (Nat.le_refl _) _).trans (h2.mono (by simp)))⟩)
  have HM : Hid (∀ W, Below (w.alloc (.cells #[.int .i64 0, .int .i64 0, .int .i64 0, .int .i64 0] 50)).heap.size (w.alloc (.cells #[.int .i64 0, .int .i64 0, .int .i64 0, .int .i64 0] 50)) W → Calls Tryz.prog 55 #[.pointer hp, .int .i64 n, .int .i64 (-1)] W fun e w' => e = .returned (.tuple #[.agg #[.int .i64 m1, .int .i64 m2, .int .i64 m3, .int .i64 m4], .int .i64 no]) ∧ w'.heap[w.heap.size]? = some (.cells #[.int .i64 0, .int .i64 0, .int .i64 0, .int .i64 0] 50 (0, 0)) ∧ Hid (∃ W, Below w.heap.size w W ∧ w.heap.size < W.heap.size ∧ P W w')) := hidb (fun W hb => by
    have hbW := bel_tr2 HB0.out hb
    have hlt : w.heap.size < W.heap.size := Nat.lt_of_lt_of_le hzz hb.size
    refine (hm W hbW).mono ?_
    rintro e w' ⟨rfl, hp⟩
    exact ⟨rfl, (hP W w' hbW hlt hp).trans (HC.out W hb), hidb ⟨W, hbW, hlt, hp⟩⟩)
  obtain ⟨kl, hkl⟩ : ∃ kl, kept.length = kl := ⟨_, rfl⟩
  have HCP : Hid (∀ W, Below w.heap.size w W → Calls Tryz.prog 79 #[.pointer kv] W fun e w' => e = .returned (.agg #[.pointer hp, .slice K kl kc, .slice V waits.length vc, .bool held]) ∧ Below W.heap.size W w') := hidb (by rw [← hkl]; exact HPW.out.call)
  rw [hkl] at HT
  clear hkl hb0 hf hn hl hm hP h HPW ks
  go_enter Tryz.func34, Tryz.ntmps34
  have hbz := Below.refl (w.alloc (.cells #[.int .i64 0, .int .i64 0, .int .i64 0, .int .i64 0] 50)).heap.size (w.alloc (.cells #[.int .i64 0, .int .i64 0, .int .i64 0, .int .i64 0] 50))
  go_wp2_with (first
    | (go_at_call 77; (with_reducible refine (ci _).mono ?_); rintro e w1 ⟨rfl, hb1⟩; replace hbz := bel_tr2 hbz hb1; clear hb1)
    | (go_at_call 79; (with_reducible refine (HCP.out _ (bel_tr2 HB0.out hbz)).mono ?_); rintro e w2 ⟨rfl, hb2⟩; replace hbz := bel_tr2 hbz hb2; clear hb2)
    | (go_at_call 80; (with_reducible refine (cz _).mono ?_); rintro e w3 ⟨rfl, rfl⟩)
    | (go_at_call 78; (with_reducible refine (HT.out _ (bel_tr2 HB0.out hbz)).mono ?_); rintro e w4 ⟨A4, c4, rfl, hx4⟩; replace hbz := bel_tr2 hbz hx4.out; clear hx4)
    | (go_at_call 55; (with_reducible refine (HM.out _ hbz).mono ?_); rintro e w5 ⟨rfl, hc5, hx5⟩; obtain ⟨q0, q1, q2, q3, z0, z1, z2, z3⟩ := cells4 hc5; have hlt1 : w.heap.size < w5.heap.size := lt_of_cell q0))
  obtain ⟨x0, x1, x2, x3⟩ := four_cellsH w5 w.heap.size (.int .i64 m1) (.int .i64 m2) (.int .i64 m3) (.int .i64 m4) _ _ _ _ q0 q1 q2 q3
  refine bodyPost_ret (v := .tuple #[.agg #[.int .i64 m1, .int .i64 m2, .int .i64 m3, .int .i64 m4], .int .i64 no]) (by simp [results, Tryz.results34, go_sem, x0, x1, x2, x3]) rfl ?_
  obtain ⟨W, p1, p2, p3⟩ := hx5.out
  exact ⟨rfl, W, w5, p1, p2, p3, rfl⟩

/-- Take of no keeper. -/
theorem code_ktake_nil (n : Int) (hn : in64 n) (hf : lFits n = true) (w : World) : Calls Tryz.prog 34 #[.pointer none, .int .i64 n] w (NoSpan w 3) := by
  have h4 : 4 ≤ n := by
    unfold lFits at hf
    rw [Bool.and_eq_true, decide_eq_true_iff] at hf
    exact hf.1
  refine (code_ktake_new_of (parts_nil w) n hn hf rfl 0 0 0 0 3 (fun W w' => Below W.heap.size W w') (fun W _ => (code_hmake_nil n (-1) hn (by omega) W)) (fun W w' _ hlt hb => hb.block _ hlt)).mono ?_
  rintro e w' ⟨rfl, W, w2, h1, h2, h3, rfl⟩
  exact ⟨rfl, below_set4H (bel_tr2 h1 h3) (Nat.le_refl _) _ _ _ _⟩

section
variable {w w' : World} {Sh : Nat → Prop} {p hp : Nat} {K V : Option Addr} {kc vc : Nat} {v : LargeV}
theorem KpAt.keep {S' : Nat → Prop} (k : KpAt w Sh p hp K kc V vc v) (hK : Kept S' w w') (hn : ∀ b, KpS Sh p K V b → ¬ S' b) : KpAt w' Sh p hp K kc V vc v := by
  have hb := hK.block p k.ltp (hn p (Or.inr (Or.inl rfl)))
  have hc : ∀ j, w'.cell? ⟨p, j, none⟩ = w.cell? ⟨p, j, none⟩ := fun j => World.cell?_of_block (w := w) (a := ⟨p, j, none⟩) hb
  exact ⟨(hc 0).trans k.c0, (hc 1).trans k.c1, (hc 2).trans k.c2, (hc 3).trans k.c3, fun j => (World.frozen?_of_block (w := w) (a := ⟨p, j, none⟩) hb).trans (k.fz j), own_kept k.k1 hK (fun b e => hn b (Or.inr (Or.inr (Or.inl ((ab_eq K _ _).symm.trans e))))), own_kept k.k2 hK (fun b e => hn b (Or.inr (Or.inr (Or.inr ((ab_eq V _ _).symm.trans e))))), k.hp_.keep hK fun b h => hn b (Or.inl h), k.lk, k.lv, k.n1, k.n2, k.n3, k.n4⟩
/-- A block of the call's own, that is none of the keeper's, is written. -/
theorem KpAt.own4 {S : Nat → Prop} {X : World} (k : KpAt X Sh p hp K kc V vc v) (hK : Kept S w X) (hS : ∀ b, KpS Sh p K V b → S b ∨ w.heap.size ≤ b) {q : Nat} (hq : w.heap.size ≤ q) (hn : ¬ KpS Sh p K V q) (u0 u1 u2 u3 : Value) : KWent w S p hp ((((X.setCell ⟨q, 0, none⟩ u0).setCell ⟨q, 1, none⟩ u1).setCell ⟨q, 2, none⟩ u2).setCell ⟨q, 3, none⟩ u3) v := by
  have h4 := kept_set4 (W := X) (q := q) u0 u1 u2 u3
  refine (k.keep h4 fun b hb e => hn (by have e2 : b = q := e; rw [← e2]; exact hb)).went (hK.trans h4 fun b hb e => ?_) hS
  have e2 : b = q := e
  omega
/-- Take, where the heap is asked. -/
theorem code_ktake_new (k : KpAt w Sh p hp K kc V vc v) (n : Int) (hn : in64 n) (hf : lFits n = true) (hl : lOf v.kept n = []) (hlb : v.h.last + 1 ≤ 1000000000) :
    Calls Tryz.prog 34 #[.pointer (some ⟨p, 0, none⟩), .int .i64 n] w (SaidK w (KpS Sh p K V) p hp { v with h := (hMake v.h n (-1)).1 } (.tuple #[spv (hMake v.h n (-1)).2.1, .int .i64 (hMake v.h n (-1)).2.2])) := by
  have HK := hidb k
  obtain ⟨⟨h', ⟨m1, m2, m3, m4⟩, no⟩, hr⟩ : ∃ r, hMake v.h n (-1) = r := ⟨_, rfl⟩
  rw [hr]
  refine (code_ktake_new_of k.parts n hn hf hl m1 m2 m3 m4 no (fun W w' => Hp w' (more Sh W w') hp h' ∧ Kept Sh W w') (fun W hb => ?_) (fun W w' hb hlt h => h.2.block _ hlt fun c => ?_)).mono ?_
  · refine (code_hmake (k.hp_.below hb) n (-1) hn ⟨by omega, by omega⟩ hlb).mono ?_
    rw [hr]
    rintro e w' ⟨rfl, h1, h2⟩
    exact ⟨rfl, h1, h2⟩
  · have := k.hp_.lt _ c
    omega
  · rintro e w' ⟨rfl, W, w2, h1, h2, ⟨h3, h4⟩, rfl⟩
    refine ⟨rfl, ?_⟩
    have kW := k.below h1
    obtain ⟨q1, q2⟩ := kW.heap_ h3 h4
    have hlt := k.lt
    refine q1.own4 ((Kept.of_below h1 _).trans h4 fun b _ h => Or.inl h) (fun b hb => (q2 b hb).imp id (fun h => Nat.le_trans h1.size h)) (Nat.le_refl _) (fun c => ?_) _ _ _ _
    rcases q2 _ c with h | h
    · have := hlt _ h
      omega
    · omega

set_option maxHeartbeats 2000000 in
set_option maxRecDepth 100000 in
/-- Take, where one is kept. -/
theorem code_ktake_last (k : KpAt w Sh p hp K kc V vc v) (n : Int) (hn : in64 n) (hf : lFits n = true) (ls : List Spn) (s : Spn) (hl : lOf v.kept n = ls ++ [s]) :
    Calls Tryz.prog 34 #[.pointer (some ⟨p, 0, none⟩), .int .i64 n] w (SaidK w (KpS Sh p K V) p hp { v with kept := v.kept.filter fun x => !decide (x = s) } (.tuple #[spv s, .int .i64 0])) := by
  have ci := fun W => code_isSize n W hn
  rw [hf] at ci
  have cz := fun W => code_sized n W
  have f1 := @field_k1
  have HK := hidb k
  have hpl := k.ltp
  have hkl1024 := k.lk
  have hlenL : (lOf v.kept n).length ≤ 1024 := Nat.le_trans (List.length_filter_le _ _) k.lk
  obtain ⟨ln, hln⟩ : ∃ ln, ls.length = ln := ⟨_, rfl⟩
  have hlen1 : (lOf v.kept n).length = ln + 1 := by rw [hl, List.length_append, hln]; rfl
  rw [hlen1] at hlenL
  have HB0 : Hid (Below w.heap.size w (w.alloc (.cells #[.int .i64 0, .int .i64 0, .int .i64 0, .int .i64 0] 50))) := hidb ((Below.refl _ _).alloc (Nat.le_refl _) _)
  have hzz : w.heap.size < (w.alloc (.cells #[.int .i64 0, .int .i64 0, .int .i64 0, .int .i64 0] 50)).heap.size := by simp
  have HC : Hid (∀ W, Below (w.alloc (.cells #[.int .i64 0, .int .i64 0, .int .i64 0, .int .i64 0] 50)).heap.size (w.alloc (.cells #[.int .i64 0, .int .i64 0, .int .i64 0, .int .i64 0] 50)) W → W.heap[w.heap.size]? = some (.cells #[.int .i64 0, .int .i64 0, .int .i64 0, .int .i64 0] 50 (0, 0))) := hidb (fun W hb => (hb.block _ hzz).trans (by show (w.heap.push _)[w.heap.size]? = _; simp))
  have HT : Hid (∀ w2, Below w.heap.size w w2 → Calls Tryz.prog 78 #[.slice K v.kept.length kc, .func (.func 129) #[] #[.pointer (some ⟨w2.heap.size, 0, none⟩)]] (w2.alloc (.cells #[.int .i64 n] 3)) fun e w' => ∃ A c, e = .returned (.slice A (ln + 1) c) ∧ Hid (Below w2.heap.size w2 w' ∧ Sn w' w'.heap.size A (ln + 1) (ls ++ [s]))) := hidb (fun w2 hb => by
    have hb2 := bel_al2 hb (.cells #[.int .i64 n] 3)
    refine (code_those K v.kept.length kc v.kept w2.heap.size n _ (RowOf.more (RowOf.below HK.out.parts.kn hb2) hb2.size) (by omega) (by simp)).mono ?_
    rintro e w' ⟨A, c, rfl, h1, h2⟩
    rw [hlen1] at h1
    rw [hlen1]
    refine ⟨A, c, rfl, hidb ⟨((Below.refl _ _).alloc (Nat.le_refl _) _).trans (h2.mono (by simp)), ?_⟩⟩
    rw [hl] at h1
    exact RowOf.of_own scells_len h1 (by rw [List.length_append, hln]; rfl))
  obtain ⟨s1, s2, s3, s4⟩ := s
  have HSn : Hid (∀ w4 A, Below w.heap.size w w4 → Sn w4 w4.heap.size A (ln + 1) (ls ++ [(s1, s2, s3, s4)]) → ∃ b off, A = some ⟨b, off, none⟩ ∧ w4.cell? ⟨b, off + ln * 4, none⟩ = some (.int .i64 s1) ∧ w4.cell? ⟨b, off + ln * 4 + 1, none⟩ = some (.int .i64 s2) ∧ w4.cell? ⟨b, off + ln * 4 + 2, none⟩ = some (.int .i64 s3) ∧ w4.cell? ⟨b, off + ln * 4 + 3, none⟩ = some (.int .i64 s4)) := hidb (fun w4 A hb hs => by
    obtain ⟨b, off, i, s, k, o, e, hx, hc0, hc1, hc2, hc3⟩ := Sn.span hs (j := ln) (by omega)
    rw [← hln, List.getElem?_append_right (Nat.le_refl _), Nat.sub_self] at hx
    have hx2 : (s1, s2, s3, s4) = (i, s, k, o) := by simpa using hx
    injection hx2 with e1 e2
    injection e2 with e2 e3
    injection e3 with e3 e4
    subst e1 e2 e3 e4
    exact ⟨b, off, e, hc0, hc1, hc2, hc3⟩)
  have CS : Hid (∀ W w4, Below (w.alloc (.cells #[.int .i64 0, .int .i64 0, .int .i64 0, .int .i64 0] 50)).heap.size (w.alloc (.cells #[.int .i64 0, .int .i64 0, .int .i64 0, .int .i64 0] 50)) w4 → Below (w4.alloc (.cells #[.int .i64 s1, .int .i64 s2, .int .i64 s3, .int .i64 s4] 50)).heap.size (w4.alloc (.cells #[.int .i64 s1, .int .i64 s2, .int .i64 s3, .int .i64 s4] 50)) W → Calls Tryz.prog 82 #[.agg #[.int .i64 s1, .int .i64 s2, .int .i64 s3, .int .i64 s4]] W fun e w' => ∃ t, e = .returned (.func (.func 131) #[] #[.pointer (some ⟨t, 0, none⟩)]) ∧ Hid (Below (w4.alloc (.cells #[.int .i64 s1, .int .i64 s2, .int .i64 s3, .int .i64 s4] 50)).heap.size (w4.alloc (.cells #[.int .i64 s1, .int .i64 s2, .int .i64 s3, .int .i64 s4] 50)) w' ∧ SpAt w' t (s1, s2, s3, s4) ∧ (w4.alloc (.cells #[.int .i64 s1, .int .i64 s2, .int .i64 s3, .int .i64 s4] 50)).heap.size ≤ t)) := hidb (fun W w4 _ hb => by
    refine (code_same (s1, s2, s3, s4) W).mono ?_
    rintro e w' ⟨rfl, rfl⟩
    exact ⟨W.heap.size, rfl, hidb ⟨bel_al2 hb _, SpAt.new_ W (s1, s2, s3, s4) _, hb.size⟩⟩)
  have HQ : Hid (∀ W w4, Below (w.alloc (.cells #[.int .i64 0, .int .i64 0, .int .i64 0, .int .i64 0] 50)).heap.size (w.alloc (.cells #[.int .i64 0, .int .i64 0, .int .i64 0, .int .i64 0] 50)) w4 → Below (w4.alloc (.cells #[.int .i64 s1, .int .i64 s2, .int .i64 s3, .int .i64 s4] 50)).heap.size (w4.alloc (.cells #[.int .i64 s1, .int .i64 s2, .int .i64 s3, .int .i64 s4] 50)) W → W.cell? ⟨p, 1, none⟩ = some (.slice K v.kept.length kc) ∧ W.frozen? ⟨p, 1, none⟩ = false ∧ W.cell? ⟨w4.heap.size, 0, none⟩ = some (.int .i64 s1) ∧ W.cell? ⟨w4.heap.size, 1, none⟩ = some (.int .i64 s2) ∧ W.cell? ⟨w4.heap.size, 2, none⟩ = some (.int .i64 s3) ∧ W.cell? ⟨w4.heap.size, 3, none⟩ = some (.int .i64 s4)) := hidb (fun W w4 hb4 hb => by
    have hbW : Below w.heap.size w W := bel_tr2 (bel_al2 (bel_tr2 HB0.out hb4) _) hb
    have kW := HK.out.below hbW
    exact ⟨kW.c1, kW.fz 1, (SpAt.new_ w4 (s1, s2, s3, s4) 50).below hb (by simp)⟩)
  have CD : Hid (∀ W w4 t, Below (w.alloc (.cells #[.int .i64 0, .int .i64 0, .int .i64 0, .int .i64 0] 50)).heap.size (w.alloc (.cells #[.int .i64 0, .int .i64 0, .int .i64 0, .int .i64 0] 50)) w4 → Hid (Below (w4.alloc (.cells #[.int .i64 s1, .int .i64 s2, .int .i64 s3, .int .i64 s4] 50)).heap.size (w4.alloc (.cells #[.int .i64 s1, .int .i64 s2, .int .i64 s3, .int .i64 s4] 50)) W ∧ SpAt W t (s1, s2, s3, s4) ∧ (w4.alloc (.cells #[.int .i64 s1, .int .i64 s2, .int .i64 s3, .int .i64 s4] 50)).heap.size ≤ t) → Calls Tryz.prog 81 #[.slice K v.kept.length kc, .func (.func 131) #[] #[.pointer (some ⟨t, 0, none⟩)]] W fun e w' => ∃ A m c, e = .returned (.slice A m c) ∧ (∃ u, w'.cell? ⟨p, 1, none⟩ = some u) ∧ w'.frozen? ⟨p, 1, none⟩ = false ∧ SpAt (w'.setCell ⟨p, 1, none⟩ (.slice A m c)) w4.heap.size (s1, s2, s3, s4) ∧ (w'.setCell ⟨p, 1, none⟩ (.slice A m c)).heap[w.heap.size]? = some (.cells #[.int .i64 0, .int .i64 0, .int .i64 0, .int .i64 0] 50 (0, 0)) ∧ Hid (∀ u0 u1 u2 u3, KWent w (KpS Sh p K V) p hp (((((w'.setCell ⟨p, 1, none⟩ (.slice A m c)).setCell ⟨w.heap.size, 0, none⟩ u0).setCell ⟨w.heap.size, 1, none⟩ u1).setCell ⟨w.heap.size, 2, none⟩ u2).setCell ⟨w.heap.size, 3, none⟩ u3) { v with kept := v.kept.filter fun x => !decide (x = (s1, s2, s3, s4)) })) := hidb (fun W w4 t hb4 hx => by
    obtain ⟨hb, hsp, ht⟩ := hx.out
    have hbW : Below w.heap.size w W := bel_tr2 (bel_al2 (bel_tr2 HB0.out hb4) _) hb
    have kW := HK.out.below hbW
    have hz4 : w.heap.size < w4.heap.size := Nat.lt_of_lt_of_le hzz hb4.size
    have hz5 : (w4.alloc (.cells #[.int .i64 s1, .int .i64 s2, .int .i64 s3, .int .i64 s4] 50)).heap.size = w4.heap.size + 1 := by simp
    have hzW := hb.size
    have hKlt : ∀ b, ab K = some b → b < w.heap.size := fun b e => own_block_lt HK.out.k1 e
    refine (code_sdel 131 #[.pointer (some ⟨t, 0, none⟩)] enters_same (fun x => decide (x = (s1, s2, s3, s4))) K v.kept.length kc v.kept W 0 kW.k1 rfl (by omega) (fun W2 hg x _ => code_same1 x t (s1, s2, s3, s4) W2 (hsp.grown hg fun e => by
      have := hKlt t ((ab_eq K _ _).symm.trans e.symm)
      omega))).mono ?_
    rintro e w' ⟨A, c, rfl, h1, h2, h3⟩
    have h2' : W.grownBy w' (ab K) := by rw [ab_eq] at h2; exact h2
    have h3' : ab A = ab K := by rw [ab_eq, ab_eq] at h3; exact h3
    have hml : (v.kept.filter fun x => !decide (x = (s1, s2, s3, s4))).length ≤ 1024 := Nat.le_trans (List.length_filter_le _ _) HK.out.lk
    obtain ⟨r1, r2, r3⟩ := kW.kept_ (l' := v.kept.filter fun x => !decide (x = (s1, s2, s3, s4))) h2' h1 (Or.inl h3') rfl hml
    obtain ⟨hc, hf⟩ := kW.cellsG h2' (fun e => (kW.n2 p e.symm).1 rfl)
    have hne : ∀ b, w.heap.size ≤ b → b < W.heap.size → (w'.setCell ⟨p, 1, none⟩ (.slice A (v.kept.filter fun x => !decide (x = (s1, s2, s3, s4))).length c)).heap[b]? = W.heap[b]? := fun b h4 h5 => r2.block b h5 fun c2 => by have := HK.out.lt b c2; omega
    refine ⟨A, _, c, rfl, ⟨_, (hc 1).trans kW.c1⟩, hf 1, ?_, ?_, hidb fun u0 u1 u2 u3 => ?_⟩
    · have h5 : SpAt W w4.heap.size (s1, s2, s3, s4) := (SpAt.new_ w4 (s1, s2, s3, s4) 50).below hb (by simp)
      have h6 := hne w4.heap.size (by omega) (by omega)
      exact ⟨(World.cell?_of_block (w := W) (a := ⟨w4.heap.size, 0, none⟩) h6).trans h5.1, (World.cell?_of_block (w := W) (a := ⟨w4.heap.size, 1, none⟩) h6).trans h5.2.1, (World.cell?_of_block (w := W) (a := ⟨w4.heap.size, 2, none⟩) h6).trans h5.2.2.1, (World.cell?_of_block (w := W) (a := ⟨w4.heap.size, 3, none⟩) h6).trans h5.2.2.2⟩
    · rw [hne w.heap.size (Nat.le_refl _) (by omega)]
      exact HC.out W (bel_tr2 (bel_al2 hb4 _) hb)
    · refine r1.own4 ((Kept.of_below hbW _).trans r2 fun _ _ h => h) (fun b h => (r3 b h).imp id fun h => Nat.le_trans hbW.size h) (Nat.le_refl _) (fun c2 => ?_) u0 u1 u2 u3
      rcases r3 _ c2 with h | h
      · have := HK.out.lt _ h
        omega
      · omega)
  obtain ⟨kl, hkl⟩ : ∃ kl, v.kept.length = kl := ⟨_, rfl⟩
  have HCP : Hid (∀ W, Below w.heap.size w W → Calls Tryz.prog 79 #[.pointer (some ⟨p, 0, none⟩)] W fun e w' => e = .returned (.agg #[.pointer (some ⟨hp, 0, none⟩), .slice K kl kc, .slice V v.waits.length vc, .bool v.held]) ∧ Below W.heap.size W w') := hidb (by rw [← hkl]; exact HK.out.parts.call)
  rw [hkl] at HT CD HQ
  clear hkl hf hn hl hlen1 hln k HK hkl1024
  have hl0 : ((ln : Int) + 1 - 1) = ln := by omega
  unfold spv
  simp only
  go_enter Tryz.func34, Tryz.ntmps34
  have hbz := Below.refl (w.alloc (.cells #[.int .i64 0, .int .i64 0, .int .i64 0, .int .i64 0] 50)).heap.size (w.alloc (.cells #[.int .i64 0, .int .i64 0, .int .i64 0, .int .i64 0] 50))
  go_wp2_with (first
    | (go_at_call 77; (with_reducible refine (ci _).mono ?_); rintro e w1 ⟨rfl, hb1⟩; replace hbz := bel_tr2 hbz hb1; clear hb1)
    | (go_at_call 79; (with_reducible refine (HCP.out _ (bel_tr2 HB0.out hbz)).mono ?_); rintro e w2 ⟨rfl, hb2⟩; replace hbz := bel_tr2 hbz hb2; clear hb2)
    | (go_at_call 80; (with_reducible refine (cz _).mono ?_); rintro e w3 ⟨rfl, rfl⟩)
    | (go_at_call 78; (with_reducible refine (HT.out _ (bel_tr2 HB0.out hbz)).mono ?_); rintro e w4 ⟨A4, c4, rfl, hx4⟩; replace hbz := bel_tr2 hbz hx4.out.1; obtain ⟨b4, off4, rfl, y0, y1, y2, y3⟩ := HSn.out w4 A4 (bel_tr2 HB0.out hbz) hx4.out.2; clear hx4))
  obtain ⟨a0, a1, a2, a3, a4, a5⟩ := HQ.out (w4.alloc (.cells #[.int .i64 s1, .int .i64 s2, .int .i64 s3, .int .i64 s4] 50)) w4 hbz (Below.refl _ _)
  have HBZ := hidb hbz
  clear hbz y0 y1 y2 y3 HT HCP HSn
  go_region_law (first
    | (go_simp; go_at_call 82; (with_reducible refine (CS.out _ w4 HBZ.out (by repeat (first | with_reducible exact Below.refl _ _ | with_reducible apply bel_al2 | with_reducible apply bel_dr2))).mono ?_); rintro e w9 ⟨t, rfl, hx9⟩; obtain ⟨d0, d1, d2, d3, d4, d5⟩ := HQ.out w9 w4 HBZ.out hx9.out.1)
    | (go_simp; go_at_call 81; (with_reducible refine (CD.out _ w4 _ HBZ.out hx9).mono ?_); rintro e w10 ⟨A, m, c, rfl, ⟨u, hu⟩, hfz, hsp, hr, HF⟩; have HSP := hidb hsp; have HR := hidb hr; clear hsp hr))
  all_goals
    generalize w10.setCell ⟨p, 1, none⟩ (.slice A m c) = X at HSP HR HF ⊢
    obtain ⟨g0, g1, g2, g3⟩ := HSP.out.cells
    obtain ⟨q0, q1, q2, q3, z0, z1, z2, z3⟩ := cells4 HR.out
    have hlt1 : w.heap.size < X.heap.size := lt_of_cell q0
    obtain ⟨x0, x1, x2, x3⟩ := four_cellsH X w.heap.size (.int .i64 s1) (.int .i64 s2) (.int .i64 s3) (.int .i64 s4) _ _ _ _ q0 q1 q2 q3
    go_wp2
    refine bodyPost_ret (v := .tuple #[.agg #[.int .i64 s1, .int .i64 s2, .int .i64 s3, .int .i64 s4], .int .i64 0]) (by simp [results, Tryz.results34, go_sem, x0, x1, x2, x3]) rfl ?_
    exact ⟨rfl, HF.out _ _ _ _⟩
/-- Take. -/
theorem code_ktake (k : KpAt w Sh p hp K kc V vc v) (n : Int) (hn : in64 n) (hlb : v.h.last + 1 ≤ 1000000000) :
    Calls Tryz.prog 34 #[.pointer (some ⟨p, 0, none⟩), .int .i64 n] w (SaidK w (KpS Sh p K V) p hp (lTake v n).1 (.tuple #[spv (lTake v n).2.1, .int .i64 (lTake v n).2.2])) := by
  cases hf : lFits n with
  | false =>
    have e : lTake v n = (v, spanNone, 1) := by unfold lTake; rw [if_pos hf]
    rw [e]
    refine (code_ktake_no _ n hn hf w).mono ?_
    rintro e w' ⟨rfl, hb⟩
    exact ⟨rfl, k.stay hb⟩
  | true =>
    rcases List.eq_nil_or_concat (lOf v.kept n) with hl | ⟨ls, s, hl⟩
    · have e : lTake v n = ({ v with h := (hMake v.h n (-1)).1 }, (hMake v.h n (-1)).2.1, (hMake v.h n (-1)).2.2) := by
        unfold lTake
        rw [if_neg (by rw [hf]; simp), hl]; rfl
      rw [e]
      exact code_ktake_new k n hn hf hl hlb
    · rw [List.concat_eq_append] at hl
      have e : lTake v n = ({ v with kept := v.kept.filter fun x => !decide (x = s) }, s, 0) := by
        unfold lTake
        rw [if_neg (by rw [hf]; simp), hl, List.getLast?_concat]
      rw [e]
      exact code_ktake_last k n hn hf ls s hl
end

end Go.Proofs.YtonmkanppapjjaaGreat
