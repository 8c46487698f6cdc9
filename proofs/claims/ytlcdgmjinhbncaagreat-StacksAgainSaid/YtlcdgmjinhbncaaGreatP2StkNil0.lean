/- Layer 10's keeper: Take. -/
import Derived.Test.YtlcdgmjinhbncaaGreatPLargePut
import Derived.Test.YtlcdgmjinhbncaaGreatPNamedMap
import Derived.Test.YtlcdgmjinhbncaaGreatPPoolReads2
import Derived.Test.YtlcdgmjinhbncaaGreatP2CacheLast
import Derived.Test.YtlcdgmjinhbncaaGreatPLargeIdx
namespace Go.Proofs.YtlcdgmjinhbncaaGreat
open Go.RowKit Go.Maps
set_option linter.unusedVariables false

/-- What Take answers, where there is no keeper or no such size. -/
theorem code_ktake_no (kv : Option Addr) (n : Int) (hn : in64 n) (hf : lFits n = false) (w : World) : Calls Tryz.prog 125 #[.pointer kv, .int .i64 n] w (NoSpan w 1) := by
  have ci := fun W => code_isSize n W hn
  rw [hf] at ci
  have hb0 : Below w.heap.size w (w.alloc (.cells #[.int .i64 0, .int .i64 0, .int .i64 0, .int .i64 0] 49)) := (Below.refl _ _).alloc (Nat.le_refl _) _
  have HB0 := hidb hb0
  have hzz : w.heap.size < (w.alloc (.cells #[.int .i64 0, .int .i64 0, .int .i64 0, .int .i64 0] 49)).heap.size := by simp
  have HC : Hid (∀ W, Below (w.alloc (.cells #[.int .i64 0, .int .i64 0, .int .i64 0, .int .i64 0] 49)).heap.size (w.alloc (.cells #[.int .i64 0, .int .i64 0, .int .i64 0, .int .i64 0] 49)) W →
      W.heap[w.heap.size]? = some (.cells #[.int .i64 0, .int .i64 0, .int .i64 0, .int .i64 0] 49 (0, 0))) := hidb (fun W hb => (hb.block _ hzz).trans (by show (w.heap.push _)[w.heap.size]? = _; simp))
  clear hb0 hf hn
  go_enter Tryz.func125, Tryz.ntmps125
  go_wp2_with (go_at_call 191; (with_reducible refine (ci _).mono ?_); rintro e w1 ⟨rfl, hb1⟩; obtain ⟨q0, q1, q2, q3, z0, z1, z2, z3⟩ := cells4 (HC.out _ hb1); have hlt1 : w.heap.size < w1.heap.size := lt_of_cell q0)
  obtain ⟨x0, x1, x2, x3⟩ := four_cellsH w1 w.heap.size (.int .i64 0) (.int .i64 0) (.int .i64 0) (.int .i64 0) _ _ _ _ q0 q1 q2 q3
  refine bodyPost_ret (v := .tuple #[.agg #[.int .i64 0, .int .i64 0, .int .i64 0, .int .i64 0], .int .i64 1]) (by simp [results, Tryz.results125, go_sem, x0, x1, x2, x3]) rfl ?_
  exact ⟨rfl, below_set4H (bel_tr2 HB0.out hb1) (Nat.le_refl _) _ _ _ _⟩

/-- Take, where none of so many pages is kept: the heap makes one, or none. -/
theorem code_ktake_new_of {w : World} {kv hp K V : Option Addr} {kc vc : Nat} {kept waits : List Spn} {held : Bool} (h : PartsOf w kv hp K kc V vc kept waits held) (n : Int) (hn : in64 n) (hf : lFits n = true) (hl : lOf kept n = []) (m1 m2 m3 m4 no : Int) (P : World → World → Prop)
    (hm : ∀ W, Below w.heap.size w W → Calls Tryz.prog 72 #[.pointer hp, .int .i64 n, .int .i64 (-1)] W fun e w' => e = .returned (.tuple #[.agg #[.int .i64 m1, .int .i64 m2, .int .i64 m3, .int .i64 m4], .int .i64 no]) ∧ P W w') (hP : ∀ W w', Below w.heap.size w W → w.heap.size < W.heap.size → P W w' → w'.heap[w.heap.size]? = W.heap[w.heap.size]?) :
    Calls Tryz.prog 125 #[.pointer kv, .int .i64 n] w fun e w' => e = .returned (.tuple #[.agg #[.int .i64 m1, .int .i64 m2, .int .i64 m3, .int .i64 m4], .int .i64 no]) ∧ ∃ W w2, Below w.heap.size w W ∧ w.heap.size < W.heap.size ∧ P W w2 ∧ w' = (((w2.setCell ⟨w.heap.size, 0, none⟩ (.int .i64 m1)).setCell ⟨w.heap.size, 1, none⟩ (.int .i64 m2)).setCell ⟨w.heap.size, 2, none⟩ (.int .i64 m3)).setCell ⟨w.heap.size, 3, none⟩ (.int .i64 m4) := by
  have ci := fun W => code_isSize n W hn
  rw [hf] at ci
  have cz := fun W => code_sized n W
  have f0 := @field_k0
  have f1 := @field_k1
  have HPW := hidb h
  have ks := h.ks
  have hb0 : Below w.heap.size w (w.alloc (.cells #[.int .i64 0, .int .i64 0, .int .i64 0, .int .i64 0] 49)) := (Below.refl _ _).alloc (Nat.le_refl _) _
  have HB0 := hidb hb0
  have hzz : w.heap.size < (w.alloc (.cells #[.int .i64 0, .int .i64 0, .int .i64 0, .int .i64 0] 49)).heap.size := by simp
  have HC : Hid (∀ W, Below (w.alloc (.cells #[.int .i64 0, .int .i64 0, .int .i64 0, .int .i64 0] 49)).heap.size (w.alloc (.cells #[.int .i64 0, .int .i64 0, .int .i64 0, .int .i64 0] 49)) W →
      W.heap[w.heap.size]? = some (.cells #[.int .i64 0, .int .i64 0, .int .i64 0, .int .i64 0] 49 (0, 0))) := hidb (fun W hb => (hb.block _ hzz).trans (by show (w.heap.push _)[w.heap.size]? = _; simp))
  have HT : Hid (∀ w2, Below w.heap.size w w2 → Calls Tryz.prog 179 #[.slice K kept.length kc, .func (.func 235) #[] #[.pointer (some ⟨w2.heap.size, 0, none⟩)]] (w2.alloc (.cells #[.int .i64 n] 3)) fun e w' => ∃ A c, e = .returned (.slice A 0 c) ∧ Hid (Below w2.heap.size w2 w')) := hidb (fun w2 hb => by
    have hb2 := bel_al2 hb (.cells #[.int .i64 n] 3)
    refine (code_those K kept.length kc kept w2.heap.size n _ (RowOf.more (RowOf.below HPW.out.kn hb2) hb2.size) (by omega) (by simp)).mono ?_
    rw [hl]
    rintro e w' ⟨A, c, rfl, h1, h2⟩
    exact ⟨A, c, rfl, hidb (((Below.refl _ _).alloc (Nat.le_refl _) _).trans (h2.mono (by simp)))⟩)
  have HM : Hid (∀ W, Below (w.alloc (.cells #[.int .i64 0, .int .i64 0, .int .i64 0, .int .i64 0] 49)).heap.size (w.alloc (.cells #[.int .i64 0, .int .i64 0, .int .i64 0, .int .i64 0] 49)) W → Calls Tryz.prog 72 #[.pointer hp, .int .i64 n, .int .i64 (-1)] W fun e w' => e = .returned (.tuple #[.agg #[.int .i64 m1, .int .i64 m2, .int .i64 m3, .int .i64 m4], .int .i64 no]) ∧ w'.heap[w.heap.size]? = some (.cells #[.int .i64 0, .int .i64 0, .int .i64 0, .int .i64 0] 49 (0, 0)) ∧ Hid (∃ W, Below w.heap.size w W ∧ w.heap.size < W.heap.size ∧ P W w')) := hidb (fun W hb => by
    have hbW := bel_tr2 HB0.out hb
    have hlt : w.heap.size < W.heap.size := Nat.lt_of_lt_of_le hzz hb.size
    refine (hm W hbW).mono ?_
    rintro e w' ⟨rfl, hp⟩
    exact ⟨rfl, (hP W w' hbW hlt hp).trans (HC.out W hb), hidb ⟨W, hbW, hlt, hp⟩⟩)
  obtain ⟨kl, hkl⟩ : ∃ kl, kept.length = kl := ⟨_, rfl⟩
  have HCP : Hid (∀ W, Below w.heap.size w W → Calls Tryz.prog 180 #[.pointer kv] W fun e w' => e = .returned (.agg #[.pointer hp, .slice K kl kc, .slice V waits.length vc, .bool held]) ∧ Below W.heap.size W w') := hidb (by rw [← hkl]; exact HPW.out.call)
  rw [hkl] at HT
  clear hkl hb0 hf hn hl hm hP h HPW ks
  go_enter Tryz.func125, Tryz.ntmps125
  have hbz := Below.refl (w.alloc (.cells #[.int .i64 0, .int .i64 0, .int .i64 0, .int .i64 0] 49)).heap.size (w.alloc (.cells #[.int .i64 0, .int .i64 0, .int .i64 0, .int .i64 0] 49))
  go_wp2_with (first
    | (go_at_call 191; (with_reducible refine (ci _).mono ?_); rintro e w1 ⟨rfl, hb1⟩; replace hbz := bel_tr2 hbz hb1; clear hb1)
    | (go_at_call 180; (with_reducible refine (HCP.out _ (bel_tr2 HB0.out hbz)).mono ?_); rintro e w2 ⟨rfl, hb2⟩; replace hbz := bel_tr2 hbz hb2; clear hb2)
    | (go_at_call 181; (with_reducible refine (cz _).mono ?_); rintro e w3 ⟨rfl, rfl⟩)
    | (go_at_call 179; (with_reducible refine (HT.out _ (bel_tr2 HB0.out hbz)).mono ?_); rintro e w4 ⟨A4, c4, rfl, hx4⟩; replace hbz := bel_tr2 hbz hx4.out; clear hx4)
    | (go_at_call 72; (with_reducible refine (HM.out _ hbz).mono ?_); rintro e w5 ⟨rfl, hc5, hx5⟩; obtain ⟨q0, q1, q2, q3, z0, z1, z2, z3⟩ := cells4 hc5; have hlt1 : w.heap.size < w5.heap.size := lt_of_cell q0))
  obtain ⟨x0, x1, x2, x3⟩ := four_cellsH w5 w.heap.size (.int .i64 m1) (.int .i64 m2) (.int .i64 m3) (.int .i64 m4) _ _ _ _ q0 q1 q2 q3
  refine bodyPost_ret (v := .tuple #[.agg #[.int .i64 m1, .int .i64 m2, .int .i64 m3, .int .i64 m4], .int .i64 no]) (by simp [results, Tryz.results125, go_sem, x0, x1, x2, x3]) rfl ?_
  obtain ⟨W, p1, p2, p3⟩ := hx5.out
  exact ⟨rfl, W, w5, p1, p2, p3, rfl⟩

section
variable {w w' : World} {Sh : Nat → Prop} {p hp : Nat} {K V : Option Addr} {kc vc : Nat} {v : LargeV}
theorem KpAt.keep {S' : Nat → Prop} (k : KpAt w Sh p hp K kc V vc v) (hK : Kept S' w w') (hn : ∀ b, KpS Sh p K V b → ¬ S' b) : KpAt w' Sh p hp K kc V vc v := by
  have hb := hK.block p k.ltp (hn p (Or.inr (Or.inl rfl)))
  have hc : ∀ j, w'.cell? ⟨p, j, none⟩ = w.cell? ⟨p, j, none⟩ := fun j => World.cell?_of_block (w := w) (a := ⟨p, j, none⟩) hb
  exact ⟨(hc 0).trans k.c0, (hc 1).trans k.c1, (hc 2).trans k.c2, (hc 3).trans k.c3, fun j => (World.frozen?_of_block (w := w) (a := ⟨p, j, none⟩) hb).trans (k.fz j), own_kept k.k1 hK (fun b e => hn b (Or.inr (Or.inr (Or.inl ((ab_eq K _ _).symm.trans e))))), own_kept k.k2 hK (fun b e => hn b (Or.inr (Or.inr (Or.inr ((ab_eq V _ _).symm.trans e))))), k.hp_.keep hK fun b h => hn b (Or.inl h), k.lk, k.lv, k.n1, k.n2, k.n3, k.n4⟩
/-- A block of the call's own, that is none of the keeper's, is written. -/
theorem KpAt.own4 {S : Nat → Prop} {X : World} (k : KpAt X Sh p hp K kc V vc v) (hK : Kept S w X) (hS : ∀ b, KpS Sh p K V b → S b ∨ w.heap.size ≤ b) {q : Nat} (hq : w.heap.size ≤ q) (hn : ¬ KpS Sh p K V q) (u0 u1 u2 u3 : Value) : KWent w S p hp ((((X.setCell ⟨q, 0, none⟩ u0).setCell ⟨q, 1, none⟩ u1).setCell ⟨q, 2, none⟩ u2).setCell ⟨q, 3, none⟩ u3) v := by
  have h4 := kept_set4 (W := X) (q := q) u0 u1 u2 u3
  refine (k.keep h4 fun b hb e => hn (by have e2 : b = q := e; rw [← e2]; exact hb)).went (hK.trans h4 fun b hb e => ?_) hS
  have e2 : b = q := e
  omega
/-- Take, where the heap is asked. -/
theorem code_ktake_new (k : KpAt w Sh p hp K kc V vc v) (n : Int) (hn : in64 n) (hf : lFits n = true) (hl : lOf v.kept n = []) (hlb : v.h.last + 1 ≤ 1000000000) :
    Calls Tryz.prog 125 #[.pointer (some ⟨p, 0, none⟩), .int .i64 n] w (SaidK w (KpS Sh p K V) p hp { v with h := (hMake v.h n (-1)).1 } (.tuple #[spv (hMake v.h n (-1)).2.1, .int .i64 (hMake v.h n (-1)).2.2])) := by
  have HK := hidb k
  obtain ⟨⟨h', ⟨m1, m2, m3, m4⟩, no⟩, hr⟩ : ∃ r, hMake v.h n (-1) = r := ⟨_, rfl⟩
  rw [hr]
  refine (code_ktake_new_of k.parts n hn hf hl m1 m2 m3 m4 no (fun W w' => Hp w' (more Sh W w') hp h' ∧ Kept Sh W w') (fun W hb => ?_) (fun W w' hb hlt h => h.2.block _ hlt fun c => ?_)).mono ?_
  · refine (code_hmake (k.hp_.below hb) n (-1) hn ⟨by omega, by omega⟩ hlb).mono ?_
    rw [hr]
    rintro e w' ⟨rfl, h1, h2⟩
    exact ⟨rfl, h1, h2⟩
  · have := k.hp_.lt _ c
    omega
  · rintro e w' ⟨rfl, W, w2, h1, h2, ⟨h3, h4⟩, rfl⟩
    refine ⟨rfl, ?_⟩
    have kW := k.below h1
    obtain ⟨q1, q2⟩ := kW.heap_ h3 h4
    have hlt := k.lt
    refine q1.own4 ((Kept.of_below h1 _).trans h4 fun b _ h => Or.inl h) (fun b hb => (q2 b hb).imp id (fun h => Nat.le_trans h1.size h)) (Nat.le_refl _) (fun c => ?_) _ _ _ _
    rcases q2 _ c with h | h
    · have := hlt _ h
      omega
    · omega

set_option maxHeartbeats 2000000 in
set_option maxRecDepth 100000 in
/-- Take, where one is kept. -/
theorem code_ktake_last (k : KpAt w Sh p hp K kc V vc v) (n : Int) (hn : in64 n) (hf : lFits n = true) (ls : List Spn) (s : Spn) (hl : lOf v.kept n = ls ++ [s]) :
    Calls Tryz.prog 125 #[.pointer (some ⟨p, 0, none⟩), .int .i64 n] w (SaidK w (KpS Sh p K V) p hp { v with kept := v.kept.filter fun x => !decide (x = s) } (.tuple #[spv s, .int .i64 0])) := by
  have ci := fun W => code_isSize n W hn
  rw [hf] at ci
  have cz := fun W => code_sized n W
  have f1 := @field_k1
  have HK := hidb k
  have hpl := k.ltp
  have hkl1024 := k.lk
  have hlenL : (lOf v.kept n).length ≤ 1024 := Nat.le_trans (List.length_filter_le _ _) k.lk
  obtain ⟨ln, hln⟩ : ∃ ln, ls.length = ln := ⟨_, rfl⟩
  have hlen1 : (lOf v.kept n).length = ln + 1 := by rw [hl, List.length_append, hln]; rfl
  rw [hlen1] at hlenL
  have HB0 : Hid (Below w.heap.size w (w.alloc (.cells #[.int .i64 0, .int .i64 0, .int .i64 0, .int .i64 0] 49))) := hidb ((Below.refl _ _).alloc (Nat.le_refl _) _)
  have hzz : w.heap.size < (w.alloc (.cells #[.int .i64 0, .int .i64 0, .int .i64 0, .int .i64 0] 49)).heap.size := by simp
  have HC : Hid (∀ W, Below (w.alloc (.cells #[.int .i64 0, .int .i64 0, .int .i64 0, .int .i64 0] 49)).heap.size (w.alloc (.cells #[.int .i64 0, .int .i64 0, .int .i64 0, .int .i64 0] 49)) W → W.heap[w.heap.size]? = some (.cells #[.int .i64 0, .int .i64 0, .int .i64 0, .int .i64 0] 49 (0, 0))) := hidb (fun W hb => (hb.block _ hzz).trans (by show (w.heap.push _)[w.heap.size]? = _; simp))
  have HT : Hid (∀ w2, Below w.heap.size w w2 → Calls Tryz.prog 179 #[.slice K v.kept.length kc, .func (.func 235) #[] #[.pointer (some ⟨w2.heap.size, 0, none⟩)]] (w2.alloc (.cells #[.int .i64 n] 3)) fun e w' => ∃ A c, e = .returned (.slice A (ln + 1) c) ∧ Hid (Below w2.heap.size w2 w' ∧ Sn w' w'.heap.size A (ln + 1) (ls ++ [s]))) := hidb (fun w2 hb => by
    have hb2 := bel_al2 hb (.cells #[.int .i64 n] 3)
    refine (code_those K v.kept.length kc v.kept w2.heap.size n _ (RowOf.more (RowOf.below HK.out.parts.kn hb2) hb2.size) (by omega) (by simp)).mono ?_
    rintro e w' ⟨A, c, rfl, h1, h2⟩
    rw [hlen1] at h1
    rw [hlen1]
    refine ⟨A, c, rfl, hidb ⟨((Below.refl _ _).alloc (Nat.le_refl _) _).trans (h2.mono (by simp)), ?_⟩⟩
    rw [hl] at h1
    exact RowOf.of_own scells_len h1 (by rw [List.length_append, hln]; rfl))
  obtain ⟨s1, s2, s3, s4⟩ := s
  have HSn : Hid (∀ w4 A, Below w.heap.size w w4 → Sn w4 w4.heap.size A (ln + 1) (ls ++ [(s1, s2, s3, s4)]) → ∃ b off, A = some ⟨b, off, none⟩ ∧ w4.cell? ⟨b, off + ln * 4, none⟩ = some (.int .i64 s1) ∧ w4.cell? ⟨b, off + ln * 4 + 1, none⟩ = some (.int .i64 s2) ∧ w4.cell? ⟨b, off + ln * 4 + 2, none⟩ = some (.int .i64 s3) ∧ w4.cell? ⟨b, off + ln * 4 + 3, none⟩ = some (.int .i64 s4)) := hidb (fun w4 A hb hs => by
    obtain ⟨b, off, i, s, k, o, e, hx, hc0, hc1, hc2, hc3⟩ := Sn.span hs (j := ln) (by omega)
    rw [← hln, List.getElem?_append_right (Nat.le_refl _), Nat.sub_self] at hx
    have hx2 : (s1, s2, s3, s4) = (i, s, k, o) := by simpa using hx
    injection hx2 with e1 e2
    injection e2 with e2 e3
    injection e3 with e3 e4
    subst e1 e2 e3 e4
    exact ⟨b, off, e, hc0, hc1, hc2, hc3⟩)
  have CS : Hid (∀ W w4, Below (w.alloc (.cells #[.int .i64 0, .int .i64 0, .int .i64 0, .int .i64 0] 49)).heap.size (w.alloc (.cells #[.int .i64 0, .int .i64 0, .int .i64 0, .int .i64 0] 49)) w4 → Below (w4.alloc (.cells #[.int .i64 s1, .int .i64 s2, .int .i64 s3, .int .i64 s4] 49)).heap.size (w4.alloc (.cells #[.int .i64 s1, .int .i64 s2, .int .i64 s3, .int .i64 s4] 49)) W → Calls Tryz.prog 187 #[.agg #[.int .i64 s1, .int .i64 s2, .int .i64 s3, .int .i64 s4]] W fun e w' => ∃ t, e = .returned (.func (.func 239) #[] #[.pointer (some ⟨t, 0, none⟩)]) ∧ Hid (Below (w4.alloc (.cells #[.int .i64 s1, .int .i64 s2, .int .i64 s3, .int .i64 s4] 49)).heap.size (w4.alloc (.cells #[.int .i64 s1, .int .i64 s2, .int .i64 s3, .int .i64 s4] 49)) w' ∧ SpAt w' t (s1, s2, s3, s4) ∧ (w4.alloc (.cells #[.int .i64 s1, .int .i64 s2, .int .i64 s3, .int .i64 s4] 49)).heap.size ≤ t)) := hidb (fun W w4 _ hb => by
    refine (code_same (s1, s2, s3, s4) W).mono ?_
    rintro e w' ⟨rfl, rfl⟩
    exact ⟨W.heap.size, rfl, hidb ⟨bel_al2 hb _, SpAt.new_ W (s1, s2, s3, s4) _, hb.size⟩⟩)
  have HQ : Hid (∀ W w4, Below (w.alloc (.cells #[.int .i64 0, .int .i64 0, .int .i64 0, .int .i64 0] 49)).heap.size (w.alloc (.cells #[.int .i64 0, .int .i64 0, .int .i64 0, .int .i64 0] 49)) w4 → Below (w4.alloc (.cells #[.int .i64 s1, .int .i64 s2, .int .i64 s3, .int .i64 s4] 49)).heap.size (w4.alloc (.cells #[.int .i64 s1, .int .i64 s2, .int .i64 s3, .int .i64 s4] 49)) W → W.cell? ⟨p, 1, none⟩ = some (.slice K v.kept.length kc) ∧ W.frozen? ⟨p, 1, none⟩ = false ∧ W.cell? ⟨w4.heap.size, 0, none⟩ = some (.int .i64 s1) ∧ W.cell? ⟨w4.heap.size, 1, none⟩ = some (.int .i64 s2) ∧ W.cell? ⟨w4.heap.size, 2, none⟩ = some (.int .i64 s3) ∧ W.cell? ⟨w4.heap.size, 3, none⟩ = some (.int .i64 s4)) := hidb (fun W w4 hb4 hb => by
    have hbW : Below w.heap.size w W := bel_tr2 (bel_al2 (bel_tr2 HB0.out hb4) _) hb
    have kW := HK.out.below hbW
    exact ⟨kW.c1, kW.fz 1, (SpAt.new_ w4 (s1, s2, s3, s4) 49).below hb (by simp)⟩)
  have CD : Hid (∀ W w4 t, Below (w.alloc (.cells #[.int .i64 0, .int .i64 0, .int .i64 0, .int .i64 0] 49)).heap.size (w.alloc (.cells #[.int .i64 0, .int .i64 0, .int .i64 0, .int .i64 0] 49)) w4 → Hid (Below (w4.alloc (.cells #[.int .i64 s1, .int .i64 s2, .int .i64 s3, .int .i64 s4] 49)).heap.size (w4.alloc (.cells #[.int .i64 s1, .int .i64 s2, .int .i64 s3, .int .i64 s4] 49)) W ∧ SpAt W t (s1, s2, s3, s4) ∧ (w4.alloc (.cells #[.int .i64 s1, .int .i64 s2, .int .i64 s3, .int .i64 s4] 49)).heap.size ≤ t) → Calls Tryz.prog 192 #[.slice K v.kept.length kc, .func (.func 239) #[] #[.pointer (some ⟨t, 0, none⟩)]] W fun e w' => ∃ A m c, e = .returned (.slice A m c) ∧ (∃ u, w'.cell? ⟨p, 1, none⟩ = some u) ∧ w'.frozen? ⟨p, 1, none⟩ = false ∧ SpAt (w'.setCell ⟨p, 1, none⟩ (.slice A m c)) w4.heap.size (s1, s2, s3, s4) ∧ (w'.setCell ⟨p, 1, none⟩ (.slice A m c)).heap[w.heap.size]? = some (.cells #[.int .i64 0, .int .i64 0, .int .i64 0, .int .i64 0] 49 (0, 0)) ∧ Hid (∀ u0 u1 u2 u3, KWent w (KpS Sh p K V) p hp (((((w'.setCell ⟨p, 1, none⟩ (.slice A m c)).setCell ⟨w.heap.size, 0, none⟩ u0).setCell ⟨w.heap.size, 1, none⟩ u1).setCell ⟨w.heap.size, 2, none⟩ u2).setCell ⟨w.heap.size, 3, none⟩ u3) { v with kept := v.kept.filter fun x => !decide (x = (s1, s2, s3, s4)) })) := hidb (fun W w4 t hb4 hx => by
    obtain ⟨hb, hsp, ht⟩ := hx.out
    have hbW : Below w.heap.size w W := bel_tr2 (bel_al2 (bel_tr2 HB0.out hb4) _) hb
    have kW := HK.out.below hbW
    have hz4 : w.heap.size < w4.heap.size := Nat.lt_of_lt_of_le hzz hb4.size
    have hz5 : (w4.alloc (.cells #[.int .i64 s1, .int .i64 s2, .int .i64 s3, .int .i64 s4] 49)).heap.size = w4.heap.size + 1 := by simp
    have hzW := hb.size
    have hKlt : ∀ b, ab K = some b → b < w.heap.size := fun b e => own_block_lt HK.out.k1 e
    refine (code_sdel 239 #[.pointer (some ⟨t, 0, none⟩)] enters_same (fun x => decide (x = (s1, s2, s3, s4))) K v.kept.length kc v.kept W 0 kW.k1 rfl (by omega) (fun W2 hg x _ => code_same1 x t (s1, s2, s3, s4) W2 (hsp.grown hg fun e => by
      have := hKlt t ((ab_eq K _ _).symm.trans e.symm)
      omega))).mono ?_
    rintro e w' ⟨A, c, rfl, h1, h2, h3⟩
    have h2' : W.grownBy w' (ab K) := by rw [ab_eq] at h2; exact h2
    have h3' : ab A = ab K := by rw [ab_eq, ab_eq] at h3; exact h3
    have hml : (v.kept.filter fun x => !decide (x = (s1, s2, s3, s4))).length ≤ 1024 := Nat.le_trans (List.length_filter_le _ _) HK.out.lk
    obtain ⟨r1, r2, r3⟩ := kW.kept_ (l' := v.kept.filter fun x => !decide (x = (s1, s2, s3, s4))) h2' h1 (Or.inl h3') rfl hml
    obtain ⟨hc, hf⟩ := kW.cellsG h2' (fun e => (kW.n2 p e.symm).1 rfl)
    have hne : ∀ b, w.heap.size ≤ b → b < W.heap.size → (w'.setCell ⟨p, 1, none⟩ (.slice A (v.kept.filter fun x => !decide (x = (s1, s2, s3, s4))).length c)).heap[b]? = W.heap[b]? := fun b h4 h5 => r2.block b h5 fun c2 => by have := HK.out.lt b c2; omega
    refine ⟨A, _, c, rfl, ⟨_, (hc 1).trans kW.c1⟩, hf 1, ?_, ?_, hidb fun u0 u1 u2 u3 => ?_⟩
    · have h5 : SpAt W w4.heap.size (s1, s2, s3, s4) := (SpAt.new_ w4 (s1, s2, s3, s4) 49).below hb (by simp)
      have h6 := hne w4.heap.size (by omega) (by omega)
      exact ⟨(World.cell?_of_block (w := W) (a := ⟨w4.heap.size, 0, none⟩) h6).trans h5.1, (World.cell?_of_block (w := W) (a := ⟨w4.heap.size, 1, none⟩) h6).trans h5.2.1, (World.cell?_of_block (w := W) (a := ⟨w4.heap.size, 2, none⟩) h6).trans h5.2.2.1, (World.cell?_of_block (w := W) (a := ⟨w4.heap.size, 3, none⟩) h6).trans h5.2.2.2⟩
    · rw [hne w.heap.size (Nat.le_refl _) (by omega)]
      exact HC.out W (bel_tr2 (bel_al2 hb4 _) hb)
    · refine r1.own4 ((Kept.of_below hbW _).trans r2 fun _ _ h => h) (fun b h => (r3 b h).imp id fun h => Nat.le_trans hbW.size h) (Nat.le_refl _) (fun c2 => ?_) u0 u1 u2 u3
      rcases r3 _ c2 with h | h
      · have := HK.out.lt _ h
        omega
      · omega)
  obtain ⟨kl, hkl⟩ : ∃ kl, v.kept.length = kl := ⟨_, rfl⟩
  have HCP : Hid (∀ W, Below w.heap.size w W → Calls Tryz.prog 180 #[.pointer (some ⟨p, 0, none⟩)] W fun e w' => e = .returned (.agg #[.pointer (some ⟨hp, 0, none⟩), .slice K kl kc, .slice V v.waits.length vc, .bool v.held]) ∧ Below W.heap.size W w') := hidb (by rw [← hkl]; exact HK.out.parts.call)
  rw [hkl] at HT CD HQ
  clear hkl hf hn hl hlen1 hln k HK hkl1024
  have hl0 : ((ln : Int) + 1 - 1) = ln := by omega
  unfold spv
  simp only
  go_enter Tryz.func125, Tryz.ntmps125
  have hbz := Below.refl (w.alloc (.cells #[.int .i64 0, .int .i64 0, .int .i64 0, .int .i64 0] 49)).heap.size (w.alloc (.cells #[.int .i64 0, .int .i64 0, .int .i64 0, .int .i64 0] 49))
  go_wp2_with (first
    | (go_at_call 191; (with_reducible refine (ci _).mono ?_); rintro e w1 ⟨rfl, hb1⟩; replace hbz := bel_tr2 hbz hb1; clear hb1)
    | (go_at_call 180; (with_reducible refine (HCP.out _ (bel_tr2 HB0.out hbz)).mono ?_); rintro e w2 ⟨rfl, hb2⟩; replace hbz := bel_tr2 hbz hb2; clear hb2)
    | (go_at_call 181; (with_reducible refine (cz _).mono ?_); rintro e w3 ⟨rfl, rfl⟩)
    | (go_at_call 179; (with_reducible refine (HT.out _ (bel_tr2 HB0.out hbz)).mono ?_); rintro e w4 ⟨A4, c4, rfl, hx4⟩; replace hbz := bel_tr2 hbz hx4.out.1; obtain ⟨b4, off4, rfl, y0, y1, y2, y3⟩ := HSn.out w4 A4 (bel_tr2 HB0.out hbz) hx4.out.2; clear hx4))
  obtain ⟨a0, a1, a2, a3, a4, a5⟩ := HQ.out (w4.alloc (.cells #[.int .i64 s1, .int .i64 s2, .int .i64 s3, .int .i64 s4] 49)) w4 hbz (Below.refl _ _)
  have HBZ := hidb hbz
  clear hbz y0 y1 y2 y3 HT HCP HSn
  go_region_law (first
    | (go_simp; go_at_call 187; (with_reducible refine (CS.out _ w4 HBZ.out (by repeat (first | with_reducible exact Below.refl _ _ | with_reducible apply bel_al2 | with_reducible apply bel_dr2))).mono ?_); rintro e w9 ⟨t, rfl, hx9⟩; obtain ⟨d0, d1, d2, d3, d4, d5⟩ := HQ.out w9 w4 HBZ.out hx9.out.1)
    | (go_simp; go_at_call 192; (with_reducible refine (CD.out _ w4 _ HBZ.out hx9).mono ?_); rintro e w10 ⟨A, m, c, rfl, ⟨u, hu⟩, hfz, hsp, hr, HF⟩; have HSP := hidb hsp; have HR := hidb hr; clear hsp hr))
  all_goals
    generalize w10.setCell ⟨p, 1, none⟩ (.slice A m c) = X at HSP HR HF ⊢
    obtain ⟨g0, g1, g2, g3⟩ := HSP.out.cells
    obtain ⟨q0, q1, q2, q3, z0, z1, z2, z3⟩ := cells4 HR.out
    have hlt1 : w.heap.size < X.heap.size := lt_of_cell q0
    obtain ⟨x0, x1, x2, x3⟩ := four_cellsH X w.heap.size (.int .i64 s1) (.int .i64 s2) (.int .i64 s3) (.int .i64 s4) _ _ _ _ q0 q1 q2 q3
    go_wp2
    refine bodyPost_ret (v := .tuple #[.agg #[.int .i64 s1, .int .i64 s2, .int .i64 s3, .int .i64 s4], .int .i64 0]) (by simp [results, Tryz.results125, go_sem, x0, x1, x2, x3]) rfl ?_
    exact ⟨rfl, HF.out _ _ _ _⟩
/-- Take. -/
theorem code_ktake (k : KpAt w Sh p hp K kc V vc v) (n : Int) (hn : in64 n) (hlb : v.h.last + 1 ≤ 1000000000) :
    Calls Tryz.prog 125 #[.pointer (some ⟨p, 0, none⟩), .int .i64 n] w (SaidK w (KpS Sh p K V) p hp (lTake v n).1 (.tuple #[spv (lTake v n).2.1, .int .i64 (lTake v n).2.2])) := by
  cases hf : lFits n with
  | false =>
    have e : lTake v n = (v, spanNone, 1) := by unfold lTake; rw [if_pos hf]
    rw [e]
    refine (code_ktake_no _ n hn hf w).mono ?_
    rintro e w' ⟨rfl, hb⟩
    exact ⟨rfl, k.stay hb⟩
  | true =>
    rcases List.eq_nil_or_concat (lOf v.kept n) with hl | ⟨ls, s, hl⟩
    · have e : lTake v n = ({ v with h := (hMake v.h n (-1)).1 }, (hMake v.h n (-1)).2.1, (hMake v.h n (-1)).2.2) := by
        unfold lTake
        rw [if_neg (by rw [hf]; simp), hl]; rfl
      rw [e]
      exact code_ktake_new k n hn hf hl hlb
    · rw [List.concat_eq_append] at hl
      have e : lTake v n = ({ v with kept := v.kept.filter fun x => !decide (x = s) }, s, 0) := by
        unfold lTake
        rw [if_neg (by rw [hf]; simp), hl, List.getLast?_concat]
      rw [e]
      exact code_ktake_last k n hn hf ls s hl
end

end Go.Proofs.YtlcdgmjinhbncaaGreat
/- Layer 10's keeper: Give. -/
namespace Go.Proofs.YtlcdgmjinhbncaaGreat
open Go.RowKit Go.Maps
set_option linter.unusedVariables false

theorem LOk.puts_at : ∀ {l : List Spn} {v : LargeV}, LOk v → l.Nodup → (∀ s ∈ l, Out v s) → ∀ (j : Nat) (s : Spn), l[j]? = some s → LOk ((l.take j).foldl lPut v) ∧ Out ((l.take j).foldl lPut v) s
  | [], v, o, _, _, j, s, h => by simp at h
  | x :: l, v, o, hd, hm, 0, s, h => by
    obtain rfl : x = s := by simpa using h
    exact ⟨o, hm x (List.mem_cons_self ..)⟩
  | x :: l, v, o, hd, hm, j + 1, s, h => by
    obtain ⟨p1, p2, p3, _⟩ := o.put (hm x (List.mem_cons_self ..))
    have hd2 := List.nodup_cons.1 hd
    exact LOk.puts_at (l := l) p1 hd2.2 (fun t ht => p3 t (fun e => hd2.1 (e ▸ ht)) (hm t (List.mem_cons_of_mem _ ht))) j s (by simpa using h)
/-- What Give does. -/
def GaveK (w : World) (S : Nat → Prop) (p hp : Nat) (r : LargeV × Int) (e : Ending) (w' : World) : Prop := e = .returned (.int .i64 r.2) ∧ KWent w S p hp w' r.1
theorem Sn.keptK {w w' : World} {S : Nat → Prop} {A : Option Addr} {n : Nat} {l : List Spn} (h : Sn w w.heap.size A n l) (hK : Kept S w w') (hn : ∀ a, A = some a → ¬ S a.block) : Sn w' w'.heap.size A n l := by
  refine ⟨h.1, fun hn' => ?_⟩
  obtain ⟨b, off, e, hb, hc⟩ := h.2 hn'
  refine ⟨b, off, e, Nat.lt_of_lt_of_le hb hK.size, fun j y hj => ?_⟩
  obtain ⟨cs, c1, c2, c3⟩ := hc j y hj
  exact ⟨cs, c1, fun k hk => (hK.cell (a := ⟨b, off + j * 4 + k, none⟩) hb (hn ⟨b, off, none⟩ e)).trans (c2 k hk), c3⟩

section
variable {w : World} {Sh : Nat → Prop} {p hp : Nat} {K V : Option Addr} {kc vc : Nat} {v : LargeV}
theorem KpAt.stack (k : KpAt w Sh p hp K kc V vc v) (o : LOk v) (id : Int) (hid : in64 id) : ∀ W, Below w.heap.size w W → Calls Tryz.prog 185 #[.pointer (some ⟨p, 0, none⟩), .int .i64 id] W fun e w' => e = .returned (.tuple #[spv ((lStack v.h id).getD spanNone), .bool (lStack v.h id).isSome]) ∧ Below W.heap.size W w' := fun W hb => by
  have h64 : in64 (spanOf v.h.l id).2.2.1 := by
    by_cases c : ∃ s ∈ v.h.l, s.1 = id
    · exact (o.ids64 k.hp_.lbL (spanOf_mem c).1).2
    · rw [spanOf_none c]; exact ⟨by show (-9223372036854775808 : Int) ≤ 0; omega, by show (0 : Int) ≤ 9223372036854775807; omega⟩
  exact code_kstack (k.parts.below hb) id (spanOf v.h.l id) (v.h.l.any fun s => s.1 == id) (lStack v.h id) (lStack_at id) h64 (fun W2 hb2 => code_hspan (k.hp_.below (bel_tr2 hb hb2)) id hid)

/-- The numbers, behind j of them. -/
structure AskSt (w wr : World) (h : HeapV) (ids : List Int) (j : Nat) (A : Option Addr) (m c : Nat) (d : List Spn) : Prop where
  ask : lAsk h ids [] = lAsk h (ids.drop j) d
  len : d.length = m
  row : wr.ownsRow w.heap.size 49 4 (.slice A m c) m (cellsAll scells d)
  bel : Below w.heap.size w wr
theorem lAsk_cons (h : HeapV) (i : Int) (ids : List Int) (l : List Spn) : lAsk h (i :: ids) l = match lStack h i with
    | none => none
    | some s => if s ∈ l then none else lAsk h ids (l ++ [s]) := rfl
set_option maxHeartbeats 4000000 in
set_option maxRecDepth 100000 in
theorem code_kgive (k : KpAt w Sh p hp K kc V vc v) (o : LOk v) (A : Option Addr) (N c : Nat) (ids : List Int) (hs : Sl w w.heap.size A N (ids.map iv)) (hN : N ≤ 60000) (hid : ∀ i ∈ ids, in64 i) :
    Calls Tryz.prog 123 #[.pointer (some ⟨p, 0, none⟩), .slice A N c] w (GaveK w (KpS Sh p K V) p hp (lGive v ids)) := by
  obtain ⟨i0, hi, hz0, hz1, hz2⟩ := info_parts info_span
  have HK := hidb k
  have HO := hidb o
  have HL : Hid (ids.length = N) := hidb (by have := hs.1; simpa using this)
  have HS := hidb hs
  have HST : Hid (∀ id ∈ ids, ∀ W, Below w.heap.size w W → Calls Tryz.prog 185 #[.pointer (some ⟨p, 0, none⟩), .int .i64 id] W fun e w' => e = .returned (.tuple #[spv ((lStack v.h id).getD spanNone), .bool (lStack v.h id).isSome]) ∧ Below W.heap.size W w') := hidb (fun id hi => k.stack o id (hid id hi))
  have HSAME : Hid (∀ (s : Spn) W, Calls Tryz.prog 187 #[spv s] W fun e w' => ∃ t, e = .returned (.func (.func 239) #[] #[.pointer (some ⟨t, 0, none⟩)]) ∧ Below W.heap.size W w' ∧ SpAt w' t s) := hidb (fun s W => by
    refine (code_same s W).mono ?_
    rintro e w' ⟨rfl, rfl⟩
    exact ⟨_, rfl, (Below.refl _ _).alloc (Nat.le_refl _) _, SpAt.new_ W s _⟩)
  have H6 : Hid (∀ wr, lAsk v.h ids [] = none → Below w.heap.size w wr → GaveK w (KpS Sh p K V) p hp (lGive v ids) (.returned (.int .i64 6)) wr) := hidb (fun wr h hb => by
    have e : lGive v ids = (v, 6) := by unfold lGive; rw [h]
    rw [e]
    exact ⟨rfl, k.stay hb⟩)
  have H9 : Hid (∀ wr d, lAsk v.h ids [] = some d → (d.any fun s => decide (s ∈ v.kept ++ v.waits)) = true → Below w.heap.size w wr → GaveK w (KpS Sh p K V) p hp (lGive v ids) (.returned (.int .i64 9)) wr) := hidb (fun wr d h h2 hb => by
    have e : lGive v ids = (v, 9) := by unfold lGive; rw [h]; simp only; rw [if_pos h2]
    rw [e]
    exact ⟨rfl, k.stay hb⟩)
  have H0 : Hid (∀ w1 wr d, lAsk v.h ids [] = some d → (d.any fun s => decide (s ∈ v.kept ++ v.waits)) = false → Below w.heap.size w w1 → KWent w1 (KpS Sh p K V) p hp wr (d.foldl lPut v) → GaveK w (KpS Sh p K V) p hp (lGive v ids) (.returned (.int .i64 0)) wr) := hidb (fun w1 wr d h h2 hb hw => by
    have e : lGive v ids = (d.foldl lPut v, 0) := by unfold lGive; rw [h]; simp only; rw [if_neg (by rw [h2]; simp)]
    rw [e]
    exact ⟨rfl, hw.trans (Kept.of_below hb _) fun b h => Or.inl h⟩)
  have hpl := k.ltp
  clear k o hs hid
  go_enter Tryz.func123, Tryz.ntmps123
  go_wp2
  go_loopw [5, 7, 8, 9, 14] (fun s5 _ _ _ s14 wr => ∃ (j : Nat) (A' : Option Addr) (m c' : Nat) (d : List Spn), s14 = .int .i64 j ∧ s5 = .slice A' m c' ∧ j ≤ N ∧ m ≤ j ∧ Hid (AskSt w wr v.h ids j A' m c' d)) (fun _ _ _ _ s14 _ => (N - intOf s14).toNat)
  case atStart => exact ⟨0, none, 0, 0, [], rfl, rfl, Nat.zero_le _, Nat.le_refl _, hidb ⟨rfl, rfl, World.ownsRow_nil _ _ _ _, Below.refl _ _⟩⟩
  case round =>
    obtain ⟨j, A', m, c', d, rfl, rfl, hj, hmj, HA⟩ := hrel
    by_cases hlt : j < N
    · obtain ⟨b, off, u, rfl, _, hx, hc⟩ := (HS.out.below HA.out.bel).at_ hlt
      obtain ⟨id, hx2, rfl⟩ : ∃ x, ids[j]? = some x ∧ iv x = u := by
        rw [List.getElem?_map] at hx
        exact Option.map_eq_some_iff.1 hx
      have cst := HST.out id (List.mem_of_getElem? hx2) wr HA.out.bel
      have HDR : Hid (ids.drop j = id :: ids.drop (j + 1)) := hidb (by
        have hj2 : j < ids.length := (List.getElem?_eq_some_iff.1 hx2).1
        rw [List.drop_eq_getElem_cons hj2, (List.getElem?_eq_some_iff.1 hx2).2])
      unfold iv at hc
      have hi0 : (0 : Int) ≤ (j : Int) := by omega
      have hi1 : (j : Int) < (N : Int) := by omega
      clear hx hx2
      have HJ : Hid (lAsk v.h ids [] = lAsk v.h (id :: ids.drop (j + 1)) d) := hidb (by rw [HA.out.ask, HDR.out])
      have hsz := HA.out.bel.size
      have HAB : Hid (∀ W, Below wr.heap.size wr W → Below w.heap.size w W ∧ W.ownsRow w.heap.size 49 4 (.slice A' m c') m (cellsAll scells d) ∧ w.heap.size ≤ W.heap.size) := hidb (fun W hb => ⟨HA.out.bel.trans (hb.mono hsz), own_below HA.out.row hb, Nat.le_trans hsz hb.size⟩)
      have HDL := hidb HA.out.len
      cases hst : lStack v.h id with
      | none =>
        rw [hst] at cst
        simp only [Option.getD_none, Option.isSome_none] at cst
        unfold spv spanNone at cst
        simp only at cst
        have HN6 : Hid (lAsk v.h ids [] = none) := hidb (by
          rw [HJ.out]
          unfold lAsk
          rw [hst])
        clear hst
        go_wp2_with (go_at_call 185; (with_reducible refine cst.mono ?_); rintro e w2 ⟨rfl, hb2⟩)
        go_ret
        exact H6.out _ HN6.out (bel_al2 (HAB.out _ hb2).1 _)
      | some s =>
        rw [hst] at cst
        simp only [Option.getD_some, Option.isSome_some] at cst
        have HJ2 : Hid (lAsk v.h ids [] = if s ∈ d then none else lAsk v.h (ids.drop (j + 1)) (d ++ [s])) := hidb (by
          rw [HJ.out, lAsk_cons, hst])
        clear hst
        obtain ⟨s1, s2, s3, s4⟩ := s
        have csm := HSAME.out (s1, s2, s3, s4)
        unfold spv at cst csm
        simp only at cst csm
        have HCI : Hid (∀ W t, Below wr.heap.size wr W → SpAt W t (s1, s2, s3, s4) → Calls Tryz.prog 186 #[.slice A' m c', .func (.func 239) #[] #[.pointer (some ⟨t, 0, none⟩)]] W fun e w' => e = .returned (.bool (decide ((s1, s2, s3, s4) ∈ d))) ∧ Below W.heap.size W w') := hidb (fun W t hb hsp => code_sin t (s1, s2, s3, s4) A' m c' d W (RowOf.of_own scells_len (HAB.out W hb).2.1 HDL.out) (by omega) hsp)
        by_cases hd : (s1, s2, s3, s4) ∈ d
        · have HN6 : Hid (lAsk v.h ids [] = none) := hidb (by rw [HJ2.out, if_pos hd])
          rw [decide_eq_true hd] at HCI
          clear hd
          go_wp2_with (first
            | (go_at_call 185; (with_reducible refine cst.mono ?_); rintro e w2 ⟨rfl, hb2⟩; have hbz := bel_al2 hb2 (.cells #[.int .i64 s1, .int .i64 s2, .int .i64 s3, .int .i64 s4] 49); clear hb2)
            | (go_at_call 187; (with_reducible refine (csm _).mono ?_); rintro e w3 ⟨t, rfl, hb3, hsp⟩; replace hbz := bel_tr2 hbz hb3; clear hb3)
            | (go_at_call 186; (with_reducible refine (HCI.out _ _ hbz hsp).mono ?_); rintro e w4 ⟨rfl, hb4⟩; replace hbz := bel_tr2 hbz hb4; clear hb4))
          go_ret
          exact H6.out _ HN6.out (HAB.out _ hbz).1
        · have HN : Hid (lAsk v.h ids [] = lAsk v.h (ids.drop (j + 1)) (d ++ [(s1, s2, s3, s4)])) := hidb (by rw [HJ2.out, if_neg hd])
          rw [decide_eq_false hd] at HCI
          clear hd
          go_wp2_with (first
            | (go_at_call 185; (with_reducible refine cst.mono ?_); rintro e w2 ⟨rfl, hb2⟩; have hbz := bel_al2 hb2 (.cells #[.int .i64 s1, .int .i64 s2, .int .i64 s3, .int .i64 s4] 49); have hsz2 := Below.refl (w2.alloc (.cells #[.int .i64 s1, .int .i64 s2, .int .i64 s3, .int .i64 s4] 49)).heap.size (w2.alloc (.cells #[.int .i64 s1, .int .i64 s2, .int .i64 s3, .int .i64 s4] 49)); clear hb2)
            | (go_at_call 187; (with_reducible refine (csm _).mono ?_); rintro e w3 ⟨t, rfl, hb3, hsp⟩; replace hbz := bel_tr2 hbz hb3; replace hsz2 := bel_tr2 hsz2 hb3; clear hb3)
            | (go_at_call 186; (with_reducible refine (HCI.out _ _ hbz hsp).mono ?_); rintro e w4 ⟨rfl, hb4⟩; replace hbz := bel_tr2 hbz hb4; replace hsz2 := bel_tr2 hsz2 hb4; clear hb4; obtain ⟨y0, y1, y2, y3⟩ := ((SpAt.new_ w2 (s1, s2, s3, s4) 49).below hsz2 (by simp)).cells; obtain ⟨hbw, hown, hszw⟩ := HAB.out _ hbz)
            | (at_builtin; refine wpList_append_struct w4 rfl _ _ 30 rfl w.heap.size 49 i0 (.agg #[.int .i64 0, .int .i64 0, .int .i64 0, .int .i64 0]) 4 32 Tryz.underlying30 hi hz0 hz1 hz2 rfl (by decide) _ m _ rfl (by exact hown) hszw #[.int .i64 s1, .int .i64 s2, .int .i64 s3, .int .i64 s4] rfl (by simp [Value.oneCell']) _ rfl (by unfold maxLen; omega) (by omega) ?_; intro v5 w5 hown5 hb5; obtain ⟨A5, c5, rfl⟩ := own_form2 hown5))
          have HA5 : Hid (AskSt w w5 v.h ids (j + 1) A5 (m + 1) c5 (d ++ [(s1, s2, s3, s4)])) := hidb ⟨HN.out, by rw [List.length_append, HDL.out]; rfl, by rw [cellsAll_append, cellsAll_one]; exact hown5, hbw.trans hb5⟩
          clear hown5 hb5 hown hbw
          go_roundw
          case rel => exact ⟨j + 1, A5, m + 1, c5, _, by go_num, rfl, by omega, by omega, HA5⟩
          case measure => simp [intOf]; omega
    · obtain rfl : j = N := by omega
      have HD : Hid (lAsk v.h ids [] = some d) := hidb (by
        rw [HA.out.ask, List.drop_eq_nil_of_le (by rw [HL.out]; omega)]
        rfl)
      have hbel := HA.out.bel
      have hdl := HA.out.len
      have hml : m ≤ 60000 := by omega
      obtain ⟨r, hr⟩ : ∃ r, (d.any fun s => decide (s ∈ v.kept ++ v.waits)) = r := ⟨_, rfl⟩
      have CH : Hid (Calls Tryz.prog 188 #[.pointer (some ⟨p, 0, none⟩)] wr fun e w' => ∃ t, e = .returned (.func (.func 241) #[] #[.pointer (some ⟨t, 0, none⟩)]) ∧ Hid (Calls Tryz.prog 186 #[.slice A' m c', .func (.func 241) #[] #[.pointer (some ⟨t, 0, none⟩)]] w' fun e w'' => e = .returned (.bool r) ∧ Hid (Below wr.heap.size wr w''))) := hidb (by
        have kr := HK.out.below hbel
        refine (code_khas kr.parts).mono ?_
        rintro e w' ⟨t, A2, n2, c2, rfl, h1, h2, h3⟩
        refine ⟨t, rfl, hidb ?_⟩
        have htl := lt_of_cell h1
        have hn2 : n2 ≤ 65536 := by
          have e1 := h2.1
          have e2 := kr.lk
          have e3 := kr.lv
          rw [List.length_append] at e1
          omega
        have hrow := own_below HA.out.row h3
        have := code_scont 241 #[.pointer (some ⟨t, 0, none⟩)] enters_has (fun s => decide (s ∈ v.kept ++ v.waits)) A' m c' d w' (RowOf.of_own scells_len hrow hdl) (by omega) (fun W hb x _ => code_has1 t x A2 n2 c2 (v.kept ++ v.waits) W (RowOf.more (RowOf.below h2 hb) hb.size) hn2 ((hb.cell (p := ⟨t, 0, none⟩) htl).trans h1))
        refine this.mono ?_
        rintro e w'' ⟨rfl, hb⟩
        exact ⟨by rw [hr], hidb (bel_tr2 h3 hb)⟩)
      have HAR := hidb HA.out.row
      have HBEL := hidb hbel
      cases r with
      | true =>
        have H9' := hidb (H9.out)
        have HR := hidb hr
        clear hr hbel hdl
        go_wp2_with (first
          | (go_at_call 188; (with_reducible refine CH.out.mono ?_); rintro e w2 ⟨t, rfl, hc2⟩)
          | (go_at_call 186; (with_reducible refine hc2.out.mono ?_); rintro e w3 ⟨rfl, hb3⟩))
        go_ret
        exact H9.out _ d HD.out HR.out (bel_tr2 HBEL.out hb3.out)
      | false =>
        have HR := hidb hr
        have HDL := hidb hdl
        clear hr hbel hdl
        go_wp2_with (first
          | (go_at_call 188; (with_reducible refine CH.out.mono ?_); rintro e w2 ⟨t, rfl, hc2⟩)
          | (go_at_call 186; (with_reducible refine hc2.out.mono ?_); rintro e w3 ⟨rfl, hb3⟩))
        have HB3 : Hid (Below w.heap.size w w3) := hidb (bel_tr2 HBEL.out hb3.out)
        have HROW : Hid (w3.ownsRow w.heap.size 49 4 (.slice A' m c') m (cellsAll scells d)) := hidb (own_below HAR.out hb3.out)
        obtain ⟨w1, rfl⟩ : ∃ w1 : World, w1 = w3 := ⟨_, rfl⟩
        have HG : Hid (d.Nodup ∧ ∀ s ∈ d, Out v s) := hidb (by
          obtain ⟨g1, g2, _⟩ := lAsk_some HO.out.hok HD.out List.nodup_nil (fun s hs => by cases hs)
          refine ⟨g1, fun s hs => ⟨(g2 s hs).1, (g2 s hs).2, fun q => ?_⟩⟩
          have h9 : (d.any fun s => decide (s ∈ v.kept ++ v.waits)) = true := List.any_eq_true.2 ⟨s, hs, decide_eq_true q⟩
          rw [HR.out] at h9
          cases h9)
        have CP : Hid (∀ q (s : Spn) wr2, d[q]? = some s → KWent w1 (KpS Sh p K V) p hp wr2 ((d.take q).foldl lPut v) → Calls Tryz.prog 189 #[.pointer (some ⟨p, 0, none⟩), spv s] (wr2.alloc (.cells #[.int .i64 s.1, .int .i64 s.2.1, .int .i64 s.2.2.1, .int .i64 s.2.2.2] 49)) fun e w' => e = .returned (.tuple #[]) ∧ Hid (KWent w1 (KpS Sh p K V) p hp w' ((d.take (q + 1)).foldl lPut v))) := hidb (fun q s wr2 hq hw => by
          obtain ⟨Sh2, K2, kc2, V2, vc2, k2, h1, h2⟩ := hw
          obtain ⟨oq, outq⟩ := LOk.puts_at HO.out HG.out.1 HG.out.2 q s hq
          have hba : Below wr2.heap.size wr2 (wr2.alloc (.cells #[.int .i64 s.1, .int .i64 s.2.1, .int .i64 s.2.2.1, .int .i64 s.2.2.2] 49)) := (Below.refl _ _).alloc (Nat.le_refl _) _
          refine (code_kput (k2.below hba) oq s outq).mono ?_
          rintro e w' ⟨rfl, h3⟩
          have e2 : (d.take (q + 1)).foldl lPut v = lPut ((d.take q).foldl lPut v) s := by
            rw [List.take_add_one, hq, List.foldl_append]; rfl
          rw [e2]
          exact ⟨rfl, hidb (h3.trans (h1.trans (Kept.of_below hba _) fun _ _ h => h) fun b hb => h2 b hb)⟩)
        have HSN : Hid (∀ q wr2, KWent w1 (KpS Sh p K V) p hp wr2 ((d.take q).foldl lPut v) → Sn wr2 wr2.heap.size A' m d) := hidb (fun q wr2 hw => by
          obtain ⟨_, _, _, _, _, _, h1, _⟩ := hw
          refine Sn.keptK (RowOf.of_own scells_len HROW.out HDL.out) h1 fun a ha c => ?_
          have h2 := HK.out.lt _ c
          subst ha
          have h3 := (HROW.out.lt a.block rfl).1
          omega)
        have HST0 : Hid (KWent w1 (KpS Sh p K V) p hp w1 v) := hidb ((HK.out.below HB3.out).went (Kept.refl _ _) fun b h => Or.inl h)
        clear HST H6 H9 CH hc2 hb3 HAR
        go_loopw [11, 43] (fun _ s43 wr2 => ∃ (q : Nat), s43 = .int .i64 q ∧ q ≤ m ∧ Hid (KWent w1 (KpS Sh p K V) p hp wr2 ((d.take q).foldl lPut v))) (fun _ s43 _ => (m - intOf s43).toNat)
        case atStart => exact ⟨0, rfl, Nat.zero_le _, HST0⟩
        case round =>
          obtain ⟨q, rfl, hq, HW⟩ := hrel
          by_cases hlt2 : q < m
          · obtain ⟨b, off, s1, s2, s3, s4, rfl, hx, hc0, hc1, hc2, hc3⟩ := Sn.span (HSN.out q wr HW.out) hlt2
            have cp := CP.out q (s1, s2, s3, s4) wr hx HW.out
            have hi0 : (0 : Int) ≤ (q : Int) := by omega
            have hi1 : (q : Int) < (m : Int) := by omega
            unfold spv at cp
            simp only at cp
            clear hx
            go_wp2_with (go_at_call 189; (with_reducible refine cp.mono ?_); rintro e w4 ⟨rfl, HW4⟩)
            go_roundw
            case rel => exact ⟨q + 1, by go_num, by omega, HW4⟩
            case measure => simp [intOf]; omega
          · obtain rfl : q = m := by omega
            have P := hidb (H0.out w1 wr d HD.out HR.out HB3.out (by
              have h := HW.out
              rw [List.take_of_length_le (by rw [HDL.out]; exact Nat.le_refl _)] at h
              exact h))
            go_wp2
            go_ret
            exact P.out

end

end Go.Proofs.YtlcdgmjinhbncaaGreat
/- What layer 10's statements have in common: a heap and its keeper, the document's example. -/
namespace Go.Proofs.YtlcdgmjinhbncaaGreat
open Go.RowKit
set_option linter.unusedVariables false

section
variable {w W W' : World} {p hp : Nat} {S : Nat → Prop} {v v' : LargeV} {k k' : Nat} {pages : Int}
theorem LOk.take_heap (o : LOk v) (n : Int) : (lTake v n).1.h.pages = v.h.pages ∧ (lTake v n).1.h.last ≤ v.h.last + 1 := by
  have h := hMake_ok o.hok n (-1)
  unfold lTake
  split
  · exact ⟨rfl, by show v.h.last ≤ v.h.last + 1; omega⟩
  · split
    · exact ⟨rfl, by show v.h.last ≤ v.h.last + 1; omega⟩
    · exact ⟨h.2.1, h.2.2.2⟩
end
/-- The document's example. -/
theorem make_at {h : HeapV} (k : HOk h) {n o a l : Int} (c : ¬ (n < 1 ∨ o < -1 ∨ 3 < o)) (hl : fList h.free = [(a, l)]) (hb : n ≤ l) :
    ∃ g, hMake h n o = (⟨h.pages, g, h.l ++ [(h.last + 1, a, n, o)], h.last + 1⟩, (h.last + 1, a, n, o), 0) ∧ HOk ⟨h.pages, g, h.l ++ [(h.last + 1, a, n, o)], h.last + 1⟩ ∧ fList g = leftL (a, l) (a, n) := by
  have hb2 : fBest h.free n = some (a, l) := by
    rw [fBest_is h.free (by rw [k.fl]; exact Nat.le_refl _), hl, if_neg (by omega)]
    unfold bestOf bestStep
    simp [hb]
  obtain ⟨g, e1, e2, e3, e4, e5⟩ := hMake_yes k c hb2
  obtain ⟨g', f1, f2⟩ := cut_yes k.fl e2 (i := 0) (r := (a, l)) (by rw [hl]; rfl) (by unfold inRun; simp; omega)
  rw [e1] at f1
  injection f1 with f1 _
  subst f1
  exact ⟨g, e4, e5, by rw [f2, hl]; simp⟩
end Go.Proofs.YtlcdgmjinhbncaaGreat
/- Stacks in memory: their block, the caches with pool, heap and arena, the keeper; and what turns a part of them. -/
namespace Go.Proofs.YtlcdgmjinhbncaaGreat
open Go.RowKit Go.Maps
set_option linter.unusedVariables false

/-- A keeper without its heap. -/
structure KqAt (w : World) (kp hp : Nat) (K : Option Addr) (kc : Nat) (V : Option Addr) (vc : Nat) (kept waits : List Spn) (on : Bool) : Prop where
  c0 : w.cell? ⟨kp, 0, none⟩ = some (.pointer (some ⟨hp, 0, none⟩))
  c1 : w.cell? ⟨kp, 1, none⟩ = some (.slice K kept.length kc)
  c2 : w.cell? ⟨kp, 2, none⟩ = some (.slice V waits.length vc)
  c3 : w.cell? ⟨kp, 3, none⟩ = some (.bool on)
  fz : ∀ j, w.frozen? ⟨kp, j, none⟩ = false
  k1 : w.ownsRow 0 49 4 (.slice K kept.length kc) kept.length (cellsAll scells kept)
  k2 : w.ownsRow 0 49 4 (.slice V waits.length vc) waits.length (cellsAll scells waits)
  lk : kept.length ≤ 1024
  lv : waits.length ≤ 1024
  n2 : ∀ b, ab K = some b → b ≠ kp
  n3 : ∀ b, ab V = some b → b ≠ kp
  n4 : ∀ b, ab K = some b → ab V ≠ some b
def KqS (kp : Nat) (K V : Option Addr) (b : Nat) : Prop := b = kp ∨ ab K = some b ∨ ab V = some b
section
variable {w w' : World} {kp hp : Nat} {K V : Option Addr} {kc vc : Nat} {kept waits : List Spn} {on : Bool} {T Sh : Nat → Prop}
theorem KqAt.lt (k : KqAt w kp hp K kc V vc kept waits on) : ∀ b, KqS kp K V b → b < w.heap.size := fun b hb => by
  rcases hb with rfl | h | h
  · exact lt_of_cell k.c0
  · exact own_block_lt k.k1 h
  · exact own_block_lt k.k2 h
theorem KqAt.kept_ (k : KqAt w kp hp K kc V vc kept waits on) (hK : Kept T w w') (hn : ∀ b, KqS kp K V b → ¬ T b) : KqAt w' kp hp K kc V vc kept waits on := by
  have hb := hK.block kp (lt_of_cell k.c0) (hn kp (Or.inl rfl))
  have hc : ∀ j, w'.cell? ⟨kp, j, none⟩ = w.cell? ⟨kp, j, none⟩ := fun j => World.cell?_of_block (w := w) (a := ⟨kp, j, none⟩) hb
  exact ⟨(hc 0).trans k.c0, (hc 1).trans k.c1, (hc 2).trans k.c2, (hc 3).trans k.c3, fun j => (World.frozen?_of_block (w := w) (a := ⟨kp, j, none⟩) hb).trans (k.fz j), own_kept k.k1 hK (fun b e => hn b (Or.inr (Or.inl ((ab_eq K _ _).symm.trans e)))), own_kept k.k2 hK (fun b e => hn b (Or.inr (Or.inr ((ab_eq V _ _).symm.trans e)))), k.lk, k.lv, k.n2, k.n3, k.n4⟩
theorem KqAt.to (k : KqAt w kp hp K kc V vc kept waits on) {h : HeapV} (hh : Hp w Sh hp h) (hn : ∀ b, KqS kp K V b → ¬ Sh b) : KpAt w Sh kp hp K kc V vc ⟨h, kept, waits, on⟩ :=
  ⟨k.c0, k.c1, k.c2, k.c3, k.fz, k.k1, k.k2, hh, k.lk, k.lv, hn _ (Or.inl rfl), fun b e => ⟨k.n2 b e, hn b (Or.inr (Or.inl e))⟩, fun b e => ⟨k.n3 b e, hn b (Or.inr (Or.inr e))⟩, k.n4⟩
theorem KpAt.own {v : LargeV} (k : KpAt w Sh kp hp K kc V vc v) : KqAt w kp hp K kc V vc v.kept v.waits v.held ∧ ∀ b, KqS kp K V b → ¬ Sh b :=
  ⟨⟨k.c0, k.c1, k.c2, k.c3, k.fz, k.k1, k.k2, k.lk, k.lv, fun b e => (k.n2 b e).1, fun b e => (k.n3 b e).1, k.n4⟩, fun b hb => by
    rcases hb with rfl | h | h
    · exact k.n1
    · exact (k.n2 b h).2
    · exact (k.n3 b h).2⟩
end
/-- Another heap beneath a pool. -/
theorem PlAt.reheap {w w' : World} {Sh Sh' T : Nat → Prop} {p hp ap g mb n m : Nat} {D : DataW Unit} {v : PoolW} (k : PlAt w Sh p hp ap g mb n m D v) {h' : HeapV} (hK : Kept T w w') (hh : Hp w' Sh' hp h') (hn : ∀ b, PlS Sh p ap g mb v.ks b → ¬ Sh b → ¬ T b ∧ ¬ Sh' b) : PlAt w' Sh' p hp ap g mb n m D { v with h := h' } := by
  obtain ⟨q1, q2, q3, q4⟩ := k.nh
  have hb : ∀ b, PlS Sh p ap g mb v.ks b → ¬ Sh b → w'.heap[b]? = w.heap[b]? := fun b h hne => hK.block b (k.lt b h) (hn b h hne).1
  have hm : ∀ b, PlS Sh p ap g mb v.ks b → ¬ Sh b → ¬ Sh' b := fun b h hne => (hn b h hne).2
  obtain ⟨d0, d1, d2, d3, d4⟩ := k.cell_ (hb p (Or.inr (Or.inl rfl)) q1)
  refine ⟨d0, d1, d2, d3, d4, ownsMap_block k.mp (hb mb (by unfold PlS; simp) q4), k.mis, hh, k.ar.keepB (hb ap (by unfold PlS; simp) q2) (hb g (by unfold PlS; simp) q3),
    fun c hc => (k.cuts c hc).keep (hb c.b (by unfold PlS; exact Or.inr (Or.inr (Or.inr (Or.inr (Or.inr ⟨c, hc, rfl⟩))))) (k.nk c hc).2.2.2.2), k.ne, fun c hc => ?_, ⟨hm p (by unfold PlS; simp) q1, hm ap (by unfold PlS; simp) q2, hm g (by unfold PlS; simp) q3, hm mb (by unfold PlS; simp) q4⟩, k.nd⟩
  obtain ⟨r1, r2, r3, r4, r5⟩ := k.nk c hc
  exact ⟨r1, r2, r3, r4, hm c.b (by unfold PlS; exact Or.inr (Or.inr (Or.inr (Or.inr (Or.inr ⟨c, hc, rfl⟩))))) r5⟩

/-- Stacks that a law has made: their block z, their caches, their keeper kp. -/
structure StkSt (C : CaF) (z kp : Nat) (w W : World) (S : Nat → Prop) (v : PoolW) (cs : List CL) (kept waits : List Spn) (k : Nat) (pages : Int) : Prop where
  parts : ∃ Sc K kc V vc, CaSt C w W Sc v cs k pages ∧ KqAt W kp C.hp K kc V vc kept waits v.held ∧ (∀ b, KqS kp K V b → S b ∧ ¬ Sc b ∧ b ≠ z) ∧ ∀ b, Sc b → S b ∧ b ≠ z
  z0 : W.cell? ⟨z, 0, none⟩ = some (.pointer (some ⟨C.ap, 0, none⟩))
  z1 : W.cell? ⟨z, 1, none⟩ = some (.pointer (some ⟨C.hp, 0, none⟩))
  z2 : W.cell? ⟨z, 2, none⟩ = some (.pointer (some ⟨C.p, 0, none⟩))
  z3 : W.cell? ⟨z, 3, none⟩ = some (.pointer (some ⟨kp, 0, none⟩))
  z4 : W.cell? ⟨z, 4, none⟩ = some (.pointer (some ⟨C.q, 0, none⟩))
  z5 : W.cell? ⟨z, 5, none⟩ = some (.int .i64 C.N)
  z6 : W.cell? ⟨z, 6, none⟩ = some (.bool v.held)
  zf : ∀ j, W.frozen? ⟨z, j, none⟩ = false
  ok : LOk ⟨v.h, kept, waits, v.held⟩
  sz : S z
  lt : ∀ b, S b → b < W.heap.size
  low : ∀ b, S b → w.heap.size ≤ b
  bel : Below w.heap.size w W
section
variable {C : CaF} {z kp : Nat} {w W W' : World} {S Sc : Nat → Prop} {v : PoolW} {cs : List CL} {kept waits : List Spn} {k : Nat} {pages : Int}
theorem StkSt.below (s : StkSt C z kp w W S v cs kept waits k pages) (hb : Below W.heap.size W W') : StkSt C z kp w W' S v cs kept waits k pages := by
  obtain ⟨Sc, K, kc, V, vc, q1, q2, q3, q4⟩ := s.parts
  have hz := s.lt _ s.sz
  have hc : ∀ j, W'.cell? ⟨z, j, none⟩ = W.cell? ⟨z, j, none⟩ := fun j => hb.cell (p := ⟨z, j, none⟩) hz
  exact ⟨⟨Sc, K, kc, V, vc, q1.below hb, q2.kept_ (Kept.of_below hb (fun _ => False)) (fun _ _ => id), q3, q4⟩, (hc 0).trans s.z0, (hc 1).trans s.z1, (hc 2).trans s.z2, (hc 3).trans s.z3, (hc 4).trans s.z4, (hc 5).trans s.z5, (hc 6).trans s.z6, fun j => (hb.frozen (p := ⟨z, j, none⟩) hz).trans (s.zf j), s.ok, s.sz, fun b h => Nat.lt_of_lt_of_le (s.lt b h) hb.size, s.low, s.bel.trans (hb.mono s.bel.size)⟩
theorem StkSt.later (s : StkSt C z kp w W S v cs kept waits k pages) {k' : Nat} (h : k ≤ k') : StkSt C z kp w W S v cs kept waits k' pages := by
  obtain ⟨Sc, K, kc, V, vc, q1, q2, q3, q4⟩ := s.parts
  exact ⟨⟨Sc, K, kc, V, vc, q1.later h, q2, q3, q4⟩, s.z0, s.z1, s.z2, s.z3, s.z4, s.z5, s.z6, s.zf, s.ok, s.sz, s.lt, s.low, s.bel⟩
/-- What is in z is so still, where z isn't turned. -/
theorem StkSt.zs (s : StkSt C z kp w W S v cs kept waits k pages) {T : Nat → Prop} (hK : Kept T W W') (hn : ¬ T z) : (∀ j, W'.cell? ⟨z, j, none⟩ = W.cell? ⟨z, j, none⟩) ∧ ∀ j, W'.frozen? ⟨z, j, none⟩ = false := by
  have hb := hK.block z (s.lt _ s.sz) hn
  exact ⟨fun j => World.cell?_of_block (w := W) (a := ⟨z, j, none⟩) hb, fun j => (World.frozen?_of_block (w := W) (a := ⟨z, j, none⟩) hb).trans (s.zf j)⟩
/-- The caches did something. -/
theorem StkSt.cache {K V : Option Addr} {kc vc : Nat} (s : StkSt C z kp w W S v cs kept waits k pages) (q2 : KqAt W kp C.hp K kc V vc kept waits v.held) (q3 : ∀ b, KqS kp K V b → S b ∧ ¬ Sc b ∧ b ≠ z) (q4 : ∀ b, Sc b → S b ∧ b ≠ z) {Sc' : Nat → Prop} {v' : PoolW} {cs' : List CL} {k' : Nat} (a : CaSt C w W' Sc' v' cs' k' pages) (sd : SideP Sc W Sc' W') (hh : v'.held = v.held) (ho : LOk ⟨v'.h, kept, waits, v.held⟩) : StkSt C z kp w W' (more S W W') v' cs' kept waits k' pages ∧ SideP S W (more S W W') W' := by
  have hK : Kept S W W' := ⟨sd.1.os, sd.1.tape, sd.1.output, sd.1.size, fun b hb hn => sd.1.block b hb (fun c => hn (q4 b c).1)⟩
  have hm : ∀ b, S b → more S W W' b := fun b hb => ⟨Or.inl hb, Nat.lt_of_lt_of_le (s.lt b hb) hK.size⟩
  obtain ⟨hc, hf⟩ := s.zs sd.1 (fun h => (q4 _ h).2 rfl)
  refine ⟨⟨⟨Sc', K, kc, V, vc, a, ?_, fun b hb => ?_, fun b hb => ?_⟩, (hc 0).trans s.z0, (hc 1).trans s.z1, (hc 2).trans s.z2, (hc 3).trans s.z3, (hc 4).trans s.z4, (hc 5).trans s.z5, by rw [hh]; exact (hc 6).trans s.z6, hf, by rw [hh]; exact ho, hm _ s.sz, fun b hb => hb.2, more_low s.bel.size s.low, s.bel.trans (hK.below s.bel.size s.low)⟩, SideP.did hK⟩
  · rw [hh]
    exact q2.kept_ sd.1 fun b hb => (q3 b hb).2.1
  · obtain ⟨h1, h2, h3⟩ := q3 b hb
    exact ⟨hm b h1, sd.not (s.lt b h1) h2, h3⟩
  · rcases sd.2 b hb with h | h
    · exact ⟨hm b (q4 b h).1, (q4 b h).2⟩
    · have := s.lt _ s.sz
      exact ⟨⟨Or.inr h, a.lt b hb⟩, by omega⟩
/-- The keeper beside the caches. -/
theorem StkSt.keeper (s : StkSt C z kp w W S v cs kept waits k pages) : ∃ Sc Sh K kc V vc, CaSt C w W Sc v cs k pages ∧ KqAt W kp C.hp K kc V vc kept waits v.held ∧ (∀ b, KqS kp K V b → S b ∧ ¬ Sc b ∧ b ≠ z) ∧ (∀ b, Sc b → S b ∧ b ≠ z) ∧ KpAt W Sh kp C.hp K kc V vc ⟨v.h, kept, waits, v.held⟩ ∧ (∀ b, Sh b → Sc b) ∧ ∃ m D, PlAt W Sh C.p C.hp C.ap C.g C.mb C.n m D v ∧ PlOk C.n m v ∧ ∀ b, PlS Sh C.p C.ap C.g C.mb v.ks b → Sc b ∧ b ≠ C.q ∧ b ≠ C.rb := by
  obtain ⟨Sc, K, kc, V, vc, q1, q2, q3, q4⟩ := s.parts
  obtain ⟨Sh, m, D, p1, p2, p3⟩ := q1.pl
  have hsc : ∀ b, Sh b → Sc b := fun b h => (p3 b (Or.inl h)).1
  exact ⟨Sc, Sh, K, kc, V, vc, q1, q2, q3, q4, q2.to p1.hp_ fun b hb h => (q3 b hb).2.1 (hsc b h), hsc, m, D, p1, p2, p3⟩
/-- The keeper did something. -/
theorem StkSt.large {Sh : Nat → Prop} {K V : Option Addr} {kc vc m : Nat} {D : DataW Unit} (s : StkSt C z kp w W S v cs kept waits k pages) (q1 : CaSt C w W Sc v cs k pages) (q3 : ∀ b, KqS kp K V b → S b ∧ ¬ Sc b ∧ b ≠ z) (q4 : ∀ b, Sc b → S b ∧ b ≠ z) (hsc : ∀ b, Sh b → Sc b) (p1 : PlAt W Sh C.p C.hp C.ap C.g C.mb C.n m D v) (p2 : PlOk C.n m v) (p3 : ∀ b, PlS Sh C.p C.ap C.g C.mb v.ks b → Sc b ∧ b ≠ C.q ∧ b ≠ C.rb)
    {u : LargeV} {k' : Nat} (h : KWent W (KpS Sh kp K V) kp C.hp W' u) (ho : LOk u) (hh : u.held = v.held) (hm : ∀ c ∈ v.ks, c.s ∈ u.h.l) (hl : u.h.last ≤ k') (hl2 : v.h.last ≤ u.h.last) (hg : u.h.pages = v.h.pages) : StkSt C z kp w W' (more S W W') { v with h := u.h } cs u.kept u.waits k' pages ∧ SideP S W (more S W W') W' := by
  obtain ⟨Sh', K', kc', V', vc', r1, r2, r3⟩ := h
  obtain ⟨o1, o2⟩ := r1.own
  have hsub : ∀ b, KpS Sh kp K V b → S b := fun b hb => by
    rcases hb with h | h | h | h
    · exact (q4 b (hsc b h)).1
    · exact (q3 b (Or.inl h)).1
    · exact (q3 b (Or.inr (Or.inl h))).1
    · exact (q3 b (Or.inr (Or.inr h))).1
  have hkq : ∀ b, KpS Sh kp K V b → ¬ Sh b → ¬ Sc b := fun b hb hn => by
    rcases hb with h | h | h | h
    · exact absurd h hn
    · exact (q3 b (Or.inl h)).2.1
    · exact (q3 b (Or.inr (Or.inl h))).2.1
    · exact (q3 b (Or.inr (Or.inr h))).2.1
  have hnz : ¬ KpS Sh kp K V z := fun hb => by
    rcases hb with h | h | h | h
    · exact (q4 z (hsc z h)).2 rfl
    · exact (q3 z (Or.inl h)).2.2 rfl
    · exact (q3 z (Or.inr (Or.inl h))).2.2 rfl
    · exact (q3 z (Or.inr (Or.inr h))).2.2 rfl
  have hK : Kept S W W' := ⟨r2.os, r2.tape, r2.output, r2.size, fun b hb hn => r2.block b hb (fun c => hn (hsub b c))⟩
  have hmo : ∀ b, S b → more S W W' b := fun b hb => ⟨Or.inl hb, Nat.lt_of_lt_of_le (s.lt b hb) hK.size⟩
  have hzl := s.lt _ s.sz
  have hnew : ∀ b, KpS Sh' kp K' V' b → more S W W' b ∧ b ≠ z := fun b hb => by
    have hlt := r1.lt b hb
    rcases r3 b hb with h | h
    · exact ⟨hmo b (hsub b h), fun e => hnz (e ▸ h)⟩
    · exact ⟨⟨Or.inr h, hlt⟩, by omega⟩
  obtain ⟨hc, hf⟩ := s.zs r2 hnz
  -- the caches' own blocks, beside the heap's, are as they were
  have hown : ∀ b, Sc b → ¬ Sh b → ¬ KpS Sh kp K V b ∧ ¬ Sh' b := fun b hb hn => by
    have h1 : ¬ KpS Sh kp K V b := fun h => hkq b h hn hb
    refine ⟨h1, fun h2 => ?_⟩
    rcases r3 b (Or.inl h2) with h | h
    · exact h1 h
    · have := q1.lt b hb; omega
  have hplat := p1.reheap r2 r1.hp_ (fun b hb hn => hown b (p3 b hb).1 hn)
  have hnq : ¬ Sh C.q := fun h => (p3 _ (Or.inl h)).2.1 rfl
  have hnr : ¬ Sh C.rb := fun h => (p3 _ (Or.inl h)).2.2 rfl
  have hbq := r2.block C.q (q1.lt _ q1.sq) (hown _ q1.sq hnq).1
  have hbr := r2.block C.rb (q1.lt _ q1.sr) (hown _ q1.sr hnr).1
  have cq : ∀ j, W'.cell? ⟨C.q, j, none⟩ = W.cell? ⟨C.q, j, none⟩ := fun j => World.cell?_of_block (w := W) (a := ⟨C.q, j, none⟩) hbq
  have cr : ∀ j, W'.cell? ⟨C.rb, j, none⟩ = W.cell? ⟨C.rb, j, none⟩ := fun j => World.cell?_of_block (w := W) (a := ⟨C.rb, j, none⟩) hbr
  have hsz := hK.size
  have hlowS := s.low
  have hca : CaSt C w W' (fun b => (Sc b ∧ ¬ Sh b) ∨ Sh' b) { v with h := u.h } cs k' pages := by
    refine ⟨⟨Sh', m, D, hplat, ⟨?_, p2.wide, hm, p2.four, p2.lst, p2.sub, p2.ids, by have := p2.cnt; show (m : Int) ≤ u.h.last; omega⟩, fun b hb => ?_⟩, q1.ok, (cq 0).trans q1.c0, (cq 1).trans q1.c1, (cq 2).trans q1.c2, fun i c h => ⟨(cr _).trans (q1.row i c h).1, (cr _).trans (q1.row i c h).2⟩, fun j => (World.frozen?_of_block (w := W) (a := ⟨C.rb, j, none⟩) hbr).trans (q1.fz j), q1.len, q1.ne, q1.n1, Or.inl ⟨q1.sq, hnq⟩, Or.inl ⟨q1.sr, hnr⟩, fun b hb => ?_, fun b hb => ?_, s.bel.trans (hK.below s.bel.size s.low), hl, hg.trans q1.pg⟩
    · show (C.n : Int) = 64 * u.h.pages
      rw [hg]; exact p2.len
    · have hrest : PlS Sh C.p C.ap C.g C.mb v.ks b → ¬ Sh b → ((Sc b ∧ ¬ Sh b) ∨ Sh' b) ∧ b ≠ C.q ∧ b ≠ C.rb := fun h hn => ⟨Or.inl ⟨(p3 b h).1, hn⟩, (p3 b h).2⟩
      rcases hb with h | h
      · refine ⟨Or.inr h, fun e => ?_, fun e => ?_⟩
        · exact (hown _ q1.sq hnq).2 (e ▸ h)
        · exact (hown _ q1.sr hnr).2 (e ▸ h)
      · obtain ⟨a1, a2, a3, a4⟩ := p1.nh
        refine hrest (Or.inr h) ?_
        rcases h with rfl | rfl | rfl | rfl | ⟨c, hc, rfl⟩
        · exact a1
        · exact a2
        · exact a3
        · exact a4
        · exact (p1.nk c hc).2.2.2.2
    · rcases hb with h | h
      · exact Nat.lt_of_lt_of_le (q1.lt b h.1) hsz
      · exact r1.hp_.lt b h
    · rcases hb with h | h
      · exact q1.low b h.1
      · have h2 := (hnew b (Or.inl h)).1.1
        rcases h2 with h2 | h2
        · exact hlowS b h2
        · exact Nat.le_trans s.bel.size h2
  refine ⟨⟨⟨_, K', kc', V', vc', hca, by rw [← hh]; exact o1, fun b hb => ?_, fun b hb => ?_⟩, (hc 0).trans s.z0, (hc 1).trans s.z1, (hc 2).trans s.z2, (hc 3).trans s.z3, (hc 4).trans s.z4, (hc 5).trans s.z5, (hc 6).trans s.z6, hf, by rw [← hh]; exact ho, hmo _ s.sz, fun b hb => hb.2, more_low s.bel.size s.low, s.bel.trans (hK.below s.bel.size s.low)⟩, SideP.did hK⟩
  · have hkp : KpS Sh' kp K' V' b := Or.inr hb
    obtain ⟨n1, n2⟩ := hnew b hkp
    refine ⟨n1, fun hS => ?_, n2⟩
    rcases hS with ⟨h1, h2⟩ | h1
    · rcases r3 b hkp with h3 | h3
      · exact hkq b h3 h2 h1
      · have := q1.lt b h1; omega
    · exact o2 b hb h1
  · rcases hb with h | h
    · exact ⟨hmo b (q4 b h.1).1, (q4 b h.1).2⟩
    · exact hnew b (Or.inl h)
end
end Go.Proofs.YtlcdgmjinhbncaaGreat
/- New of stacks. -/
namespace Go.Proofs.YtlcdgmjinhbncaaGreat
open Go.RowKit Go.Maps
set_option linter.unusedVariables false

/-- The last of New: the block is laid. -/
theorem StkSt.made {C : CaF} {w w4 w5 : World} {S4 : Nat → Prop} {v : PoolW} {cs : List CL} {k kp : Nat} {pages : Int} {Sh : Nat → Prop} (hs : CaSt C w w4 S4 v cs k pages) (hok : HOk v.h) (k1 : KpAt w5 Sh kp C.hp none 0 none 0 ⟨v.h, [], [], false⟩) (hv : v.held = false) (hb : Below w4.heap.size w4 w5) (hk : w4.heap.size ≤ kp) :
    StkSt C w5.heap.size kp w (w5.alloc (.cells #[.pointer (some ⟨C.ap, 0, none⟩), .pointer (some ⟨C.hp, 0, none⟩), .pointer (some ⟨C.p, 0, none⟩), .pointer (some ⟨kp, 0, none⟩), .pointer (some ⟨C.q, 0, none⟩), .int .i64 C.N, .bool false] 187)) (fun b => S4 b ∨ b = kp ∨ b = w5.heap.size) v cs [] [] k pages := by
  obtain ⟨ob, hob⟩ : ∃ ob, ob = Obj.cells #[.pointer (some ⟨C.ap, 0, none⟩), .pointer (some ⟨C.hp, 0, none⟩), .pointer (some ⟨C.p, 0, none⟩), .pointer (some ⟨kp, 0, none⟩), .pointer (some ⟨C.q, 0, none⟩), .int .i64 C.N, .bool false] 187 := ⟨_, rfl⟩
  have hb2 : Below w5.heap.size w5 (w5.alloc ob) := (Below.refl _ _).alloc (Nat.le_refl _) _
  have hkl := k1.ltp
  have hz := hb.size
  have hzz : (w5.alloc ob).heap.size = w5.heap.size + 1 := by simp
  have hbs := hs.bel.size
  obtain ⟨o1, o2⟩ := k1.own
  have hq : ∀ b, KqS kp none none b → b = kp := fun b hb => by
    rcases hb with h | h | h
    · exact h
    · cases h
    · cases h
  have hca : CaSt C w (w5.alloc ob) S4 v cs k pages := (hs.below hb).below hb2
  have hkq : KqAt (w5.alloc ob) kp C.hp none 0 none 0 [] [] v.held := by
    rw [hv]
    exact o1.kept_ (Kept.of_below hb2 (fun _ => False)) (fun _ _ => id)
  rw [← hob]
  refine ⟨⟨S4, none, 0, none, 0, hca, hkq, fun b hb => ?_, fun b hb => ⟨Or.inl hb, ?_⟩⟩, ?_, ?_, ?_, ?_, ?_, ?_, ?_, fun j => ?_, ⟨hok, fun x hx => (by cases hx), List.nodup_nil, fun _ => rfl⟩, Or.inr (Or.inr rfl), fun b hb => ?_, fun b hb => ?_, (hs.bel.trans (hb.mono hbs)).alloc (by omega) _⟩
  · obtain rfl := hq b hb
    exact ⟨Or.inr (Or.inl rfl), fun h => by have := hs.lt _ h; omega, by omega⟩
  · have := hs.lt b hb; omega
  · rw [hob]; exact World.cell?_alloc_at _ _ _ 0 (by simp)
  · rw [hob]; exact World.cell?_alloc_at _ _ _ 1 (by simp)
  · rw [hob]; exact World.cell?_alloc_at _ _ _ 2 (by simp)
  · rw [hob]; exact World.cell?_alloc_at _ _ _ 3 (by simp)
  · rw [hob]; exact World.cell?_alloc_at _ _ _ 4 (by simp)
  · rw [hob]; exact World.cell?_alloc_at _ _ _ 5 (by simp)
  · rw [hob, hv]; exact World.cell?_alloc_at _ _ _ 6 (by simp)
  · rw [hob]; exact frozen_new _ _ _ j
  · rcases hb with h | h | h
    · have := hs.lt b h; omega
    · omega
    · omega
  · rcases hb with h | h | h
    · exact hs.low b h
    · omega
    · omega

theorem c_snew (pages : Int) (N : Nat) (w : World) (h0 : 4 ≤ pages) (h1 : pages ≤ 1024) (hN1 : 1 ≤ N ∧ N ≤ 16) : ∃ F ws, hNew pages = (⟨pages, F, [], 0⟩, 0) ∧
    Calls Tryz.prog 44 #[.int .i64 pages, .int .i64 N] w fun e w' => ∃ (C : CaF) (z kp : Nat) (S : Nat → Prop), e = .returned (.tuple #[.pointer (some ⟨z, 0, none⟩), .int .i64 0]) ∧ C.N = N ∧ Hid (StkSt C z kp w w' S ⟨⟨pages, F, [], 0⟩, ws, false, []⟩ (List.replicate (4 * N) ((0, 0), [])) [] [] 0 pages) := by
  obtain ⟨F, e1, _, hok⟩ := hNew_ok h0 h1
  obtain ⟨n, rfl⟩ : ∃ n : Nat, pages = n := ⟨pages.toNat, by omega⟩
  obtain ⟨ws, hws⟩ : ∃ ws, List.replicate (64 * n) 0 = ws := ⟨_, rfl⟩
  have hwide : Wide ws := fun x hx => by rw [← hws] at hx; rw [(List.mem_replicate.1 hx).2]; decide
  refine ⟨F, ws, e1, ?_⟩
  have HC : Calls Tryz.prog 62 #[.int .i64 (n : Int)] w fun e w1 => ∃ ap, e = .returned (.tuple #[.pointer (some ⟨ap, 0, none⟩), .int .i64 0]) ∧
      Calls Tryz.prog 61 #[.int .i64 (n : Int)] w1 fun e w2 => ∃ hp, e = .returned (.tuple #[.pointer (some ⟨hp, 0, none⟩), .int .i64 0]) ∧
      Calls Tryz.prog 63 #[.pointer (some ⟨hp, 0, none⟩), .pointer (some ⟨ap, 0, none⟩)] w2 fun e w3 => ∃ p, e = .returned (.pointer (some ⟨p, 0, none⟩)) ∧
      Calls Tryz.prog 91 #[.int .i64 N, .pointer (some ⟨p, 0, none⟩), .pointer (some ⟨ap, 0, none⟩)] w3 fun e w4 => ∃ q, e = .returned (.tuple #[.pointer (some ⟨q, 0, none⟩), .int .i64 0]) ∧
      Calls Tryz.prog 110 #[.pointer (some ⟨hp, 0, none⟩)] w4 fun e w5 => ∃ kp, e = .returned (.pointer (some ⟨kp, 0, none⟩)) ∧ Hid (∃ (C : CaF) (S : Nat → Prop), C.N = N ∧
        StkSt C w5.heap.size kp w (w5.alloc (.cells #[.pointer (some ⟨ap, 0, none⟩), .pointer (some ⟨hp, 0, none⟩), .pointer (some ⟨p, 0, none⟩), .pointer (some ⟨kp, 0, none⟩), .pointer (some ⟨q, 0, none⟩), .int .i64 N, .bool false] 187)) S ⟨⟨(n : Int), F, [], 0⟩, ws, false, []⟩ (List.replicate (4 * N) ((0, 0), [])) [] [] 0 n) := by
    have ca := code_anew n w (by omega) (by omega)
    rw [hws] at ca
    refine ca.mono ?_
    rintro e w1 ⟨ap, g, rfl, ha, hb1⟩
    obtain ⟨F', e1', ch⟩ := t_hnew n w1 h0 h1
    obtain rfl : F' = F := by rw [e1] at e1'; injection e1' with e1' _; injection e1' with _ e1'; exact e1'.symm
    refine ⟨ap, rfl, ch.mono ?_⟩
    rintro e w2 ⟨hp, Sh, rfl, hh⟩
    have hal := ha.ltp
    have hgl := ha.lt
    have hage := ha.ge
    have hgge := ha.geg
    have hbz := hb1.size
    have hbz2 := hh.bel.size
    refine ⟨hp, rfl, (code_pnew hh.hp ((ha.below hh.bel (Nat.le_refl _)).more (Nat.zero_le _)) (by show ((64 * n : Nat) : Int) = 64 * (n : Int); omega) hwide (fun h => by have := hh.low _ h; omega) (fun h => by have := hh.low _ h; omega)).mono ?_⟩
    rintro e w3 ⟨p, mb, rfl, q1, q2, q3, q4, q5⟩
    refine ⟨p, rfl, (c_new (w := w) (S := PlS Sh p ap g mb []) (k := 0) (pages := (n : Int)) N hN1 q1 q2 q1.lt (fun b h => h) (fun b h => ?_) ((hb1.trans (hh.bel.mono hbz)).trans (q3.mono (by omega))) (Int.le_refl _) rfl).mono ?_⟩
    · rcases h with h | h | h | h | h | ⟨c, hc, _⟩
      · have := hh.low b h; omega
      · omega
      · omega
      · omega
      · omega
      · cases hc
    · rintro e w4 ⟨C, S4, rfl, ⟨x1, x2, x3, x4⟩, hs⟩
      obtain ⟨Sh4, m4, D4, p1, p2, p3⟩ := hs.pl
      have kk := code_knew p1.hp_
      rw [x2] at kk
      refine ⟨C.q, rfl, kk.mono ?_⟩
      rintro e w5 ⟨kp, rfl, k1, k2, k3⟩
      rw [← x2] at k1
      have := StkSt.made hs hok k1 rfl k2 k3
      rw [x1, x2, x3, x4] at this
      exact ⟨kp, rfl, hidb ⟨C, _, x3, this⟩⟩
  clear e1 hws hwide hok
  go_enter Tryz.func44, Tryz.ntmps44
  go_wp2_with (first
    | (go_at_call 62; (with_reducible refine HC.mono ?_); rintro e w1 ⟨ap, rfl, c2⟩)
    | (go_at_call 61; (with_reducible refine c2.mono ?_); rintro e w2 ⟨hp, rfl, c3⟩)
    | (go_at_call 63; (with_reducible refine c3.mono ?_); rintro e w3 ⟨p, rfl, c4⟩)
    | (go_at_call 91; (with_reducible refine c4.mono ?_); rintro e w4 ⟨q, rfl, c5⟩)
    | (go_at_call 110; (with_reducible refine c5.mono ?_); rintro e w5 ⟨kp, rfl, HF⟩))
  obtain ⟨C, S, hCN, hst⟩ := HF.out
  exact bodyPost_ret (v := .tuple #[.pointer (some ⟨w5.heap.size, 0, none⟩), .int .i64 0]) (by simp [results, Tryz.results44, go_sem]) rfl ⟨C, _, kp, S, rfl, hCN, hidb hst⟩
end Go.Proofs.YtlcdgmjinhbncaaGreat
/- Make of stacks. -/
namespace Go.Proofs.YtlcdgmjinhbncaaGreat
open Go.RowKit Go.Maps
set_option linter.unusedVariables false

theorem code_base (page : Int) (w : World) (h0 : 0 ≤ page) (h1 : page ≤ 1024) :
    Calls Tryz.prog 122 #[.int .i64 page] w fun e w' => e = .returned (.int .i64 (page * 64)) ∧ w' = w := by
  have hw : IntKind.i64.wrap (page * 64) = page * 64 := by rw [IntKind.wrap_i64]; omega
  go_enter Tryz.func122, Tryz.ntmps122
  go_wp2
  go_ret
  exact ⟨rfl, rfl⟩
/-- No such processor, or no such size. -/
theorem c_smake_bad (u : Option Addr) (N proc words : Int) (w : World) (hN : ∀ W, Below w.heap.size w W → ∀ a, u = some a → ∃ q, a = ⟨q, 0, none⟩ ∧ W.cell? ⟨q, 5, none⟩ = some (.int .i64 N)) (hw : in64 words) (h : (decide (u = none) || decide (proc < 0 ∨ N ≤ proc)) = true ∨ stkSize words = false) :
    Calls Tryz.prog 55 #[.pointer u, .int .i64 proc, .int .i64 words] w fun e w' => e = .returned (.tuple #[.int .i64 0, .int .i64 1]) ∧ Below w.heap.size w w' := by
  cases hp : (decide (u = none) || decide (proc < 0 ∨ N ≤ proc)) with
  | true =>
    have cp := c_proc1 u N proc w hN false (by rw [hp]; rfl)
    clear hN h hp hw
    --@1
    go_enter Tryz.func55, Tryz.ntmps55
    go_wp2_with (first
      | (go_at_call 58; (with_reducible refine cp.mono ?_); rintro e w1 ⟨rfl, hb1⟩))
    go_ret2
    exact ⟨rfl, hb1⟩
  | false =>
    have cp := c_proc1 u N proc w hN true (by rw [hp]; rfl)
    have hz : stkSize words = false := h.resolve_left (by rw [hp]; decide)
    have cz := fun W => c_size1 words hw W false hz
    clear hN h hp hw hz
    --@2
    go_enter Tryz.func55, Tryz.ntmps55
    go_wp2_with (first
      | (go_at_call 58; (with_reducible refine cp.mono ?_); rintro e w1 ⟨rfl, hb1⟩)
      | (go_at_call 59; (with_reducible refine (cz _).mono ?_); rintro e w2 ⟨rfl, hb2⟩))
    go_ret2
    exact ⟨rfl, hb1.trans (hb2.mono hb1.size)⟩

theorem pTake_more (p : PoolV) (o : Int) : ∀ s ∈ p.heap.l, s ∈ (pTake p o).1.heap.l := fun s hs => by
  unfold pTake
  split
  · exact hs
  · cases pFirst p.l o 0 true with
    | some i =>
      simp only
      cases p.l[i]? with
      | none => exact hs
      | some c => exact hs
    | none =>
      simp only
      split
      · exact hMake_moreP 4 o s hs
      · exact hs
theorem caFill_more2 : ∀ (f : Nat) {p : PoolV} {l : List Int} {o : Int}, (∀ s ∈ p.heap.l, s ∈ (caFill f p l o).1.heap.l) ∧ (caFill f p l o).1.held = p.held
  | 0, _, _, _ => ⟨fun _ h => h, rfl⟩
  | f + 1, p, l, o => by
    unfold caFill
    split
    · split
      · have := caFill_more2 f (p := (pTake p o).1) (l := (pTake p o).2.1 :: l) (o := o)
        exact ⟨fun s hs => this.1 s (pTake_more p o s hs), this.2.trans (pTake_held p o)⟩
      · exact ⟨pTake_more p o, pTake_held p o⟩
    · exact ⟨fun _ h => h, rfl⟩
theorem caTake_more (p : PoolV) (l : List Int) (o : Int) : (∀ s ∈ p.heap.l, s ∈ (caTake p l o).1.heap.l) ∧ (caTake p l o).1.held = p.held := by
  unfold Go.Proofs.YtlcdgmjinhbncaaGreat.caTake
  cases l with
  | cons a r => exact ⟨fun _ h => h, rfl⟩
  | nil =>
    simp only
    have h := caFill_more2 8 (p := p) (l := []) (o := o)
    cases (caFill 8 p [] o).2.1 with
    | nil => exact h
    | cons a r => exact h
theorem lTake_more (v : LargeV) (n : Int) : (∀ s ∈ v.h.l, s ∈ (lTake v n).1.h.l) ∧ (lTake v n).1.held = v.held ∧ v.h.last ≤ (lTake v n).1.h.last := by
  unfold lTake
  split
  · exact ⟨fun _ h => h, rfl, Int.le_refl _⟩
  · split
    · exact ⟨fun _ h => h, rfl, Int.le_refl _⟩
    · exact ⟨hMake_moreP n (-1), rfl, hMake_lastP n (-1)⟩

section
variable {C : CaF} {z kp : Nat} {w W : World} {S : Nat → Prop} {v : PoolW} {cs : List CL} {kept waits : List Spn} {k : Nat} {pages : Int}
theorem StkSt.procs (s : StkSt C z kp w W S v cs kept waits k pages) : ∀ W', Below W.heap.size W W' → ∀ a, some (⟨z, 0, none⟩ : Addr) = some a → ∃ q, a = ⟨q, 0, none⟩ ∧ W'.cell? ⟨q, 5, none⟩ = some (.int .i64 C.N) := fun W' hb a e => ⟨z, (Option.some.inj e).symm, (s.below hb).z5⟩
theorem LOk.heap_ {h h' : HeapV} {on on' : Bool} (o : LOk ⟨h, kept, waits, on⟩) (k : HOk h') (hm : ∀ s ∈ h.l, s ∈ h'.l) (e : on' = on) : LOk ⟨h', kept, waits, on'⟩ := by
  subst e
  exact ⟨k, fun s hs => ⟨hm s (o.mem s hs).1, (o.mem s hs).2⟩, o.nd, o.calm⟩
def SMade (C : CaF) (z kp : Nat) (w W : World) (S : Nat → Prop) (cs : List CL) (kept waits : List Spn) (i k : Nat) (pages : Int) (R : PoolV × List Int × Int × Int) (e : Ending) (w' : World) : Prop :=
  e = .returned (.tuple #[.int .i64 R.2.2.1, .int .i64 R.2.2.2]) ∧ ∃ S' v' c', StkSt C z kp w w' S' v' (cs.set i (c', R.2.1)) kept waits (k + 8) pages ∧ v'.plain = R.1 ∧ SideP S W S' w' ∧ (R.2.2.2 = 0 → OutQ R.1.l R.2.2.1 ((i % 4 : Nat) : Int) ∧ ∀ d ∈ cs.set i (c', R.2.1), R.2.2.1 ∉ d.2)
/-- The caches' Take, in stacks. -/
theorem s_ctake (s : StkSt C z kp w W S v cs kept waits k pages) (hk : k + 8 ≤ 1000000000) (pn on : Nat) (h1 : pn < C.N) (h2 : on < 4) {c : Int × Int} {l : List Int} (hi : cs[4 * pn + on]? = some (c, l)) :
    Calls Tryz.prog 40 #[.pointer (some ⟨C.q, 0, none⟩), .int .i64 pn, .int .i64 on] W (SMade C z kp w W S cs kept waits (4 * pn + on) k pages (caTake v.plain l on)) := by
  obtain ⟨Sc, K, kc, V, vc, q1, q2, q3, q4⟩ := s.parts
  refine (c_take q1 hk pn on h1 h2 hi).mono ?_
  rintro e w' ⟨rfl, S', v', c', k1, k2, k3, k4⟩
  obtain ⟨m1, m2⟩ := caTake_more v.plain l on
  have hh : v'.held = v.held := by
    have := congrArg PoolV.held k2
    exact this.trans m2
  have hhl : v'.h = (caTake v.plain l on).1.heap := congrArg PoolV.heap k2
  obtain ⟨Sh, m, D, p1, _⟩ := k1.pl
  obtain ⟨r1, r2⟩ := s.cache q2 q3 q4 k1 k3 hh (s.ok.heap_ p1.hp_.ok (by rw [hhl]; exact m1) rfl)
  exact ⟨rfl, _, v', c', r1, k2, r2, k4⟩
/-- Make of a small one. -/
theorem c_smake_small (s : StkSt C z kp w W S v cs kept waits k pages) (hk : k + 8 ≤ 1000000000) (pn on : Nat) (h1 : pn < C.N) (h2 : on < 4) {c : Int × Int} {l : List Int} (hi : cs[4 * pn + on]? = some (c, l)) (words : Int) (hw : in64 words) (hz : stkSize words = true) (ho : ordI words = on) :
    Calls Tryz.prog 55 #[.pointer (some ⟨z, 0, none⟩), .int .i64 pn, .int .i64 words] W (SMade C z kp w W S cs kept waits (4 * pn + on) k pages (caTake v.plain l on)) := by
  have cp := c_proc1 (some ⟨z, 0, none⟩) C.N pn W s.procs true (by
    have : ¬ ((pn : Int) < 0 ∨ (C.N : Int) ≤ pn) := by omega
    rw [decide_eq_false this]; rfl)
  have cz := fun X => c_size1 words hw X true hz
  have co := fun X => num_order words X
  rw [ho] at co
  obtain ⟨R, hR⟩ : ∃ R, caTake v.plain l on = R := ⟨_, rfl⟩
  have CT : Hid (∀ W', Below W.heap.size W W' → W'.cell? ⟨z, 4, none⟩ = some (.pointer (some ⟨C.q, 0, none⟩)) ∧ Calls Tryz.prog 40 #[.pointer (some ⟨C.q, 0, none⟩), .int .i64 pn, .int .i64 on] W' fun e w' => e = .returned (.tuple #[.int .i64 R.2.2.1, .int .i64 R.2.2.2]) ∧ Hid (SMade C z kp w W S cs kept waits (4 * pn + on) k pages R e w')) := hidb (fun W' hb => by
    have s2 := s.below hb
    refine ⟨s2.z4, ?_⟩
    have := s_ctake s2 hk pn on h1 h2 hi
    rw [hR] at this
    refine this.mono ?_
    rintro e w' ⟨rfl, S', v', c', r1, r2, r3, r4⟩
    exact ⟨rfl, hidb ⟨rfl, S', v', c', r1, r2, (SideP.below hb).trans r3, r4⟩⟩)
  rw [hR]
  clear s hi hz hw ho hR
  --@3
  go_enter Tryz.func55, Tryz.ntmps55
  go_wp2_with (first
    | (go_at_call 58; (with_reducible refine cp.mono ?_); rintro e w1 ⟨rfl, hb1⟩)
    | (go_at_call 59; (with_reducible refine (cz _).mono ?_); rintro e w2 ⟨rfl, hb2⟩; obtain ⟨y4, ct⟩ := CT.out _ (hb1.trans (hb2.mono hb1.size)))
    | (go_at_call 120; (with_reducible refine (co _).mono ?_); rintro e w3 ⟨rfl, rfl⟩)
    | (go_at_call 40; (with_reducible refine ct.mono ?_); rintro e w4 ⟨rfl, HF⟩))
  exact bodyPost_ret (v := .tuple #[.int .i64 R.2.2.1, .int .i64 R.2.2.2]) (by simp [results, Tryz.results55, go_sem]) rfl HF.out
/-- The keeper's Take, in stacks. -/
def SKept (C : CaF) (z kp : Nat) (w W : World) (S : Nat → Prop) (v : PoolW) (cs : List CL) (k : Nat) (pages : Int) (u : LargeV) (w' : World) : Prop :=
  ∃ S', StkSt C z kp w w' S' { v with h := u.h } cs u.kept u.waits k pages ∧ SideP S W S' w'
theorem s_ktake (s : StkSt C z kp w W S v cs kept waits k pages) (hk : k + 1 ≤ 1000000000) (n : Int) (hn : in64 n) {u : LargeV} {s1 s2 s3 s4 no : Int} (hT : lTake ⟨v.h, kept, waits, v.held⟩ n = (u, (s1, s2, s3, s4), no)) :
    Calls Tryz.prog 125 #[.pointer (some ⟨kp, 0, none⟩), .int .i64 n] W fun e w' => e = .returned (.tuple #[.agg #[.int .i64 s1, .int .i64 s2, .int .i64 s3, .int .i64 s4], .int .i64 no]) ∧ SKept C z kp w W S v cs (k + 1) pages u w' := by
  obtain ⟨Sc, Sh, K, kc, V, vc, q1, q2, q3, q4, kk, hsc, m, D, p1, p2, p3⟩ := s.keeper
  have hla := q1.la
  have hm := lTake_more ⟨v.h, kept, waits, v.held⟩ n
  have hh := s.ok.take_heap n
  have ho := s.ok.take n
  rw [hT] at hm hh ho
  refine (code_ktake kk n hn (by show v.h.last + 1 ≤ _; omega)).mono ?_
  rw [hT]
  rintro e w' ⟨rfl, hw⟩
  obtain ⟨r1, r2⟩ := s.large (u := u) (kc := kc) (vc := vc) (k' := k + 1) q1 q3 q4 hsc p1 p2 p3 hw ho hm.2.1 (fun c hc => hm.1 _ (p2.mem c hc)) (by have h1 : u.h.last ≤ v.h.last + 1 := hh.2; omega) hm.2.2 hh.1
  exact ⟨rfl, _, r1, r2⟩
end
theorem span_cellB (W : World) (a b c d : Int) (t : TypeId) : (W.alloc (.cells #[.int .i64 a, .int .i64 b, .int .i64 c, .int .i64 d] t)).cell? ⟨W.heap.size, 1, none⟩ = some (.int .i64 b) := World.cell?_alloc_at _ _ _ 1 (by simp)
section
variable {C : CaF} {z kp : Nat} {w W : World} {S : Nat → Prop} {v : PoolW} {cs : List CL} {kept waits : List Spn} {k : Nat} {pages : Int}
/-- Make of a large one. -/
theorem c_smake_large (s : StkSt C z kp w W S v cs kept waits k pages) (hk : k + 1 ≤ 1000000000) (pn : Nat) (h1 : pn < C.N) (words n : Int) (hw : in64 words) (hz : stkSize words = true) (ho : ordI words = -1) (hn : words = 64 * n) (hn0 : 0 ≤ n) {u : LargeV} {s1 s2 s3 s4 no : Int} (hT : lTake ⟨v.h, kept, waits, v.held⟩ n = (u, (s1, s2, s3, s4), no)) (hs2 : no = 0 → 0 ≤ s2 ∧ s2 ≤ 1024) :
    Calls Tryz.prog 55 #[.pointer (some ⟨z, 0, none⟩), .int .i64 pn, .int .i64 words] W fun e w' => e = .returned (.tuple #[.int .i64 (if no = 0 then s2 * 64 else 0), .int .i64 no]) ∧ SKept C z kp w W S v cs (k + 1) pages u w' := by
  have cp := c_proc1 (some ⟨z, 0, none⟩) C.N pn W s.procs true (by
    have : ¬ ((pn : Int) < 0 ∨ (C.N : Int) ≤ pn) := by omega
    rw [decide_eq_false this]; rfl)
  have cz := fun X => c_size1 words hw X true hz
  have co := fun X => num_order words X
  rw [ho] at co
  have hn64 : in64 n := by obtain ⟨a, b⟩ := hw; exact ⟨by omega, by omega⟩
  have CT : Hid (∀ W', Below W.heap.size W W' → W'.cell? ⟨z, 3, none⟩ = some (.pointer (some ⟨kp, 0, none⟩)) ∧ Calls Tryz.prog 125 #[.pointer (some ⟨kp, 0, none⟩), .int .i64 n] W' fun e w' => e = .returned (.tuple #[.agg #[.int .i64 s1, .int .i64 s2, .int .i64 s3, .int .i64 s4], .int .i64 no]) ∧ Hid (∀ w'', Below w'.heap.size w' w'' → SKept C z kp w W S v cs (k + 1) pages u w'')) := hidb (fun W' hb => by
    have s2' := s.below hb
    refine ⟨s2'.z3, (s_ktake s2' hk n hn64 hT).mono ?_⟩
    rintro e w' ⟨rfl, S', r1, r2⟩
    exact ⟨rfl, hidb (fun w'' hb2 => ⟨S', r1.below hb2, ((SideP.below hb).trans r2).trans (SideP.below hb2)⟩)⟩)
  have cb := fun X (hno : no = 0) => code_base s2 X (hs2 hno).1 (hs2 hno).2
  have hb4 := span_cellB
  have hw0 : 0 ≤ words := by omega
  have hdiv : wrap64 (words.tdiv 64) = n := by
    have hq : words / 64 = n := by omega
    obtain ⟨ha, hb⟩ := hn64
    rw [Int.tdiv_eq_ediv_of_nonneg hw0, hq]
    unfold wrap64
    omega
  clear s hz ho hT hs2 hn
  by_cases hno : no = 0
  · subst hno
    have cb2 := fun X => cb X rfl
    rw [if_pos rfl]
    clear cb
    --@4
    go_enter Tryz.func55, Tryz.ntmps55
    go_wp2_with (first
      | (go_at_call 58; (with_reducible refine cp.mono ?_); rintro e w1 ⟨rfl, hb1⟩)
      | (go_at_call 59; (with_reducible refine (cz _).mono ?_); rintro e w2 ⟨rfl, hb2⟩; obtain ⟨y3, ct⟩ := CT.out _ (hb1.trans (hb2.mono hb1.size)))
      | (go_at_call 120; (with_reducible refine (co _).mono ?_); rintro e w3 ⟨rfl, rfl⟩)
      | (go_at_call 125; (with_reducible refine ct.mono ?_); rintro e w4 ⟨rfl, HF⟩; have y1 := hb4 w4 s1 s2 s3 s4 49)
      | (go_at_call 122; (with_reducible refine (cb2 _).mono ?_); rintro e w5 ⟨rfl, rfl⟩))
    go_ret2
    exact ⟨rfl, HF.out _ ((Below.refl _ _).alloc (Nat.le_refl _) _)⟩
  · rw [if_neg hno]
    have hne : (no != 0) = true := by simpa using hno
    clear cb
    --@5
    go_enter Tryz.func55, Tryz.ntmps55
    go_wp2_with (first
      | (go_at_call 58; (with_reducible refine cp.mono ?_); rintro e w1 ⟨rfl, hb1⟩)
      | (go_at_call 59; (with_reducible refine (cz _).mono ?_); rintro e w2 ⟨rfl, hb2⟩; obtain ⟨y3, ct⟩ := CT.out _ (hb1.trans (hb2.mono hb1.size)))
      | (go_at_call 120; (with_reducible refine (co _).mono ?_); rintro e w3 ⟨rfl, rfl⟩)
      | (go_at_call 125; (with_reducible refine ct.mono ?_); rintro e w4 ⟨rfl, HF⟩))
    go_ret2
    exact ⟨rfl, HF.out _ ((Below.refl _ _).alloc (Nat.le_refl _) _)⟩
end
end Go.Proofs.YtlcdgmjinhbncaaGreat
/- What nil stacks answer; the document's example. -/
namespace Go.Proofs.YtlcdgmjinhbncaaGreat
open Go.RowKit Go.Maps
set_option linter.unusedVariables false

/-- Free: no such processor, or no such size. -/
theorem c_sfree_bad (u : Option Addr) (N proc at' words : Int) (w : World) (hN : ∀ W, Below w.heap.size w W → ∀ a, u = some a → ∃ q, a = ⟨q, 0, none⟩ ∧ W.cell? ⟨q, 5, none⟩ = some (.int .i64 N)) (hw : in64 words) (h : (decide (u = none) || decide (proc < 0 ∨ N ≤ proc)) = true ∨ stkSize words = false) :
    Calls Tryz.prog 52 #[.pointer u, .int .i64 proc, .int .i64 at', .int .i64 words] w fun e w' => e = .returned (.int .i64 1) ∧ Below w.heap.size w w' := by
  cases hp : (decide (u = none) || decide (proc < 0 ∨ N ≤ proc)) with
  | true =>
    have cp := c_proc1 u N proc w hN false (by rw [hp]; rfl)
    clear hN h hp hw
    --@1
    go_enter Tryz.func52, Tryz.ntmps52
    go_wp2_with (first
      | (go_at_call 58; (with_reducible refine cp.mono ?_); rintro e w1 ⟨rfl, hb1⟩))
    go_ret
    exact ⟨rfl, hb1⟩
  | false =>
    have cp := c_proc1 u N proc w hN true (by rw [hp]; rfl)
    have hz : stkSize words = false := h.resolve_left (by rw [hp]; decide)
    have cz := fun W => c_size1 words hw W false hz
    clear hN h hp hw hz
    --@2
    go_enter Tryz.func52, Tryz.ntmps52
    go_wp2_with (first
      | (go_at_call 58; (with_reducible refine cp.mono ?_); rintro e w1 ⟨rfl, hb1⟩)
      | (go_at_call 59; (with_reducible refine (cz _).mono ?_); rintro e w2 ⟨rfl, hb2⟩))
    go_ret
    exact ⟨rfl, hb1.trans (hb2.mono hb1.size)⟩
theorem sn_parts (w : World) : Calls Tryz.prog 48 #[.pointer none] w fun e w' => e = .returned (.tuple #[.pointer none, .pointer none, .pointer none, .pointer none, .pointer none]) ∧ w' = w := by
  --@3
  go_enter Tryz.func48, Tryz.ntmps48
  go_wp2
  exact bodyPost_ret (v := .tuple #[.pointer none, .pointer none, .pointer none, .pointer none, .pointer none]) (by simp [results, Tryz.results48, go_sem]) rfl ⟨rfl, rfl⟩
theorem sn_open (w : World) : Calls Tryz.prog 57 #[.pointer none] w fun e w' => e = .returned (.int .i64 9) ∧ w' = w := by
  --@4
  go_enter Tryz.func57, Tryz.ntmps57
  go_wp2
  go_ret
  exact ⟨rfl, rfl⟩
theorem sn_collects (w : World) : Calls Tryz.prog 54 #[.pointer none] w fun e w' => e = .returned (.bool false) ∧ w' = w := by
  --@5
  go_enter Tryz.func54, Tryz.ntmps54
  go_wp2
  go_ret
  exact ⟨rfl, rfl⟩
theorem sn_close (w : World) : Calls Tryz.prog 51 #[.pointer none] w fun e w' => e = .returned (.int .i64 9) ∧ w' = w := by
  have cc := sn_collects w
  --@6
  go_enter Tryz.func51, Tryz.ntmps51
  go_wp2_with (first | (go_at_call 54; (with_reducible refine cc.mono ?_); rintro e w1 ⟨rfl, rfl⟩))
  go_ret
  exact ⟨rfl, rfl⟩
theorem sn_flush (w : World) : Calls Tryz.prog 53 #[.pointer none] w fun e w' => e = .returned (.int .i64 0) ∧ w' = w := by
  --@7
  go_enter Tryz.func53, Tryz.ntmps53
  go_wp2
  go_ret
  exact ⟨rfl, rfl⟩
theorem sn_procs0 (w : World) : Calls Tryz.prog 58 #[.pointer none, .slice none 0 0] w fun e w' => e = .returned (.bool true) ∧ Below w.heap.size w w' :=
  c_procs none 0 none 0 0 [] w (fun W hb a h => by cases h) ⟨rfl, fun h => absurd h (Nat.lt_irrefl _)⟩ (by omega) false rfl
/-- The document's own: which sizes. -/
theorem ref_size (n : Int) (w : World) (hn : in64 n) (b : Bool) (hb : stkSize n = b) : Calls Tryz.prog 56 #[.int .i64 n] w fun e w' => e = .returned (.bool b) ∧ w' = w := by
  have ci := ref_is n w hn.1 hn.2
  unfold stkSize at hb
  by_cases hl : n < 16
  · rw [decide_eq_false (by omega), Bool.false_and] at hb
    subst hb
    clear ci
    --@8
    go_enter Tryz.func56, Tryz.ntmps56
    go_wp2
    go_ret
    exact ⟨rfl, rfl⟩
  · rw [decide_eq_true (by omega), Bool.true_and] at hb
    rw [hb] at ci
    clear hb
    have hl2 : 16 ≤ n := by omega
    cases b with
    | true =>
      --@9
      go_enter Tryz.func56, Tryz.ntmps56
      go_wp2_with (first | (go_at_call 126; (with_reducible refine ci.mono ?_); rintro e w1 ⟨rfl, rfl⟩))
      go_ret
      exact ⟨rfl, rfl⟩
    | false =>
      --@10
      go_enter Tryz.func56, Tryz.ntmps56
      go_wp2_with (first | (go_at_call 126; (with_reducible refine ci.mono ?_); rintro e w1 ⟨rfl, rfl⟩))
      go_ret
      exact ⟨rfl, rfl⟩

/-- The document's example: four pages are cut for the small one, and the large one has no room. -/
theorem aw12_fill {F : List Bool} {R : PoolV × List Int × Int × Int} (hk : HOk ⟨8, F, [], 0⟩) (hR : caTake ⟨⟨8, F, [], 0⟩, [], false⟩ [] 0 = R) : R.2.2.2 = 0 ∧ R.1.held = false ∧ ∃ u, lTake ⟨R.1.heap, [], [], false⟩ 8 = (u, spanNone, 3) := by
  have hl := hk.ends rfl
  simp only at hl
  obtain ⟨g, m1, k1, l1⟩ := make_at hk (n := 4) (o := 0) (by omega) hl (by omega)
  have m1' : hMake ⟨8, F, [], 0⟩ 4 0 = (⟨8, g, [(1, 0, 4, 0)], 1⟩, (1, 0, 4, 0), 0) := m1
  have hbl : pBlocks (1, 0, 4, 0) = [0, 16, 32, 48, 64, 80, 96, 112, 128, 144, 160, 176, 192, 208, 224, 240] := by decide
  have t1 : pTake ⟨⟨8, F, [], 0⟩, [], false⟩ 0 = (⟨⟨8, g, [(1, 0, 4, 0)], 1⟩, [((1, 0, 4, 0), [16, 32, 48, 64, 80, 96, 112, 128, 144, 160, 176, 192, 208, 224, 240])], false⟩, 0, 0) := by
    rw [pTake_new (p := ⟨⟨8, F, [], 0⟩, [], false⟩) (order := 0) (by omega) rfl m1', hbl]; rfl
  have s16 : pSize 0 = 16 := rfl
  have f1 : caFill 8 ⟨⟨8, F, [], 0⟩, [], false⟩ [] 0 = (⟨⟨8, g, [(1, 0, 4, 0)], 1⟩, [((1, 0, 4, 0), [128, 144, 160, 176, 192, 208, 224, 240])], false⟩, [112, 96, 80, 64, 48, 32, 16, 0], 0) := by
    unfold caFill
    rw [if_pos (by rw [s16]; decide), t1]
    simp only [if_true]
    kernel_rfl
  have e : R = (⟨⟨8, g, [(1, 0, 4, 0)], 1⟩, [((1, 0, 4, 0), [128, 144, 160, 176, 192, 208, 224, 240])], false⟩, [96, 80, 64, 48, 32, 16, 0], 112, 0) := by
    rw [← hR]
    unfold caTake
    rw [f1]
  subst e
  refine ⟨rfl, rfl, ⟨⟨8, g, [(1, 0, 4, 0)], 1⟩, [], [], false⟩, ?_⟩
  have hb : fBest g 8 = none := by
    rw [fBest_is g (by have := k1.fl; simp only at this; omega), l1]
    decide
  have h8 : lFits 8 = true := by decide +kernel
  have hf := hMake_full (h := ⟨8, g, [(1, 0, 4, 0)], 1⟩) (n := 8) (o := -1) (by omega) hb
  unfold lTake
  rw [if_neg (by rw [h8]; simp)]
  show (({ h := (hMake ⟨8, g, [(1, 0, 4, 0)], 1⟩ 8 (-1)).1, kept := [], waits := [], held := false } : LargeV), (hMake ⟨8, g, [(1, 0, 4, 0)], 1⟩ 8 (-1)).2.1, (hMake ⟨8, g, [(1, 0, 4, 0)], 1⟩ 8 (-1)).2.2) = _
  rw [hf]
theorem awake12 (w : World) : Calls Tryz.prog 43 #[] w fun e w' => e = .returned (.bool true) ∧ Below w.heap.size w w' := by
  obtain ⟨F, ws, hN, c1⟩ := c_snew 8 1 w (by omega) (by omega) (by omega)
  obtain ⟨F', e1, _, hok⟩ := hNew_ok (pages := 8) (by omega) (by omega)
  obtain rfl : F' = F := by rw [e1] at hN; injection hN with hN _; injection hN
  obtain ⟨R, hR⟩ : ∃ R, caTake ⟨⟨8, F', [], 0⟩, [], false⟩ [] 0 = R := ⟨_, rfl⟩
  obtain ⟨hR0, hRh, u, hu⟩ := aw12_fill hok hR
  have C2 : Hid (∀ W (C : CaF) z kp S, C.N = 1 → Hid (StkSt C z kp w W S ⟨⟨8, F', [], 0⟩, ws, false, []⟩ (List.replicate (4 * 1) ((0, 0), [])) [] [] 0 8) →
      Calls Tryz.prog 55 #[.pointer (some ⟨z, 0, none⟩), .int .i64 0, .int .i64 300] W fun e w2 => e = .returned (.tuple #[.int .i64 0, .int .i64 1]) ∧
      Calls Tryz.prog 55 #[.pointer (some ⟨z, 0, none⟩), .int .i64 0, .int .i64 16] w2 fun e w3 => ∃ at', e = .returned (.tuple #[.int .i64 at', .int .i64 0]) ∧
      Calls Tryz.prog 55 #[.pointer (some ⟨z, 0, none⟩), .int .i64 0, .int .i64 512] w3 fun e w4 => e = .returned (.tuple #[.int .i64 0, .int .i64 3]) ∧ Hid (Below w.heap.size w w4)) := hidb (fun W C z kp S hC s => by
    refine (c_smake_bad (some ⟨z, 0, none⟩) C.N 0 300 W s.out.procs ⟨by omega, by omega⟩ (Or.inr (by decide))).mono ?_
    rintro e w2 ⟨rfl, hb2⟩
    have s2 := s.out.below hb2
    refine ⟨rfl, ?_⟩
    have c3 := c_smake_small s2 (by omega) 0 0 (by omega) (by omega) (c := (0, 0)) (l := []) rfl 16 ⟨by omega, by omega⟩ (by decide) (by decide)
    rw [show caTake (PoolW.plain ⟨⟨8, F', [], 0⟩, ws, false, []⟩) [] ((0 : Nat) : Int) = R from hR] at c3
    refine c3.mono ?_
    rintro e w3 ⟨rfl, S', v', c', k1, k2, _, _⟩
    refine ⟨R.2.2.1, by rw [hR0], ?_⟩
    have e1 : v'.h = R.1.heap := congrArg PoolV.heap k2
    have e2 : v'.held = false := (congrArg PoolV.held k2).trans hRh
    have hT : lTake ⟨v'.h, [], [], v'.held⟩ 8 = (u, (spanNone.1, spanNone.2.1, spanNone.2.2.1, spanNone.2.2.2), 3) := by rw [e1, e2]; exact hu
    refine (c_smake_large k1 (by omega) 0 (by omega) 512 8 ⟨by omega, by omega⟩ (by decide) (by decide) rfl (by omega) hT (fun h => by cases h)).mono ?_
    rintro e w4 ⟨rfl, S4, k4, _⟩
    exact ⟨rfl, hidb k4.bel⟩)
  have c1' : Calls Tryz.prog 44 #[.int .i64 8, .int .i64 1] w _ := c1
  clear hN hR hu c1 hok e1
  --@11
  go_enter Tryz.func43, Tryz.ntmps43
  go_wp2_with (first
    | (go_at_call 44; (with_reducible refine c1'.mono ?_); rintro e w1 ⟨C, z, kp, S, rfl, hCN, s1⟩; have c2 := C2.out _ _ _ _ _ hCN s1; clear s1)
    | (go_at_call 55; (with_reducible refine c2.mono ?_); rintro e w2 ⟨rfl, c3⟩; clear c2)
    | (go_at_call 55; (with_reducible refine c3.mono ?_); rintro e w3 ⟨at', rfl, c4⟩; clear c3)
    | (go_at_call 55; (with_reducible refine c4.mono ?_); rintro e w4 ⟨rfl, P⟩))
  go_ret
  exact ⟨rfl, P.out⟩
end Go.Proofs.YtlcdgmjinhbncaaGreat
