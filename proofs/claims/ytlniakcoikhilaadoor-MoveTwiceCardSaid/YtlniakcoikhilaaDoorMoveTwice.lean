/- Layer 17's statement MoveTwice. -/
import Derived.Test.YtlniakcoikhilaaDoorMovLaws
import Derived.Test.YtlniakcoikhilaaDoorWlkTop0
import Derived.Test.YtlniakcoikhilaaDoorArenaRef
namespace Go.Proofs.YtlniakcoikhilaaDoor
open Go.RowKit Go.ChangeShapes Go.WideShapes
set_option linter.unusedVariables false

/-- The law's world: two arenas and a table. -/
def T2 (X : World) (p g : Nat) (xs : List Nat) (p2 g2 : Nat) (zs : List Nat) (tp : Option Addr) (O : Fns) (W : World) : Prop :=
  Below X.heap.size X W ∧ (Ar W X.heap.size p g 256 xs ∧ Ar W X.heap.size p2 g2 256 zs) ∧ (∃ lo hi, TbO W lo hi tp O ∧ hi ≤ W.heap.size ∧ X.heap.size ≤ lo ∧ (g < lo ∨ hi ≤ g) ∧ (g2 < lo ∨ hi ≤ g2)) ∧ g ≠ g2 ∧ p ≠ g2 ∧ p2 ≠ g
section
variable {X W W' : World} {p g p2 g2 : Nat} {xs zs ys : List Nat} {tp : Option Addr} {O : Fns}
theorem T2.at1 (h : T2 X p g xs p2 g2 zs tp O W) : AT X W p g 256 xs tp O := by
  obtain ⟨h1, ⟨h2, h3⟩, ⟨lo, hi, k1, k2, k3, k4, k5⟩, _⟩ := h
  exact ⟨h1, h2, lo, hi, k1, k2, k3, k4⟩
theorem T2.at2 (h : T2 X p g xs p2 g2 zs tp O W) : AT X W p2 g2 256 zs tp O := by
  obtain ⟨h1, ⟨h2, h3⟩, ⟨lo, hi, k1, k2, k3, k4, k5⟩, _⟩ := h
  exact ⟨h1, h3, lo, hi, k1, k2, k3, k5⟩
theorem T2.step (h : T2 X p g xs p2 g2 zs tp O W) (hb : Below W.heap.size W W') : T2 X p g xs p2 g2 zs tp O W' := by
  obtain ⟨h1, ⟨h2, h3⟩, ⟨lo, hi, k1, k2, k3, k4, k5⟩, h4⟩ := h
  exact ⟨h1.trans (hb.mono h1.size), ⟨h2.below hb (Nat.le_refl _), h3.below hb (Nat.le_refl _)⟩, ⟨lo, hi, k1.below (hb.mono k2), Nat.le_trans k2 hb.size, k3, k4, k5⟩, h4⟩
theorem T2.one (h : T2 X p g xs p2 g2 zs tp O W) (ha : Ar W' X.heap.size p g 256 ys) (hg : W.grownBy W' (some g)) : T2 X p g ys p2 g2 zs tp O W' := by
  have hl := h.at2.ar.lt
  have hlp := h.at2.ar.ltp
  have hgg := h.at1.ar.geg
  obtain ⟨h1, ⟨h2, h3⟩, ⟨lo, hi, k1, k2, k3, k4, k5⟩, e1, e2, e3⟩ := h
  refine ⟨h1.grown hg h1.size (fun k hk => by cases hk; exact hgg), ⟨ha, ?_⟩, ⟨lo, hi, k1.keep fun b hb1 hb2 => hg.block b (by omega) (fun e => by injection e with e; omega), Nat.le_trans k2 hg.size, k3, k4, k5⟩, e1, e2, e3⟩
  exact ⟨(World.cell?_of_block (w := W) (a := ⟨p2, 0, none⟩) (hg.block p2 hlp (fun e => by injection e with e; omega))).trans h3.cell, (hg.block g2 hl (fun e => by injection e with e; omega)).trans h3.heap, h3.hlen, h3.ge, h3.geg, h3.ne, h3.small⟩
theorem T2.swap (h : T2 X p g xs p2 g2 zs tp O W) : T2 X p2 g2 zs p g xs tp O W := by
  obtain ⟨h1, ⟨h2, h3⟩, ⟨lo, hi, k1, k2, k3, k4, k5⟩, e1, e2, e3⟩ := h
  exact ⟨h1, ⟨h3, h2⟩, ⟨lo, hi, k1, k2, k3, k5, k4⟩, fun e => e1 e.symm, e3, e2⟩
theorem T2.made (h : AT X W p g 256 xs tp O) (ha : Ar W' W.heap.size p2 g2 256 zs) (hb : Below W.heap.size W W') : T2 X p g xs p2 g2 zs tp O W' := by
  have h1 := h.step hb
  have hl := h.ar.lt
  have hlp := h.ar.ltp
  have hge := ha.ge
  have hgg := ha.geg
  obtain ⟨lo, hi, k1, k2, k3, k4⟩ := h.tb
  have hs := h.bel.size
  exact ⟨h1.bel, ⟨h1.ar, ha.more hs⟩, ⟨lo, hi, k1.below (hb.mono k2), Nat.le_trans k2 hb.size, k3, k4, Or.inr (by omega)⟩, by omega, by omega, by omega⟩
end

set_option maxRecDepth 100000 in
set_option maxHeartbeats 8000000 in
theorem moveTwice_any (A : Option Addr) (n c : Nat) (us : List Nat) (A2 : Option Addr) (n2 c2 : Nat) (ys : List FnV) (s : StV) (lo size lo2 size2 : Int) (w : World) (hs : Sl w w.heap.size A n (us.map wv)) (hu : Wd us) (hm : n ≤ maxLen) (hr : FnRow w 0 w.heap.size A2 n2 ys) (hy : ∀ y ∈ ys, y.n ≤ 17592186044416) (hm2 : n2 ≤ maxLen) (h0 : in64 s.lo) (h1 : in64 s.size) (h2 : in64 s.sp) (h3 : in64 lo) (h4 : in64 size) (h5 : in64 lo2) (h6 : in64 size2) (ht : TabDB w) :
    Calls Tryd.prog 5 #[.slice A n c, .slice A2 n2 c2, .agg #[.int .i64 s.lo, .int .i64 s.size, .int .i64 s.sp], .int .i64 lo, .int .i64 size, .int .i64 lo2, .int .i64 size2] w fun e w' => e = .returned (.bool true) ∧ Below w.heap.size w w' := by
  unfold maxLen at hm hm2
  obtain ⟨X, hX⟩ : ∃ X, X = w.alloc (.cells #[.int .i64 s.lo, .int .i64 s.size, .int .i64 s.sp] 25) := ⟨_, rfl⟩
  have hbX : Below w.heap.size w X := by rw [hX]; exact belF_al (Below.refl _ _) _
  have hzX : X.heap.size = w.heap.size + 1 := by rw [hX]; simp
  have HBX := hidb hbX
  have HC : Hid (∀ W, Below X.heap.size X W → W.cell? ⟨w.heap.size, 0, none⟩ = some (.int .i64 s.lo) ∧ W.cell? ⟨w.heap.size, 1, none⟩ = some (.int .i64 s.size) ∧ W.cell? ⟨w.heap.size, 2, none⟩ = some (.int .i64 s.sp)) := hidb (fun W hb => by refine ⟨?_, ?_, ?_⟩ <;> (rw [hb.cell (by show w.heap.size < _; omega), hX]; simp))
  have hrX : FnRow X 0 X.heap.size A2 n2 ys := (hr.below hbX).more (Nat.le_refl _) hbX.size
  have HRX := hidb hrX
  have CG : Hid (∀ W b, fGreat (vals ys) = b → Below X.heap.size X W → Calls Tryd.prog 7 #[.slice A2 n2 c2] W fun e w' => e = .returned (.bool b) ∧ W = w') := hidb (fun W b hb hbw => by rw [← hb]; exact ref_fgreat A2 n2 c2 ys 0 W.heap.size W ((HRX.out.below hbw).more (Nat.le_refl _) hbw.size) (by omega))
  have HT := hidb (TabDB.below ht hbX)
  have KA := fun W (s : Hid (Below X.heap.size X W)) => (awake17 W).mono fun e w' h => (⟨h.1, hidb (belF_tr s.out h.2)⟩ : e = _ ∧ Hid (Below X.heap.size X w'))
  have HXX := hidb hX
  cases hT : fTab (vals ys) with
  | false =>
    have kn := t_new_no (c2 := c2) hrX hy (by omega) hT
    by_cases hbig : 256 < n
    · have hb : (256 : Int) < (n : Int) := by omega
      clear hs hr hrX hX hbX hzX hbig ht hT hy
      --@1
      go_enter Tryd.func5, Tryd.ntmps5
      go_wp2_with (first
        | (go_at_call 6; rw [← HXX.out]; (with_reducible refine kn.mono ?_); rintro e w1 ⟨rfl, hs1⟩)
        | (go_at_call 8; (with_reducible refine (KA _ hs1).mono ?_); rintro e w2 ⟨rfl, hs2⟩))
      go_ret
      exact ⟨rfl, belF_tr HBX.out hs2.out⟩
    · have hnb : ¬ ((256 : Int) < (n : Int)) := by omega
      obtain ⟨b, hbg⟩ : ∃ b, fGreat (vals ys) = b := ⟨_, rfl⟩
      have cg := fun W h => CG.out W b hbg h
      clear hs hr hrX hX hbX hzX hbig ht hT hy hbg
      cases b with
      | true =>
        --@2
        go_enter Tryd.func5, Tryd.ntmps5
        go_wp2_with (first
          | (go_at_call 6; rw [← HXX.out]; (with_reducible refine kn.mono ?_); rintro e w1 ⟨rfl, hs1⟩)
          | (go_at_call 7; (with_reducible refine (cg _ hs1.out).mono ?_); rintro e w' ⟨rfl, rfl⟩)
          | (go_at_call 8; (with_reducible refine (KA _ hs1).mono ?_); rintro e w2 ⟨rfl, hs2⟩))
        go_ret
        exact ⟨rfl, belF_tr HBX.out hs2.out⟩
      | false =>
        --@3
        go_enter Tryd.func5, Tryd.ntmps5
        go_wp2_with (first
          | (go_at_call 6; rw [← HXX.out]; (with_reducible refine kn.mono ?_); rintro e w1 ⟨rfl, hs1⟩)
          | (go_at_call 7; (with_reducible refine (cg _ hs1.out).mono ?_); rintro e w' ⟨rfl, rfl⟩)
          | (go_at_call 8; (with_reducible refine (KA _ hs1).mono ?_); rintro e w2 ⟨rfl, hs2⟩))
        go_ret
        exact ⟨rfl, belF_tr HBX.out hs2.out⟩
  | true =>
    have kn := t_new_yes (c2 := c2) hrX hy HT.out hT
    have hsz := fTab_sizes hT
    have HSZ := hidb hsz
    have HSZ2 := hidb (fOwns_sizes hsz)
    by_cases hbig : 256 < n
    · have hb : (256 : Int) < (n : Int) := by omega
      clear hs hr hrX hX hbX hzX hbig ht hT hy
      --@4
      go_enter Tryd.func5, Tryd.ntmps5
      go_wp2_with (first
        | (go_at_call 6; rw [← HXX.out]; (with_reducible refine kn.mono ?_); rintro e w1 ⟨tb, rfl, hs1⟩; have hw1 := hidb hs1.out.1)
        | (go_at_call 8; (with_reducible refine (KA _ hw1).mono ?_); rintro e w2 ⟨rfl, hs2⟩))
      go_ret
      exact ⟨rfl, belF_tr HBX.out hs2.out⟩
    have hnb : ¬ ((256 : Int) < (n : Int)) := by omega
    have hn : n ≤ 256 := by omega
    cases hG : fGreat (vals ys) with
    | true =>
      have cg := fun W h => CG.out W true hG h
      clear hs hr hrX hX hbX hzX hbig ht hT hy hG
      --@5
      go_enter Tryd.func5, Tryd.ntmps5
      go_wp2_with (first
        | (go_at_call 6; rw [← HXX.out]; (with_reducible refine kn.mono ?_); rintro e w1 ⟨tb, rfl, hs1⟩; have hw1 := hidb hs1.out.1)
        | (go_at_call 7; (with_reducible refine (cg _ hw1.out).mono ?_); rintro e w' ⟨rfl, rfl⟩)
        | (go_at_call 8; (with_reducible refine (KA _ hw1).mono ?_); rintro e w2 ⟨rfl, hs2⟩))
      go_ret
      exact ⟨rfl, belF_tr HBX.out hs2.out⟩
    | false =>
      have cg := fun W h => CG.out W false hG h
      have h120 : n2 ≤ 100 := by unfold fTab at hT; rw [Bool.and_eq_true, decide_eq_true_iff, vals_length, hr.len] at hT; omega
      have HU : Hid (Wd (frLaid us)) := hidb (frLaid_wd hu)
      have hul : us.length = n := by have := hs.1; simpa using this
      have hfl : (frLaid us).length = 256 := frLaid_length us (by omega)
      have HS := hidb ((hs.below hbX).more hbX.size)
      generalize hxs : frLaid us = xs at *
      have HXL := hidb hfl
      have KL : Hid (∀ W tp O, Hid (S13 X W tp O) → Calls Tryd.prog 9 #[.slice A n c] W fun e w' => ∃ p g, e = .returned (.pointer (some ⟨p, 0, none⟩)) ∧ Hid (AT X w' p g 256 xs tp O)) := hidb (fun W tp O st => by
        refine (t_laid17 (W := W) (c := c) ((HS.out.below st.out.1).more st.out.1.size) hn).mono ?_
        rintro e w' ⟨p, g, rfl, h2, h3⟩
        rw [hxs] at h2
        exact ⟨p, g, rfl, hidb (AT.made2 st.out h2 h3)⟩)
      have KL2 : Hid (∀ W p g tp O, Hid (AT X W p g 256 xs tp O) → Calls Tryd.prog 9 #[.slice A n c] W fun e w' => ∃ p2 g2, e = .returned (.pointer (some ⟨p2, 0, none⟩)) ∧ Hid (T2 X p g xs p2 g2 xs tp O w')) := hidb (fun W p g tp O st => by
        refine (t_laid17 (W := W) (c := c) ((HS.out.below st.out.bel).more st.out.bel.size) hn).mono ?_
        rintro e w' ⟨p2, g2, rfl, h2, h3⟩
        rw [hxs] at h2
        exact ⟨p2, g2, rfl, hidb (T2.made st.out h2 h3)⟩)
      generalize hO : fOwns (vals ys) = O at *
      obtain ⟨r1, hr1⟩ : ∃ r, mvTo xs O s lo size = r := ⟨_, rfl⟩
      obtain ⟨ys1, s1, no⟩ := r1
      have KT1 : Hid (∀ W p g p2 g2 tp, Hid (T2 X p g xs p2 g2 xs tp O W) → Calls Tryd.prog 13 #[.pointer (some ⟨p, 0, none⟩), .pointer tp, stC s, .int .i64 lo, .int .i64 size] W fun e w' => e = .returned (.tuple #[stC s1, .int .i64 no]) ∧ Hid (T2 X p g ys1 p2 g2 xs tp O w') ∧ Hid (W.grownBy w' (some g))) := hidb (fun W p g p2 g2 tp st => (code_mvto HT.out st.out.at1 HSZ2.out HU.out s ⟨h0, h1, h2⟩ lo size h3 h4 ys1 s1 no hr1).mono fun e w' h => ⟨h.1, hidb (st.out.one h.2.1.ar h.2.2), hidb h.2.2⟩)
      have HAL : Hid (∀ W p g xs' p2 g2 zs' tp v0 v1 v2, T2 X p g xs' p2 g2 zs' tp O W → T2 X p g xs' p2 g2 zs' tp O (W.alloc (.cells #[v0, v1, v2] 25))) := hidb (fun W p g xs' p2 g2 zs' tp v0 v1 v2 st => st.step (belF_al (Below.refl _ _) _))
      have HBL : Hid (∀ W p g xs' p2 g2 zs' tp, T2 X p g xs' p2 g2 zs' tp O W → Below X.heap.size X W) := hidb (fun W p g xs' p2 g2 zs' tp st => st.1)
      by_cases hno : no = 0
      · subst hno
        have hok := mvTo_ok (xs := xs) (l := O) (s := s) (lo := lo) (size := size) (by omega) (by rw [hr1])
        obtain ⟨k1, k2, k3, k4⟩ := hok.chn HSZ2.out
        obtain ⟨ys', hd1, hd2⟩ := hok.does HSZ2.out
        rw [hr1] at hd1
        obtain ⟨q1, q2⟩ := Prod.mk.inj hd1
        obtain ⟨q2, -⟩ := Prod.mk.inj q2
        subst q1
        generalize hδ : lo + size - s.lo - s.size = δ at *
        have hywd : Wd ys1 := by
          have h := mvTo_code HSZ2.out hok
          rw [hr1] at h
          obtain ⟨h, -⟩ := Prod.mk.inj h
          rw [h]
          exact hok.wd HSZ2.out HU.out
        have hi1 : in64 s1.lo ∧ in64 s1.size ∧ in64 s1.sp := by rw [q2]; exact ⟨h3, h4, by show in64 (s.sp + δ); unfold in64; omega⟩
        obtain ⟨r2, hr2⟩ : ∃ r, mvTo ys1 O s1 lo2 size2 = r := ⟨_, rfl⟩
        obtain ⟨us2, s2, no2⟩ := r2
        obtain ⟨r3, hr3⟩ : ∃ r, mvTo xs O s lo2 size2 = r := ⟨_, rfl⟩
        obtain ⟨vs, s3, no3⟩ := r3
        have KT2 : Hid (∀ W p g p2 g2 tp, Hid (T2 X p g ys1 p2 g2 xs tp O W) → Calls Tryd.prog 13 #[.pointer (some ⟨p, 0, none⟩), .pointer tp, stC s1, .int .i64 lo2, .int .i64 size2] W fun e w' => e = .returned (.tuple #[stC s2, .int .i64 no2]) ∧ Hid (T2 X p g us2 p2 g2 xs tp O w') ∧ Hid (W.grownBy w' (some g))) := hidb (fun W p g p2 g2 tp st => (code_mvto HT.out st.out.at1 HSZ2.out hywd s1 hi1 lo2 size2 h5 h6 us2 s2 no2 hr2).mono fun e w' h => ⟨h.1, hidb (st.out.one h.2.1.ar h.2.2), hidb h.2.2⟩)
        have KT3 : Hid (∀ W p g p2 g2 tp, Hid (T2 X p g us2 p2 g2 xs tp O W) → Calls Tryd.prog 13 #[.pointer (some ⟨p2, 0, none⟩), .pointer tp, stC s, .int .i64 lo2, .int .i64 size2] W fun e w' => e = .returned (.tuple #[stC s3, .int .i64 no3]) ∧ Hid (T2 X p g us2 p2 g2 vs tp O w') ∧ Hid (W.grownBy w' (some g2))) := hidb (fun W p g p2 g2 tp st => (code_mvto HT.out st.out.at2 HSZ2.out HU.out s ⟨h0, h1, h2⟩ lo2 size2 h5 h6 vs s3 no3 hr3).mono fun e w' h => ⟨h.1, hidb (st.out.swap.one h.2.1.ar h.2.2).swap, hidb h.2.2⟩)
        have HTO : Hid (∀ (W1 W : World) (x0 x1 x2 : Int) (g : Nat), g < W1.heap.size → (W1.alloc (.cells #[.int .i64 x0, .int .i64 x1, .int .i64 x2] 25)).grownBy W (some g) → W.cell? ⟨W1.heap.size, 0, none⟩ = some (.int .i64 x0) ∧ W.cell? ⟨W1.heap.size, 1, none⟩ = some (.int .i64 x1) ∧ W.cell? ⟨W1.heap.size, 2, none⟩ = some (.int .i64 x2)) := hidb (fun W1 W x0 x1 x2 g hgl hg => by
          have hc : ∀ k, W.cell? ⟨W1.heap.size, k, none⟩ = (W1.alloc (.cells #[.int .i64 x0, .int .i64 x1, .int .i64 x2] 25)).cell? ⟨W1.heap.size, k, none⟩ := fun k => World.cell?_of_block (hg.block W1.heap.size (by simp) (fun e => by injection e with e; omega))
          refine ⟨?_, ?_, ?_⟩ <;> (rw [hc]; simp))
        have HGL : Hid (∀ W p g xs' p2 g2 zs' tp, T2 X p g xs' p2 g2 zs' tp O W → g < W.heap.size ∧ g2 < W.heap.size) := hidb (fun W p g xs' p2 g2 zs' tp st => ⟨st.at1.ar.lt, st.at2.ar.lt⟩)
        have HSC : Hid (∀ W p g xs' p2 g2 zs' tp, T2 X p g xs' p2 g2 zs' tp O W → W.cell? ⟨w.heap.size, 0, none⟩ = some (.int .i64 s.lo) ∧ W.cell? ⟨w.heap.size, 1, none⟩ = some (.int .i64 s.size) ∧ W.cell? ⟨w.heap.size, 2, none⟩ = some (.int .i64 s.sp)) := hidb (fun W p g xs' p2 g2 zs' tp st => HC.out W st.1)
        by_cases hno2 : no2 = 0 ∧ no3 = 0
        · obtain ⟨rfl, rfl⟩ := hno2
          obtain ⟨us', vs', e1, e2, e3, e4, e5, e6⟩ := hok.twice (δ' := δ) (L' := []) HSZ2.out hd2 (at' := lo2) (most := size2) (by rw [← q2, hr2]) (by rw [hr3])
          rw [← q2, hr2] at e1
          rw [hr3] at e2
          obtain ⟨m1, m2⟩ := Prod.mk.inj e1
          obtain ⟨m2, -⟩ := Prod.mk.inj m2
          obtain ⟨m3, m4⟩ := Prod.mk.inj e2
          obtain ⟨m4, -⟩ := Prod.mk.inj m4
          subst m1 m3
          have hok3 := mvTo_ok (xs := xs) (l := O) (s := s) (lo := lo2) (size := size2) (by omega) (by rw [hr3])
          obtain ⟨_, _, _, j4⟩ := hok3.chn HSZ2.out
          obtain ⟨a, ha⟩ : ∃ a : Nat, s.sp + (lo2 + size2 - s.lo - s.size) = (a : Int) := ⟨(s.sp + (lo2 + size2 - s.lo - s.size)).toNat, by omega⟩
          rw [ha] at m2 m4 e5 e6
          obtain ⟨m, hmm⟩ : ∃ m : Nat, lo2 + size2 - (a : Int) = (m : Int) := ⟨(lo2 + size2 - (a : Int)).toNat, by omega⟩
          have hmay := hok3.goal
          unfold stMay stkSz at hmay
          simp at hmay
          obtain ⟨wx, hwx⟩ : ∃ wx, aRow us2 a m = wx := ⟨_, rfl⟩
          have hrow : aRow vs a m = wx := by
            rw [← hwx]
            apply List.ext_getElem?
            intro i
            unfold aRow
            by_cases c : i < m
            · rw [List.getElem?_take_of_lt c, List.getElem?_take_of_lt c, List.getElem?_drop, List.getElem?_drop]
              have e1 := e6 (a + i) (by omega) (by omega)
              rw [List.getD_eq_getElem?_getD, List.getD_eq_getElem?_getD, List.getElem?_eq_getElem (by omega), List.getElem?_eq_getElem (by omega)] at e1
              rw [List.getElem?_eq_getElem (by omega), List.getElem?_eq_getElem (by omega)]
              exact (congrArg some e1).symm
            · rw [List.getElem?_eq_none (by rw [List.length_take]; omega), List.getElem?_eq_none (by rw [List.length_take]; omega)]
          subst m2 m4
          have KU : Hid (∀ W, Calls Tryd.prog 16 #[stC ⟨lo2, size2, (a : Int)⟩] W fun e w' => e = .returned (.int .i64 (m : Int)) ∧ Below W.heap.size W w') := hidb (fun W => by
            have := code_wused ⟨lo2, size2, (a : Int)⟩ (by unfold StNear; simp only; omega) W
            simp only at this
            rw [show max (lo2 + size2 - (a : Int)) 0 = (m : Int) by omega] at this
            exact this)
          have KR1 : Hid (∀ W p g p2 g2 tp, T2 X p g us2 p2 g2 vs tp O W → Calls Tryd.prog 12 #[.pointer (some ⟨p, 0, none⟩), .int .i64 (a : Int), .int .i64 (m : Int)] W fun e w' => ∃ D k, e = .returned (.tuple #[.slice D m k, .int .i64 0]) ∧ Hid (Sl w' w'.heap.size D m (wx.map wv)) ∧ Hid (T2 X p g us2 p2 g2 vs tp O w') ∧ Below W.heap.size W w') := hidb (fun W p g p2 g2 tp st => by
            have := t_row st.at1 a m (by omega)
            rw [hwx] at this
            refine this.mono ?_
            rintro e w' ⟨D, k, rfl, h2, h3⟩
            exact ⟨D, k, rfl, hidb h2.row, hidb (st.step h3), h3⟩)
          have KR2 : Hid (∀ W p g p2 g2 tp, T2 X p g us2 p2 g2 vs tp O W → Calls Tryd.prog 12 #[.pointer (some ⟨p2, 0, none⟩), .int .i64 (a : Int), .int .i64 (m : Int)] W fun e w' => ∃ D k, e = .returned (.tuple #[.slice D m k, .int .i64 0]) ∧ Hid (Sl w' w'.heap.size D m (wx.map wv)) ∧ Hid (T2 X p g us2 p2 g2 vs tp O w') ∧ Below W.heap.size W w') := hidb (fun W p g p2 g2 tp st => by
            have := t_row st.at2 a m (by omega)
            rw [hrow] at this
            refine this.mono ?_
            rintro e w' ⟨D, k, rfl, h2, h3⟩
            exact ⟨D, k, rfl, hidb h2.row, hidb (st.step h3), h3⟩)
          have KS : Hid (∀ W D k E k2, Hid (Below X.heap.size X W) → Hid (Sl W W.heap.size D m (wx.map wv)) → Hid (Sl W W.heap.size E m (wx.map wv)) → Calls Tryd.prog 15 #[.slice D m k, .slice E m k2] W fun e w' => e = .returned (.bool true) ∧ Hid (Below X.heap.size X w')) := hidb (fun W D k E k2 hb hD hE => by
            refine (ref_asame D E m k m k2 wx wx W W.heap.size W.heap.size hD.out hE.out (by omega) (by omega)).mono ?_
            rintro e w' ⟨rfl, q, rfl⟩
            exact ⟨by simp, hidb (belowN hb.out q)⟩)
          have HSB : Hid (∀ W W' p g xs' p2 g2 zs' tp, T2 X p g xs' p2 g2 zs' tp O W → Below W.heap.size W W' → T2 X p g xs' p2 g2 zs' tp O W') := hidb (fun W W' p g xs' p2 g2 zs' tp st hb => st.step hb)
          have HSE : Hid (∀ (W1 W2 : World) E, Sl W1 W1.heap.size E m (wx.map wv) → Below W1.heap.size W1 W2 → Sl W2 W2.heap.size E m (wx.map wv)) := hidb (fun W1 W2 E h hb => (h.below hb).more hb.size)
          obtain ⟨sl, ss, sp⟩ := s
          obtain ⟨tl, ts, tp1⟩ := s1
          unfold stC at KT1 KT2 KT3 KU
          simp only at *
          have heq := fun W => eql_stack lo2 size2 (a : Int) W
          clear hs hr hrX hX hbX hzX hbig ht hT hy hG hu hul hfl hxs h0 h1 h2 h3 h4 h5 h6 hsz hm2 hm hr1 hO hok k1 k2 k3 k4 hd1 hd2 q2 hywd hi1 hr2 hr3 e1 e2 e3 e4 e5 e6 hok3 j4 hmay hwx hrow hmm ha hδ
          --@8
          go_enter Tryd.func5, Tryd.ntmps5
          go_wp2_with (first
            | (go_at_call 6; rw [← HXX.out]; (with_reducible refine kn.mono ?_); rintro e w1 ⟨tb, rfl, hs1⟩; have hw1 := hidb hs1.out.1)
            | (go_at_call 7; (with_reducible refine (cg _ hw1.out).mono ?_); rintro e w' ⟨rfl, rfl⟩)
            | (go_at_call 9; (with_reducible refine (KL.out _ _ _ hs1).mono ?_); rintro e w2 ⟨p, g, rfl, hs2⟩; clear hs1)
            | (go_at_call 9; (with_reducible refine (KL2.out _ _ _ _ _ hs2).mono ?_); rintro e w3 ⟨p2, g2, rfl, hs3⟩; obtain ⟨c0, c1, c2⟩ := HC.out w3 (HBL.out _ _ _ _ _ _ _ _ hs3.out))
            | (go_at_call 13; (with_reducible refine (KT1.out _ _ _ _ _ _ hs3).mono ?_); rintro e w6 ⟨rfl, hs6, hg6⟩; have hs7 := hidb (HAL.out _ _ _ _ _ _ _ _ (.int .i64 tl) (.int .i64 ts) (.int .i64 tp1) hs6.out); clear hs3)
            | (go_at_call 13; (with_reducible refine (KT2.out _ _ _ _ _ _ hs7).mono ?_); rintro e w8 ⟨rfl, hs8, hg8⟩; have hs9 := hidb (HAL.out _ _ _ _ _ _ _ _ (.int .i64 lo2) (.int .i64 size2) (.int .i64 (a : Int)) hs8.out); have HG8 := hidb (HGL.out _ _ _ _ _ _ _ _ hs8.out); obtain ⟨d0, d1, d2⟩ := HSC.out _ _ _ _ _ _ _ _ hs9.out; clear hs7)
            | (go_at_call 13; (with_reducible refine (KT3.out _ _ _ _ _ _ hs9).mono ?_); rintro e w10 ⟨rfl, hs10, hg10⟩; have hs11 := hidb (HAL.out _ _ _ _ _ _ _ _ (.int .i64 lo2) (.int .i64 size2) (.int .i64 (a : Int)) hs10.out); have HG10 := hidb (HGL.out _ _ _ _ _ _ _ _ hs10.out)))
          clear c0 c1 c2 d0 d1 d2 kn cg
          obtain ⟨wb, hwb⟩ : ∃ wb, wb = w10.alloc (.cells #[.int .i64 lo2, .int .i64 size2, .int .i64 (a : Int)] 25) := ⟨_, rfl⟩
          rw [← hwb] at hs11
          have HWB := hidb hwb
          have HCB : Hid (∀ W, Below wb.heap.size wb W → (W.cell? ⟨w8.heap.size, 0, none⟩ = some (.int .i64 lo2) ∧ W.cell? ⟨w8.heap.size, 1, none⟩ = some (.int .i64 size2) ∧ W.cell? ⟨w8.heap.size, 2, none⟩ = some (.int .i64 (a : Int))) ∧ W.cell? ⟨w10.heap.size, 0, none⟩ = some (.int .i64 lo2) ∧ W.cell? ⟨w10.heap.size, 1, none⟩ = some (.int .i64 size2) ∧ W.cell? ⟨w10.heap.size, 2, none⟩ = some (.int .i64 (a : Int))) := hidb (fun W hb => ⟨HTO.out w8 W lo2 size2 a g2 HG8.out.2 (grown_trans hg10.out (grown_trans (World.grownBy_alloc _ _ _) (by rw [← HWB.out]; exact below_to_grown hb _))), HTO.out w10 W lo2 size2 a g2 HG10.out.2 (by rw [← HWB.out]; exact below_to_grown hb _)⟩)
          have KRB : Hid (∀ W, Below wb.heap.size wb W → Calls Tryd.prog 12 #[.pointer (some ⟨p, 0, none⟩), .int .i64 (a : Int), .int .i64 (m : Int)] W fun e w' => ∃ D k, e = .returned (.tuple #[.slice D m k, .int .i64 0]) ∧ Hid (Sl w' w'.heap.size D m (wx.map wv)) ∧ Hid (T2 X p g us2 p2 g2 vs (some ⟨tb, 0, none⟩) O w') ∧ Below W.heap.size W w') := hidb (fun W hb => KR1.out W p g p2 g2 _ (HSB.out _ _ _ _ _ _ _ _ _ hs11.out hb))
          have hcb := HCB.out wb (Below.refl _ _)
          obtain ⟨⟨c0, c1, c2⟩, d0, d1, d2⟩ := hcb
          rw [← hwb]
          clear hwb
          (first | go_region_held3 (fun W => (W.cell? ⟨w8.heap.size, 0, none⟩ = some (.int .i64 lo2) ∧ W.cell? ⟨w8.heap.size, 1, none⟩ = some (.int .i64 size2) ∧ W.cell? ⟨w8.heap.size, 2, none⟩ = some (.int .i64 (a : Int))) ∧ W.cell? ⟨w10.heap.size, 0, none⟩ = some (.int .i64 lo2) ∧ W.cell? ⟨w10.heap.size, 1, none⟩ = some (.int .i64 size2) ∧ W.cell? ⟨w10.heap.size, 2, none⟩ = some (.int .i64 (a : Int)))
            (first | ((with_reducible refine HCB.out _ ?_); (repeat (first | with_reducible exact Below.refl _ _ | with_reducible exact Hid.out (by assumption) | with_reducible apply belF_al | with_reducible apply belF_dr)); done) | (go_keep; done))
            (first
              | (go_at_call 16; (with_reducible refine (KU.out _).mono ?_); rintro e w11 ⟨rfl, hb11⟩; have HB11 : Hid (Below wb.heap.size wb w11) := hidb (belF_tr (by (repeat (first | with_reducible exact Below.refl _ _ | with_reducible exact Hid.out (by assumption) | with_reducible apply belF_al | with_reducible apply belF_dr))) hb11); have hc11 := HCB.out w11 HB11.out; clear hb11)
              | (go_at_call 12; (with_reducible refine (KRB.out _ HB11.out).mono ?_); rintro e w12 ⟨D, k12, rfl, hD12, hs12, hb12⟩; have HB12 : Hid (Below wb.heap.size wb w12) := hidb (belF_tr HB11.out hb12); have hc12 := HCB.out w12 HB12.out; clear hb12)) | fail)
          obtain ⟨⟨c3, c4, c5⟩, d3, d4, d5⟩ := hc12
          have HCD : Hid (∀ W, Below w12.heap.size w12 W → (W.cell? ⟨w8.heap.size, 0, none⟩ = some (.int .i64 lo2) ∧ W.cell? ⟨w8.heap.size, 1, none⟩ = some (.int .i64 size2) ∧ W.cell? ⟨w8.heap.size, 2, none⟩ = some (.int .i64 (a : Int))) ∧ W.cell? ⟨w10.heap.size, 0, none⟩ = some (.int .i64 lo2) ∧ W.cell? ⟨w10.heap.size, 1, none⟩ = some (.int .i64 size2) ∧ W.cell? ⟨w10.heap.size, 2, none⟩ = some (.int .i64 (a : Int))) := hidb (fun W hb => HCB.out W (belF_tr HB12.out hb))
          have KRD : Hid (∀ W, Below w12.heap.size w12 W → Calls Tryd.prog 12 #[.pointer (some ⟨p2, 0, none⟩), .int .i64 (a : Int), .int .i64 (m : Int)] W fun e w' => ∃ D k, e = .returned (.tuple #[.slice D m k, .int .i64 0]) ∧ Hid (Sl w' w'.heap.size D m (wx.map wv)) ∧ Hid (T2 X p g us2 p2 g2 vs (some ⟨tb, 0, none⟩) O w') ∧ Below W.heap.size W w') := hidb (fun W hb => KR2.out W p g p2 g2 _ (HSB.out _ _ _ _ _ _ _ _ _ hs12.out hb))
          clear HB11 hc11
          go_wp2
          (first | go_region_held3 (fun W => (W.cell? ⟨w8.heap.size, 0, none⟩ = some (.int .i64 lo2) ∧ W.cell? ⟨w8.heap.size, 1, none⟩ = some (.int .i64 size2) ∧ W.cell? ⟨w8.heap.size, 2, none⟩ = some (.int .i64 (a : Int))) ∧ W.cell? ⟨w10.heap.size, 0, none⟩ = some (.int .i64 lo2) ∧ W.cell? ⟨w10.heap.size, 1, none⟩ = some (.int .i64 size2) ∧ W.cell? ⟨w10.heap.size, 2, none⟩ = some (.int .i64 (a : Int)))
            (first | ((with_reducible refine HCD.out _ ?_); (repeat (first | with_reducible exact Below.refl _ _ | with_reducible exact Hid.out (by assumption) | with_reducible apply belF_al | with_reducible apply belF_dr)); done) | (go_keep; done))
            (first
              | (go_at_call 16; (with_reducible refine (KU.out _).mono ?_); rintro e w13 ⟨rfl, hb13⟩; have HB13 : Hid (Below w12.heap.size w12 w13) := hidb (belF_tr (by (repeat (first | with_reducible exact Below.refl _ _ | with_reducible exact Hid.out (by assumption) | with_reducible apply belF_al | with_reducible apply belF_dr))) hb13); have hc13 := HCD.out w13 HB13.out; clear hb13)
              | (go_at_call 12; (with_reducible refine (KRD.out _ HB13.out).mono ?_); rintro e w14 ⟨E, k14, rfl, hE14, hs14, hb14⟩; have HB14 : Hid (Below w12.heap.size w12 w14) := hidb (belF_tr HB13.out hb14); have hc14 := HCD.out w14 HB14.out; clear hb14)) | fail)
          obtain ⟨⟨c6, c7, c8⟩, d6, d7, d8⟩ := hc14
          have hD14 := hidb (HSE.out _ _ _ hD12.out HB14.out)
          have KS14 := KS.out w14 D k12 E k14 (hidb (HBL.out _ _ _ _ _ _ _ _ hs14.out)) hD14 hE14
          go_wp2_with (first
            | (go_at_call 15; (with_reducible refine KS14.mono ?_); rintro e w15 ⟨rfl, hs15⟩)
            | (go_at_call 8; (with_reducible refine (KA _ hs15).mono ?_); rintro e w16 ⟨rfl, hs16⟩))
          go_ret
          exact ⟨rfl, belF_tr HBX.out hs16.out⟩
        · obtain ⟨sl, ss, sp⟩ := s
          obtain ⟨tl, ts, tp1⟩ := s1
          obtain ⟨tl2, ts2, tp2⟩ := s2
          obtain ⟨tl3, ts3, tp3⟩ := s3
          unfold stC at KT1 KT2 KT3
          simp only at *
          by_cases hn2 : no2 = 0
          · have nb2 : (no2 != 0) = false := by simp [hn2]
            have nb3 : (no3 != 0) = true := by simp; exact fun e => hno2 ⟨hn2, e⟩
            clear hs hr hrX hX hbX hzX hbig ht hT hy hG hu hul hfl hxs h0 h1 h2 h3 h4 h5 h6 hsz hm2 hm hr1 hO hok k1 k2 k3 k4 hd1 hd2 q2 hywd hi1 hr2 hr3 hδ hno2 hn2
            --@9
            go_enter Tryd.func5, Tryd.ntmps5
            go_wp2_with (first
              | (go_at_call 6; rw [← HXX.out]; (with_reducible refine kn.mono ?_); rintro e w1 ⟨tb, rfl, hs1⟩; have hw1 := hidb hs1.out.1)
              | (go_at_call 7; (with_reducible refine (cg _ hw1.out).mono ?_); rintro e w' ⟨rfl, rfl⟩)
              | (go_at_call 9; (with_reducible refine (KL.out _ _ _ hs1).mono ?_); rintro e w2 ⟨p, g, rfl, hs2⟩; clear hs1)
              | (go_at_call 9; (with_reducible refine (KL2.out _ _ _ _ _ hs2).mono ?_); rintro e w3 ⟨p2, g2, rfl, hs3⟩; obtain ⟨c0, c1, c2⟩ := HC.out w3 (HBL.out _ _ _ _ _ _ _ _ hs3.out))
              | (go_at_call 13; (with_reducible refine (KT1.out _ _ _ _ _ _ hs3).mono ?_); rintro e w6 ⟨rfl, hs6, hg6⟩; have hs7 := hidb (HAL.out _ _ _ _ _ _ _ _ (.int .i64 tl) (.int .i64 ts) (.int .i64 tp1) hs6.out); clear hs3)
              | (go_at_call 13; (with_reducible refine (KT2.out _ _ _ _ _ _ hs7).mono ?_); rintro e w8 ⟨rfl, hs8, hg8⟩; have hs9 := hidb (HAL.out _ _ _ _ _ _ _ _ (.int .i64 tl2) (.int .i64 ts2) (.int .i64 tp2) hs8.out); obtain ⟨d0, d1, d2⟩ := HSC.out _ _ _ _ _ _ _ _ hs9.out; clear hs7)
              | (go_at_call 13; (with_reducible refine (KT3.out _ _ _ _ _ _ hs9).mono ?_); rintro e w10 ⟨rfl, hs10, hg10⟩; have hw10 := hidb (HBL.out _ _ _ _ _ _ _ _ (HAL.out _ _ _ _ _ _ _ _ (.int .i64 tl3) (.int .i64 ts3) (.int .i64 tp3) hs10.out)))
              | (go_at_call 8; (with_reducible refine (KA _ hw10).mono ?_); rintro e w16 ⟨rfl, hs16⟩))
            go_ret
            exact ⟨rfl, belF_tr HBX.out hs16.out⟩
          · have nb2 : (no2 != 0) = true := by simpa using hn2
            clear hs hr hrX hX hbX hzX hbig ht hT hy hG hu hul hfl hxs h0 h1 h2 h3 h4 h5 h6 hsz hm2 hm hr1 hO hok k1 k2 k3 k4 hd1 hd2 q2 hywd hi1 hr2 hr3 hδ hno2 hn2
            --@10
            go_enter Tryd.func5, Tryd.ntmps5
            go_wp2_with (first
              | (go_at_call 6; rw [← HXX.out]; (with_reducible refine kn.mono ?_); rintro e w1 ⟨tb, rfl, hs1⟩; have hw1 := hidb hs1.out.1)
              | (go_at_call 7; (with_reducible refine (cg _ hw1.out).mono ?_); rintro e w' ⟨rfl, rfl⟩)
              | (go_at_call 9; (with_reducible refine (KL.out _ _ _ hs1).mono ?_); rintro e w2 ⟨p, g, rfl, hs2⟩; clear hs1)
              | (go_at_call 9; (with_reducible refine (KL2.out _ _ _ _ _ hs2).mono ?_); rintro e w3 ⟨p2, g2, rfl, hs3⟩; obtain ⟨c0, c1, c2⟩ := HC.out w3 (HBL.out _ _ _ _ _ _ _ _ hs3.out))
              | (go_at_call 13; (with_reducible refine (KT1.out _ _ _ _ _ _ hs3).mono ?_); rintro e w6 ⟨rfl, hs6, hg6⟩; have hs7 := hidb (HAL.out _ _ _ _ _ _ _ _ (.int .i64 tl) (.int .i64 ts) (.int .i64 tp1) hs6.out); clear hs3)
              | (go_at_call 13; (with_reducible refine (KT2.out _ _ _ _ _ _ hs7).mono ?_); rintro e w8 ⟨rfl, hs8, hg8⟩; have hs9 := hidb (HAL.out _ _ _ _ _ _ _ _ (.int .i64 tl2) (.int .i64 ts2) (.int .i64 tp2) hs8.out); obtain ⟨d0, d1, d2⟩ := HSC.out _ _ _ _ _ _ _ _ hs9.out; clear hs7)
              | (go_at_call 13; (with_reducible refine (KT3.out _ _ _ _ _ _ hs9).mono ?_); rintro e w10 ⟨rfl, hs10, hg10⟩; have hw10 := hidb (HBL.out _ _ _ _ _ _ _ _ (HAL.out _ _ _ _ _ _ _ _ (.int .i64 tl3) (.int .i64 ts3) (.int .i64 tp3) hs10.out)))
              | (go_at_call 8; (with_reducible refine (KA _ hw10).mono ?_); rintro e w16 ⟨rfl, hs16⟩))
            go_ret
            exact ⟨rfl, belF_tr HBX.out hs16.out⟩
      · have hnb0 : (no != 0) = true := by simpa using hno
        obtain ⟨sl, ss, sp⟩ := s
        obtain ⟨tl, ts, tp1⟩ := s1
        unfold stC at KT1
        simp only at *
        clear hs hr hrX hX hbX hzX hbig ht hT hy hG hu hul hfl hxs h0 h1 h2 h3 h4 h5 h6 hsz hm2 hm hr1 hno hO
        --@6
        go_enter Tryd.func5, Tryd.ntmps5
        go_wp2_with (first
          | (go_at_call 6; rw [← HXX.out]; (with_reducible refine kn.mono ?_); rintro e w1 ⟨tb, rfl, hs1⟩; have hw1 := hidb hs1.out.1)
          | (go_at_call 7; (with_reducible refine (cg _ hw1.out).mono ?_); rintro e w' ⟨rfl, rfl⟩)
          | (go_at_call 9; (with_reducible refine (KL.out _ _ _ hs1).mono ?_); rintro e w2 ⟨p, g, rfl, hs2⟩; clear hs1)
          | (go_at_call 9; (with_reducible refine (KL2.out _ _ _ _ _ hs2).mono ?_); rintro e w3 ⟨p2, g2, rfl, hs3⟩; obtain ⟨c0, c1, c2⟩ := HC.out w3 (HBL.out _ _ _ _ _ _ _ _ hs3.out))
          | (go_at_call 13; (with_reducible refine (KT1.out _ _ _ _ _ _ hs3).mono ?_); rintro e w6 ⟨rfl, hs6, hg6⟩; have hw6 := hidb (HBL.out _ _ _ _ _ _ _ _ (HAL.out _ _ _ _ _ _ _ _ (.int .i64 tl) (.int .i64 ts) (.int .i64 tp1) hs6.out)))
          | (go_at_call 8; (with_reducible refine (KA _ hw6).mono ?_); rintro e w7 ⟨rfl, hs7⟩))
        go_ret
        exact ⟨rfl, belF_tr HBX.out hs7.out⟩
end Go.Proofs.YtlniakcoikhilaaDoor
