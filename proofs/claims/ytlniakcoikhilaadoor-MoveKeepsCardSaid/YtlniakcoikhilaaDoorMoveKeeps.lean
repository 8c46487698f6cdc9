/- Layer 17's statement MoveKeeps. -/
import Derived.Test.YtlniakcoikhilaaDoorMovKpC
import Derived.Test.YtlniakcoikhilaaDoorWlkTop0
import Derived.Test.YtlniakcoikhilaaDoorArenaRef
namespace Go.Proofs.YtlniakcoikhilaaDoor
open Go.RowKit Go.ChangeShapes Go.WideShapes
set_option linter.unusedVariables false

theorem Sl.wroteN {w w' : World} {B p g len n : Nat} {xs : List Nat} {A : Option Addr} {us : List Value} (h : Sl w w.heap.size A n us) (hu : ∀ u ∈ us, ∀ z : Nat, u ≠ wv z) (ha : Ar w B p g len xs) (hg : w.grownBy w' (some g)) : Sl w' w'.heap.size A n us := by
  refine ⟨h.1, fun h0 => ?_⟩
  obtain ⟨b, off, e, hb, hc⟩ := h.2 h0
  refine ⟨b, off, e, Nat.lt_of_lt_of_le hb hg.size, fun j hj => ?_⟩
  have hne : b ≠ g := fun e => by
    subst e
    have h1 := hc j hj
    rw [ha.word, List.getElem?_map] at h1
    have hj2 : j < us.length := by rw [h.1]; exact hj
    rw [List.getElem?_eq_getElem hj2] at h1
    cases hx : xs[off + j]? with
    | none => rw [hx] at h1; cases h1
    | some z =>
      rw [hx] at h1
      exact hu _ (List.getElem_mem hj2) z (Option.some.inj h1).symm
  rw [← hc j hj]
  exact World.cell?_of_block (hg.block b hb (fun e => hne (by injection e)))
theorem VlRow.wrote {w w' : World} {B p g len n : Nat} {xs : List Nat} {A : Option Addr} {vs : List VlV} (h : VlRow w w.heap.size A n vs) (ha : Ar w B p g len xs) (hg : w.grownBy w' (some g)) : VlRow w' w'.heap.size A n vs := by
  refine ⟨h.1, fun h0 => ?_⟩
  obtain ⟨b, off, e, hb, hc⟩ := h.2 h0
  refine ⟨b, off, e, Nat.lt_of_lt_of_le hb hg.size, fun j y hj => ?_⟩
  obtain ⟨cs, e1, hcs, e2⟩ := hc j y hj
  refine ⟨cs, e1, fun k hk => ?_, e2⟩
  have hne : b ≠ g := fun e => by
    subst e
    have h1 := hcs 0 (by omega)
    rw [ha.word, e2, List.getElem?_map] at h1
    cases hx : xs[off + j * 4 + 0]? with
    | none => rw [hx] at h1; simp [vlcells] at h1
    | some z => rw [hx] at h1; simp [vlcells, wv] at h1
  rw [← hcs k hk]
  exact World.cell?_of_block (hg.block b hb (fun e => hne (by injection e)))
theorem VvRow.wrote {w w' : World} {B p g len n : Nat} {xs : List Nat} {A : Option Addr} {zs : List VlS} (h : VvRow w w.heap.size A n zs) (ha : Ar w B p g len xs) (hg : w.grownBy w' (some g)) : VvRow w' w'.heap.size A n zs :=
  ⟨h.row.wroteN (fun u hu z e => by obtain ⟨y, _, rfl⟩ := List.mem_map.1 hu; unfold vsC wv at e; cases e) ha hg, fun z hz => (h.each z hz).wrote ha hg⟩
theorem rowsOf_len {xs : List Nat} {l : Fns} (hl : ∀ x ∈ l, 0 ≤ x.1 ∧ x.1 ≤ 1000) {L : List FrV} : ∀ (M : List FrV) (d : Nat), (rowsOf xs l L d M).length = M.length ∧ ∀ r ∈ rowsOf xs l L d M, r.length ≤ 1000
  | [], d => ⟨rfl, fun r hr => by cases hr⟩
  | x :: q, d => by
    obtain ⟨h1, h2⟩ := rowsOf_len hl q (d + 1)
    have hz := slSize_range l hl x
    refine ⟨by rw [rowsOf, List.length_cons, List.length_cons, h1], fun r hr => ?_⟩
    rw [rowsOf] at hr
    rcases List.mem_cons.1 hr with rfl | hr
    · rw [slRow_length]; omega
    · exact h2 r hr
theorem mvTo_st0 {xs : List Nat} {l : Fns} (hl : ∀ x ∈ l, 0 ≤ x.1 ∧ x.1 ≤ 1000) {s t : StV} {lo size no : Int} {ys : List Nat} (hn : xs.length ≤ 65536) (h : mvTo xs l s lo size = (ys, t, no)) (h0 : no ≠ 0) : t = st0 := by
  by_cases c : mvErr xs l s lo size = 0
  · have := mvTo_code hl (mvErr_ok c hn)
    rw [h] at this
    obtain ⟨-, this⟩ := Prod.mk.inj this
    exact absurd (Prod.mk.inj this).2 h0
  · have := mvTo_err rfl c hn
    rw [h] at this
    obtain ⟨-, this⟩ := Prod.mk.inj this
    exact (Prod.mk.inj this).1
/-- The law's world: an arena and a table, frames, values, and words that were read. -/
def K17 (X : World) (p g : Nat) (xs : List Nat) (tp : Option Addr) (O : Fns) (A : Option Addr) (nl : Nat) (L : List FrV) (C : Option Addr) (nr : Nat) (zs : List VlS) (D : Option Addr) (m k : Nat) (us : List Nat) (W : World) : Prop :=
  (S17 X p g xs tp O D m k us W ∧ FrRow W W.heap.size A nl L) ∧ VvRow W W.heap.size C nr zs
section
variable {X W W' : World} {p g : Nat} {xs ys us : List Nat} {tp A C D : Option Addr} {O : Fns} {nl nr m k : Nat} {L : List FrV} {zs : List VlS}
theorem K17.step (h : K17 X p g xs tp O A nl L C nr zs D m k us W) (hb : Below W.heap.size W W') : K17 X p g xs tp O A nl L C nr zs D m k us W' := ⟨⟨h.1.1.step hb, h.1.2.step hb⟩, h.2.step hb⟩
theorem K17.wrote (h : K17 X p g xs tp O A nl L C nr zs D m k us W) (ha : AT X W' p g 256 ys tp O) (hg : W.grownBy W' (some g)) : K17 X p g ys tp O A nl L C nr zs D m k us W' := ⟨⟨h.1.1.wrote ha hg, h.1.2.wrote h.1.1.1.ar hg⟩, h.2.wrote h.1.1.1.ar hg⟩
end

set_option maxRecDepth 100000 in
set_option maxHeartbeats 8000000 in
theorem moveKeeps_any (A : Option Addr) (n c : Nat) (us : List Nat) (A2 : Option Addr) (n2 c2 : Nat) (ys : List FnV) (s : StV) (lo size : Int) (w : World) (hs : Sl w w.heap.size A n (us.map wv)) (hu : Wd us) (hm : n ≤ maxLen) (hr : FnRow w 0 w.heap.size A2 n2 ys) (hy : ∀ y ∈ ys, y.n ≤ 17592186044416) (hm2 : n2 ≤ maxLen) (h0 : in64 s.lo) (h1 : in64 s.size) (h2 : in64 s.sp) (h3 : in64 lo) (h4 : in64 size) (ht : TabDB w) :
    Calls Tryd.prog 3 #[.slice A n c, .slice A2 n2 c2, .agg #[.int .i64 s.lo, .int .i64 s.size, .int .i64 s.sp], .int .i64 lo, .int .i64 size] w fun e w' => e = .returned (.bool true) ∧ Below w.heap.size w w' := by
  unfold maxLen at hm hm2
  obtain ⟨X, hX⟩ : ∃ X, X = w.alloc (.cells #[.int .i64 s.lo, .int .i64 s.size, .int .i64 s.sp] 25) := ⟨_, rfl⟩
  have hbX : Below w.heap.size w X := by rw [hX]; exact belF_al (Below.refl _ _) _
  have hzX : X.heap.size = w.heap.size + 1 := by rw [hX]; simp
  have HBX := hidb hbX
  have HC : Hid (∀ W, Below X.heap.size X W → W.cell? ⟨w.heap.size, 0, none⟩ = some (.int .i64 s.lo) ∧ W.cell? ⟨w.heap.size, 1, none⟩ = some (.int .i64 s.size) ∧ W.cell? ⟨w.heap.size, 2, none⟩ = some (.int .i64 s.sp)) := hidb (fun W hb => by refine ⟨?_, ?_, ?_⟩ <;> (rw [hb.cell (by show w.heap.size < _; omega), hX]; simp))
  have hrX : FnRow X 0 X.heap.size A2 n2 ys := (hr.below hbX).more (Nat.le_refl _) hbX.size
  have HRX := hidb hrX
  have CG : Hid (∀ W b, fGreat (vals ys) = b → Below X.heap.size X W → Calls Tryd.prog 7 #[.slice A2 n2 c2] W fun e w' => e = .returned (.bool b) ∧ W = w') := hidb (fun W b hb hbw => by rw [← hb]; exact ref_fgreat A2 n2 c2 ys 0 W.heap.size W ((HRX.out.below hbw).more (Nat.le_refl _) hbw.size) (by omega))
  have HT := hidb (TabDB.below ht hbX)
  have KA := fun W (s : Hid (Below X.heap.size X W)) => (awake17 W).mono fun e w' h => (⟨h.1, hidb (belF_tr s.out h.2)⟩ : e = _ ∧ Hid (Below X.heap.size X w'))
  have HXX := hidb hX
  cases hT : fTab (vals ys) with
  | false =>
    have kn := t_new_no (c2 := c2) hrX hy (by omega) hT
    by_cases hbig : 256 < n
    · have hb : (256 : Int) < (n : Int) := by omega
      clear hs hr hrX hX hbX hzX hbig ht hT hy
      --@1
      go_enter Tryd.func3, Tryd.ntmps3
      go_wp2_with (first
        | (go_at_call 6; rw [← HXX.out]; (with_reducible refine kn.mono ?_); rintro e w1 ⟨rfl, hs1⟩)
        | (go_at_call 8; (with_reducible refine (KA _ hs1).mono ?_); rintro e w2 ⟨rfl, hs2⟩))
      go_ret
      exact ⟨rfl, belF_tr HBX.out hs2.out⟩
    · have hnb : ¬ ((256 : Int) < (n : Int)) := by omega
      obtain ⟨b, hbg⟩ : ∃ b, fGreat (vals ys) = b := ⟨_, rfl⟩
      have cg := fun W h => CG.out W b hbg h
      clear hs hr hrX hX hbX hzX hbig ht hT hy hbg
      cases b with
      | true =>
        --@2
        go_enter Tryd.func3, Tryd.ntmps3
        go_wp2_with (first
          | (go_at_call 6; rw [← HXX.out]; (with_reducible refine kn.mono ?_); rintro e w1 ⟨rfl, hs1⟩)
          | (go_at_call 7; (with_reducible refine (cg _ hs1.out).mono ?_); rintro e w' ⟨rfl, rfl⟩)
          | (go_at_call 8; (with_reducible refine (KA _ hs1).mono ?_); rintro e w2 ⟨rfl, hs2⟩))
        go_ret
        exact ⟨rfl, belF_tr HBX.out hs2.out⟩
      | false =>
        --@3
        go_enter Tryd.func3, Tryd.ntmps3
        go_wp2_with (first
          | (go_at_call 6; rw [← HXX.out]; (with_reducible refine kn.mono ?_); rintro e w1 ⟨rfl, hs1⟩)
          | (go_at_call 7; (with_reducible refine (cg _ hs1.out).mono ?_); rintro e w' ⟨rfl, rfl⟩)
          | (go_at_call 8; (with_reducible refine (KA _ hs1).mono ?_); rintro e w2 ⟨rfl, hs2⟩))
        go_ret
        exact ⟨rfl, belF_tr HBX.out hs2.out⟩
  | true =>
    have kn := t_new_yes (c2 := c2) hrX hy HT.out hT
    have hsz := fTab_sizes hT
    have HSZ := hidb hsz
    have HSZ2 := hidb (fOwns_sizes hsz)
    by_cases hbig : 256 < n
    · have hb : (256 : Int) < (n : Int) := by omega
      clear hs hr hrX hX hbX hzX hbig ht hT hy
      --@4
      go_enter Tryd.func3, Tryd.ntmps3
      go_wp2_with (first
        | (go_at_call 6; rw [← HXX.out]; (with_reducible refine kn.mono ?_); rintro e w1 ⟨tb, rfl, hs1⟩; have hw1 := hidb hs1.out.1)
        | (go_at_call 8; (with_reducible refine (KA _ hw1).mono ?_); rintro e w2 ⟨rfl, hs2⟩))
      go_ret
      exact ⟨rfl, belF_tr HBX.out hs2.out⟩
    have hnb : ¬ ((256 : Int) < (n : Int)) := by omega
    have hn : n ≤ 256 := by omega
    cases hG : fGreat (vals ys) with
    | true =>
      have cg := fun W h => CG.out W true hG h
      clear hs hr hrX hX hbX hzX hbig ht hT hy hG
      --@5
      go_enter Tryd.func3, Tryd.ntmps3
      go_wp2_with (first
        | (go_at_call 6; rw [← HXX.out]; (with_reducible refine kn.mono ?_); rintro e w1 ⟨tb, rfl, hs1⟩; have hw1 := hidb hs1.out.1)
        | (go_at_call 7; (with_reducible refine (cg _ hw1.out).mono ?_); rintro e w' ⟨rfl, rfl⟩)
        | (go_at_call 8; (with_reducible refine (KA _ hw1).mono ?_); rintro e w2 ⟨rfl, hs2⟩))
      go_ret
      exact ⟨rfl, belF_tr HBX.out hs2.out⟩
    | false =>
      have cg := fun W h => CG.out W false hG h
      have h120 : n2 ≤ 100 := by unfold fTab at hT; rw [Bool.and_eq_true, decide_eq_true_iff, vals_length, hr.len] at hT; omega
      have HU : Hid (Wd (frLaid us)) := hidb (frLaid_wd hu)
      have hul : us.length = n := by have := hs.1; simpa using this
      have hfl : (frLaid us).length = 256 := frLaid_length us (by omega)
      have HS := hidb ((hs.below hbX).more hbX.size)
      generalize hxs : frLaid us = xs at *
      have HXL := hidb hfl
      have KL : Hid (∀ W tp O, Hid (S13 X W tp O) → Calls Tryd.prog 9 #[.slice A n c] W fun e w' => ∃ p g, e = .returned (.pointer (some ⟨p, 0, none⟩)) ∧ Hid (AT X w' p g 256 xs tp O)) := hidb (fun W tp O st => by
        refine (t_laid17 (W := W) (c := c) ((HS.out.below st.out.1).more st.out.1.size) hn).mono ?_
        rintro e w' ⟨p, g, rfl, h2, h3⟩
        rw [hxs] at h2
        exact ⟨p, g, rfl, hidb (AT.made2 st.out h2 h3)⟩)
      generalize hO : fOwns (vals ys) = O at *
      obtain ⟨r1, hr1⟩ : ∃ r, mvTo xs O s lo size = r := ⟨_, rfl⟩
      obtain ⟨ys1, s1, no⟩ := r1
      obtain ⟨L, nf, hwf⟩ : ∃ L nf, wkFrames xs O s = (L, nf) := ⟨_, _, rfl⟩
      have hLf := wkFrames_few HSZ2.out hwf
      rw [hfl] at hLf
      obtain ⟨R, na, hsa⟩ : ∃ R na, slAll xs O L = (R, na) := ⟨_, _, rfl⟩
      obtain ⟨nl, hnl⟩ : ∃ nl, L.length = nl := ⟨_, rfl⟩
      obtain ⟨nr, hnr⟩ : ∃ nr, R.length = nr := ⟨_, rfl⟩
      have KF : Hid (∀ W p g tp, Hid (AT X W p g 256 xs tp O) → Calls Tryd.prog 10 #[.pointer (some ⟨p, 0, none⟩), .pointer tp, stC s] W fun e w' => ∃ A c, e = .returned (.tuple #[.slice A nl c, .int .i64 nf]) ∧ Hid (AT X w' p g 256 xs tp O ∧ FrRow w' w'.heap.size A nl L ∧ nl ≤ c)) := hidb (fun W p g tp st => by
        obtain ⟨lo', hi', g1, g2, _⟩ := st.out.tb
        refine (code_wframesC s st.out.ar g1 g2 HSZ2.out HU.out h0 h1 h2).mono ?_
        rw [hwf]
        rintro e w' ⟨A, c, rfl, q1, q2, q3⟩
        simp only at q1 q2
        rw [hnl] at q1 q2
        exact ⟨A, c, by rw [hnl], hidb ⟨st.out.step q3, q1, q2⟩⟩)
      have KV : Hid (∀ W p g tp A c, Hid (AT X W p g 256 xs tp O ∧ FrRow W W.heap.size A nl L ∧ nl ≤ c) → Calls Tryd.prog 11 #[.pointer (some ⟨p, 0, none⟩), .pointer tp, .slice A nl c] W fun e w' => ∃ C kc zs, e = .returned (.tuple #[.slice C nr kc, .int .i64 na]) ∧ vvals zs = R ∧ Hid ((AT X w' p g 256 xs tp O ∧ FrRow w' w'.heap.size A nl L) ∧ VvRow w' w'.heap.size C nr zs)) := hidb (fun W p g tp A c st => by
        obtain ⟨st, hf, hc⟩ := st.out
        obtain ⟨lo', hi', g1, g2, _⟩ := st.tb
        refine (code_slall st.ar g1 g2 HSZ2.out HU.out hf (by omega) hc).mono ?_
        rw [hsa]
        rintro e w' ⟨C, kc, zs, rfl, q1, q2, q3⟩
        simp only at q1 q2
        rw [hnr] at q1
        exact ⟨C, kc, zs, by rw [hnr], q2, hidb ⟨⟨st.step q3, hf.step q3⟩, q1⟩⟩)
      have KT : Hid (∀ W p g tp A C zs D m k us', Hid (K17 X p g xs tp O A nl L C nr zs D m k us' W) → Calls Tryd.prog 13 #[.pointer (some ⟨p, 0, none⟩), .pointer tp, stC s, .int .i64 lo, .int .i64 size] W fun e w' => e = .returned (.tuple #[stC s1, .int .i64 no]) ∧ Hid (K17 X p g ys1 tp O A nl L C nr zs D m k us' w') ∧ Hid (W.grownBy w' (some g))) := hidb (fun W p g tp A C zs D m k us' st => (code_mvto HT.out st.out.1.1.1 HSZ2.out HU.out s ⟨h0, h1, h2⟩ lo size h3 h4 ys1 s1 no hr1).mono fun e w' h => ⟨h.1, hidb (st.out.wrote h.2.1 h.2.2), hidb h.2.2⟩)
      have HBL : Hid (∀ W p g xs' tp A C zs D m k us', K17 X p g xs' tp O A nl L C nr zs D m k us' W → Below X.heap.size X W) := hidb (fun W p g xs' tp A C zs D m k us' st => st.1.1.1.bel)
      have HBA : Hid (∀ W p g tp (P : Prop), Hid (AT X W p g 256 xs tp O ∧ P) → Below X.heap.size X W) := hidb (fun W p g tp P st => st.out.1.bel)
      have HBV : Hid (∀ W p g tp (P Q : Prop), Hid ((AT X W p g 256 xs tp O ∧ P) ∧ Q) → Below X.heap.size X W) := hidb (fun W p g tp P Q st => st.out.1.1.bel)
      have HAL : Hid (∀ W p g xs' tp A C zs D m k us' v0 v1 v2, K17 X p g xs' tp O A nl L C nr zs D m k us' W → K17 X p g xs' tp O A nl L C nr zs D m k us' (W.alloc (.cells #[v0, v1, v2] 25))) := hidb (fun W p g xs' tp A C zs D m k us' v0 v1 v2 st => st.step (belF_al (Below.refl _ _) _))
      by_cases hno : no = 0
      · subst hno
        have hok := mvTo_ok (xs := xs) (l := O) (s := s) (lo := lo) (size := size) (by omega) (by rw [hr1])
        rw [hwf] at hok
        simp only at hok
        obtain ⟨k1, k2, k3, k4⟩ := hok.chn HSZ2.out
        obtain ⟨ys', hd1, hd2⟩ := hok.does HSZ2.out
        rw [hr1] at hd1
        obtain ⟨q1, q2⟩ := Prod.mk.inj hd1
        obtain ⟨q2, -⟩ := Prod.mk.inj q2
        subst q1
        generalize hδ : lo + size - s.lo - s.size = δ at *
        obtain ⟨kp1, kp2, kp3, kp4, kp5⟩ := hok.keeps HSZ2.out hd2
        have hdd := hok.dist
        rw [hsa] at kp4
        obtain ⟨kr1, kr2⟩ := Prod.mk.inj kp4
        subst kr1 kr2
        obtain ⟨ro1, ro2⟩ := rowsOf_len (xs := xs) (l := O) (L := L) HSZ2.out L 0
        obtain rfl : nr = nl := by rw [← hnr, ← hnl, ro1]
        have hyl : ys1.length = 256 := by rw [hd2.1]; exact hfl
        have hywd : Wd ys1 := by
          have h := mvTo_code HSZ2.out hok
          rw [hr1] at h
          obtain ⟨h, -⟩ := Prod.mk.inj h
          rw [h]
          exact hok.wd HSZ2.out HU.out
        have hmay := hok.may
        unfold stMay stkSz at hmay
        simp at hmay
        have hgoal := hok.goal
        unfold stMay stkSz at hgoal
        simp at hgoal
        obtain ⟨b, hbb⟩ : ∃ b : Nat, s.lo = (b : Int) := ⟨s.lo.toNat, by omega⟩
        obtain ⟨z, hzz⟩ : ∃ z : Nat, s.size = (z : Int) := ⟨s.size.toNat, by omega⟩
        obtain ⟨us', hus⟩ : ∃ us', s.lo + s.size - s.sp = us' := ⟨_, rfl⟩
        obtain ⟨wx, hwx⟩ : ∃ wx, aRow xs b z = wx := ⟨_, rfl⟩
        have hrow : aRow ys1 b z = wx := by
          rw [← hwx]
          apply List.ext_getElem?
          intro i
          unfold aRow
          by_cases c : i < z
          · rw [List.getElem?_take_of_lt c, List.getElem?_take_of_lt c, List.getElem?_drop, List.getElem?_drop]
            have e1 := hok.elder HSZ2.out hd2 (b + i) (by omega) (by omega)
            rw [List.getD_eq_getElem?_getD, List.getD_eq_getElem?_getD, List.getElem?_eq_getElem (by omega), List.getElem?_eq_getElem (by omega)] at e1
            rw [List.getElem?_eq_getElem (by omega), List.getElem?_eq_getElem (by omega)]
            exact congrArg some e1
          · rw [List.getElem?_eq_none (by rw [List.length_take]; omega), List.getElem?_eq_none (by rw [List.length_take]; omega)]
        have hL2 : (L.map (shF δ)).length = nr := by rw [List.length_map]; exact hnl
        have hi1 : in64 s1.lo ∧ in64 s1.size ∧ in64 s1.sp := by rw [q2]; exact ⟨h3, h4, by show in64 (s.sp + δ); unfold in64; omega⟩
        -- what each frame's words are
        have HFAR : Hid (∀ x ∈ L, (0 ≤ x.at_ + δ ∧ x.at_ + δ ≤ 256) ∧ ((shF δ x).link = -1 ∨ ∃ k : Nat, (shF δ x).link = (k : Int) ∧ k ≤ 256 ∧ decide (s.lo ≤ (k : Int) ∧ (k : Int) < s.lo + s.size) = false) ∧ ∀ i ∈ fPtrs O x.fn, (0 ≤ i ∧ i ≤ 1000) ∧ ∃ k u : Nat, x.at_ + δ + 2 + i = (k : Int) ∧ ys1[k]? = some u ∧ u < 18446744073709551616 ∧ (u = 0 ∨ (u ≠ 0 ∧ decide (s.lo ≤ (u : Int) ∧ (u : Int) < s.lo + s.size) = false))) := hidb (fun x hx => by
          obtain ⟨c1, c2, c3, c4, c5, c6, c7⟩ := chn_mem HSZ2.out L _ _ k1 x hx
          rw [k2] at c1
          have hs7 := slSize_end k3 HSZ2.out hx c4 c5
          obtain ⟨f1, f2⟩ := hok.far HSZ2.out hd2 hx
          have hW := k3.2 x hx
          refine ⟨by omega, ?_, fun i hi => ?_⟩
          · rcases f1 with f1 | ⟨f1, f3⟩
            · exact Or.inl f1
            · refine Or.inr ⟨(shF δ x).link.toNat, by omega, ?_, decide_eq_false (by omega)⟩
              have : (shF δ x).link = if x.link = -1 then (-1 : Int) else x.link + δ := rfl
              split at this <;> omega
          · obtain ⟨i0, i1, i2⟩ := mem_fPtrs.1 hi
            have hfz := slSize_fn k3 HSZ2.out hx c4 c5
            have hzr := slSize_range O HSZ2.out x
            obtain ⟨j, rfl⟩ : ∃ j : Nat, i = (j : Int) := ⟨i.toNat, by omega⟩
            have f4 := f2 j (by omega) i0
            have hkl : (x.at_ + δ + 2 + (j : Int)).toNat < ys1.length := by omega
            rw [List.getD_eq_getElem?_getD, List.getElem?_eq_getElem hkl] at f4
            refine ⟨by omega, (x.at_ + δ + 2 + (j : Int)).toNat, _, by omega, List.getElem?_eq_getElem hkl, hywd _ (List.getElem_mem _), ?_⟩
            by_cases h0 : ys1[(x.at_ + δ + 2 + (j : Int)).toNat] = 0
            · exact Or.inl h0
            · refine Or.inr ⟨h0, decide_eq_false ?_⟩
              rcases f4 with f4 | f4
              · exact absurd f4 h0
              · exact f4)
        have KR : Hid (∀ W p g tp A C zs, Hid ((AT X W p g 256 xs tp O ∧ FrRow W W.heap.size A nr L) ∧ VvRow W W.heap.size C nr zs) → Calls Tryd.prog 12 #[.pointer (some ⟨p, 0, none⟩), .int .i64 (b : Int), .int .i64 (z : Int)] W fun e w' => ∃ D k, e = .returned (.tuple #[.slice D z k, .int .i64 0]) ∧ Hid (K17 X p g xs tp O A nr L C nr zs D z k wx w')) := hidb (fun W p g tp A C zs st => by
          have := t_row st.out.1.1 b z (by omega)
          rw [hwx] at this
          refine this.mono ?_
          rintro e w' ⟨D, k, rfl, q1, q2⟩
          exact ⟨D, k, rfl, hidb ⟨⟨q1, st.out.1.2.step q2⟩, st.out.2.step q2⟩⟩)
        have KF2 : Hid (∀ W p g tp A C zs D k, Hid (K17 X p g ys1 tp O A nr L C nr zs D z k wx W) → Calls Tryd.prog 10 #[.pointer (some ⟨p, 0, none⟩), .pointer tp, stC s1] W fun e w' => ∃ G c, e = .returned (.tuple #[.slice G nr c, .int .i64 0]) ∧ Hid (K17 X p g ys1 tp O A nr L C nr zs D z k wx w' ∧ FrRow w' w'.heap.size G nr (L.map (shF δ)) ∧ nr ≤ c) ∧ Hid (Below W.heap.size W w')) := hidb (fun W p g tp A C zs D k st => by
          obtain ⟨lo', hi', g1, g2, _⟩ := st.out.1.1.1.tb
          have := code_wframesC s1 st.out.1.1.1.ar g1 g2 HSZ2.out hywd hi1.1 hi1.2.1 hi1.2.2
          rw [q2, kp2] at this
          rw [q2]
          refine this.mono ?_
          rintro e w' ⟨G, c, rfl, m1, m2, m3⟩
          simp only at m1 m2
          rw [hL2] at m1 m2
          exact ⟨G, c, by rw [hL2], hidb ⟨st.out.step m3, m1, m2⟩, hidb m3⟩)
        have KV2 : Hid (∀ W p g tp A C zs D k G c, Hid (K17 X p g ys1 tp O A nr L C nr zs D z k wx W ∧ FrRow W W.heap.size G nr (L.map (shF δ)) ∧ nr ≤ c) → Calls Tryd.prog 11 #[.pointer (some ⟨p, 0, none⟩), .pointer tp, .slice G nr c] W fun e w' => ∃ C2 kc zs2, e = .returned (.tuple #[.slice C2 nr kc, .int .i64 0]) ∧ vvals zs2 = rowsOf xs O L 0 L ∧ Hid ((K17 X p g ys1 tp O A nr L C nr zs D z k wx w' ∧ FrRow w' w'.heap.size G nr (L.map (shF δ))) ∧ VvRow w' w'.heap.size C2 nr zs2) ∧ Hid (Below W.heap.size W w')) := hidb (fun W p g tp A C zs D k G c st => by
          obtain ⟨st, hf, hc⟩ := st.out
          obtain ⟨lo', hi', g1, g2, _⟩ := st.1.1.1.tb
          have := code_slall st.1.1.1.ar g1 g2 HSZ2.out hywd hf (by omega) hc
          rw [kp5] at this
          refine this.mono ?_
          rintro e w' ⟨C2, kc, zs2, rfl, m1, m2, m3⟩
          simp only at m1 m2
          rw [hnr] at m1
          exact ⟨C2, kc, zs2, by rw [hnr], m2, hidb ⟨⟨st.step m3, hf.step m3⟩, m1⟩, hidb m3⟩)
        have KR2 : Hid (∀ W p g tp A C zs D k G C2 zs2, Hid ((K17 X p g ys1 tp O A nr L C nr zs D z k wx W ∧ FrRow W W.heap.size G nr (L.map (shF δ))) ∧ VvRow W W.heap.size C2 nr zs2) → Calls Tryd.prog 12 #[.pointer (some ⟨p, 0, none⟩), .int .i64 (b : Int), .int .i64 (z : Int)] W fun e w' => ∃ E k2, e = .returned (.tuple #[.slice E z k2, .int .i64 0]) ∧ Hid (((K17 X p g ys1 tp O A nr L C nr zs D z k wx w' ∧ FrRow w' w'.heap.size G nr (L.map (shF δ))) ∧ VvRow w' w'.heap.size C2 nr zs2) ∧ Sl w' w'.heap.size E z (wx.map wv)) ∧ Hid (Below W.heap.size W w')) := hidb (fun W p g tp A C zs D k G C2 zs2 st => by
          have := t_row st.out.1.1.1.1.1 b z (by omega)
          rw [hrow] at this
          refine this.mono ?_
          rintro e w' ⟨E, k2, rfl, m1, m2⟩
          exact ⟨E, k2, rfl, hidb ⟨⟨⟨st.out.1.1.step m2, st.out.1.2.step m2⟩, st.out.2.step m2⟩, m1.row⟩, hidb m2⟩)
        -- all that is asked behind that, at any world that comes up
        have KU1 : Hid (∀ W, Calls Tryd.prog 16 #[stC s] W fun e w' => e = .returned (.int .i64 us') ∧ Below W.heap.size W w') := hidb (fun W => by
          have := code_wused s (by unfold StNear; omega) W
          rw [show max (s.lo + s.size - s.sp) 0 = us' by omega] at this
          exact this)
        have KU2 : Hid (∀ W, Calls Tryd.prog 16 #[stC s1] W fun e w' => e = .returned (.int .i64 us') ∧ Below W.heap.size W w') := hidb (fun W => by
          rw [q2]
          have := code_wused ⟨lo, size, s.sp + δ⟩ (by unfold StNear; simp only; omega) W
          simp only at this
          rw [show max (lo + size - (s.sp + δ)) 0 = us' by omega] at this
          exact this)
        have KSV : Hid (∀ wk, ∀ W C C2 zs zs2 k k2, VvRow wk wk.heap.size C nr zs → VvRow wk wk.heap.size C2 nr zs2 → vvals zs = rowsOf xs O L 0 L → vvals zs2 = rowsOf xs O L 0 L → Below wk.heap.size wk W → Calls Tryd.prog 14 #[.slice C2 nr k2, .slice C nr k] W fun e w' => e = .returned (.bool true) ∧ Below W.heap.size W w') := hidb (fun wk W C C2 zs zs2 k k2 v1 v2 e1 e2 hb => by
          refine (ref_vsame (m := 0) (v2.below hb) (v1.below hb) (by rw [e1, e2]) (by omega) (fun y hy => ?_)).mono ?_
          · have h1 := (v2.each y hy).len
            have h2 : y.vs ∈ rowsOf xs O L 0 L := by rw [← e2]; unfold vvals; exact List.mem_map.2 ⟨y, hy, rfl⟩
            have := ro2 _ h2
            omega
          · rintro e w' ⟨rfl, q, rfl⟩
            exact ⟨rfl, belowN (Below.refl _ _) q⟩)
        have KSW : Hid (∀ wk, ∀ W D E k k2, Sl wk wk.heap.size D z (wx.map wv) → Sl wk wk.heap.size E z (wx.map wv) → Below wk.heap.size wk W → Calls Tryd.prog 15 #[.slice E z k2, .slice D z k] W fun e w' => e = .returned (.bool true) ∧ Below W.heap.size W w') := hidb (fun wk W D E k k2 v1 v2 hb => by
          refine (ref_asame E D z k2 z k wx wx W wk.heap.size wk.heap.size (v2.below hb) (v1.below hb) (by omega) (by omega)).mono ?_
          rintro e w' ⟨rfl, q, rfl⟩
          exact ⟨by simp, belowN (Below.refl _ _) q⟩)
        have KIN : Hid (∀ W (v : Nat), v < 18446744073709551616 → decide (s.lo ≤ (v : Int) ∧ (v : Int) < s.lo + s.size) = false → Calls Tryd.prog 17 #[stC s, .int .u64 (v : Int)] W fun e w' => e = .returned (.bool false) ∧ Below W.heap.size W w') := hidb (fun W v hv hd => c_inside s v (by omega) (by omega) hv false hd W)
        have KPT : Hid (∀ W p g tp f, AT X W p g 256 ys1 tp O → Calls Tryd.prog 18 #[.pointer tp, .int .i64 f] W (OwnInts W (fPtrs O f))) := hidb (fun W p g tp f st => by
          obtain ⟨lo', hi', g1, g2, _⟩ := st.tb
          exact code_fptrs g1 g2 f (TabDB.below HT.out st.bel))
        have KLD : Hid (∀ W p g tp (k u : Nat), AT X W p g 256 ys1 tp O → ys1[k]? = some u → Calls Tryd.prog 19 #[.pointer (some ⟨p, 0, none⟩), .int .i64 (k : Int)] W fun e w' => e = .returned (.tuple #[.int .u64 (u : Int), .int .i64 0]) ∧ Below W.heap.size W w') := hidb (fun W p g tp k u st hu => code_aload k u st.ar hu)
        have HFL : Hid (∀ f, (fPtrs O f).length ≤ 65536) := hidb (fun f => by
          unfold fPtrs
          split
          · simp
          · rename_i c
            have hm := HSZ2.out _ (List.mem_of_getElem? (some_getD (0, []) (show f.toNat < O.length by omega)))
            refine Nat.le_trans (bBits_length _ _) ?_
            omega)
        have HLL := hidb hnl
        have HST : Hid (∀ wk W p g tp A C zs D k, K17 X p g ys1 tp O A nr L C nr zs D z k wx wk → Below wk.heap.size wk W → AT X W p g 256 ys1 tp O) := hidb (fun wk W p g tp A C zs D k st hb => st.1.1.1.step hb)
        have HTO : Hid (∀ (W1 W : World) (x0 x1 x2 : Int), Below (W1.alloc (.cells #[.int .i64 x0, .int .i64 x1, .int .i64 x2] 25)).heap.size (W1.alloc (.cells #[.int .i64 x0, .int .i64 x1, .int .i64 x2] 25)) W → W.cell? ⟨W1.heap.size, 0, none⟩ = some (.int .i64 x0) ∧ W.cell? ⟨W1.heap.size, 1, none⟩ = some (.int .i64 x1) ∧ W.cell? ⟨W1.heap.size, 2, none⟩ = some (.int .i64 x2)) := hidb (fun W1 W x0 x1 x2 hb => by
          refine ⟨?_, ?_, ?_⟩ <;> (rw [hb.cell (by simp)]; simp))
        have hnr2 : nr ≤ 256 := by omega
        have hU64 : ∀ k : Nat, k ≤ 256 → IntKind.u64.wrap (k : Int) = (k : Int) := fun k hk => by simp [IntKind.wrap, IntKind.bits, IntKind.signed]; omega
        have HU64 := hidb hU64
        have HSC : Hid (∀ W p g xs' tp A C zs D m k us', K17 X p g xs' tp O A nr L C nr zs D m k us' W → W.cell? ⟨w.heap.size, 0, none⟩ = some (.int .i64 (b : Int)) ∧ W.cell? ⟨w.heap.size, 1, none⟩ = some (.int .i64 (z : Int)) ∧ W.cell? ⟨w.heap.size, 2, none⟩ = some (.int .i64 s.sp)) := hidb (fun W p g xs' tp A C zs D m k us' st => by
          have := HC.out W st.1.1.1.bel
          rw [hbb, hzz] at this
          exact this)
        have HSTP : Hid (∀ wk W p g tp A C zs D k, K17 X p g ys1 tp O A nr L C nr zs D z k wx wk → Below wk.heap.size wk W → K17 X p g ys1 tp O A nr L C nr zs D z k wx W) := hidb (fun wk W p g tp A C zs D k st hb => st.step hb)
        obtain ⟨sl, ss, sp⟩ := s
        obtain ⟨tl, ts, tp1⟩ := s1
        unfold stC at KF KT KF2 KU1 KU2 KIN
        simp only at *
        subst hbb hzz
        clear hs hr hrX hX hbX hzX hbig ht hT hy hG hu hul hfl hxs h0 h1 h2 h3 h4 hsz hm2 hm hr1 hO hok k1 k2 k3 k4 hd1 hd2 q2 hmay hgoal hyl hywd hwx hrow hδ hdd kp1 kp2 kp3 kp4 kp5 ro1 ro2 hL2 hi1 hus hsa hwf hLf hnl hnr hU64
        --@7
        go_enter Tryd.func3, Tryd.ntmps3
        go_wp2_with (first
          | (go_at_call 6; rw [← HXX.out]; (with_reducible refine kn.mono ?_); rintro e w1 ⟨tb, rfl, hs1⟩; have hw1 := hidb hs1.out.1)
          | (go_at_call 7; (with_reducible refine (cg _ hw1.out).mono ?_); rintro e w' ⟨rfl, rfl⟩)
          | (go_at_call 9; (with_reducible refine (KL.out _ _ _ hs1).mono ?_); rintro e w3 ⟨p, g, rfl, hs3⟩; obtain ⟨c0, c1, c2⟩ := HC.out w3 hs3.out.bel)
          | (go_at_call 10; (with_reducible refine (KF.out _ _ _ _ hs3).mono ?_); rintro e w4 ⟨A4, k4, rfl, hs4⟩; obtain ⟨c3, c4, c5⟩ := HC.out w4 (HBA.out _ _ _ _ _ hs4); clear hs3)
          | (go_at_call 11; (with_reducible refine (KV.out _ _ _ _ _ _ hs4).mono ?_); rintro e w5 ⟨C5, k5, zs5, rfl, hv5, hs5⟩; have HV5 := hidb hv5; clear hv5 hs4; obtain ⟨c6, c7, c8⟩ := HC.out w5 (HBV.out _ _ _ _ _ _ hs5))
          | (go_at_call 12; (with_reducible refine (KR.out _ _ _ _ _ _ _ hs5).mono ?_); rintro e w6 ⟨D6, k6, rfl, hs6⟩; clear hs5; obtain ⟨d0, d1, d2⟩ := HSC.out w6 _ _ _ _ _ _ _ _ _ _ _ hs6.out)
          | (go_at_call 13; (with_reducible refine (KT.out _ _ _ _ _ _ _ _ _ _ _ hs6).mono ?_); rintro e w7 ⟨rfl, hs7, hg7⟩; have hs8 := hidb (HAL.out _ _ _ _ _ _ _ _ _ _ _ _ (.int .i64 tl) (.int .i64 ts) (.int .i64 tp1) hs7.out); clear hs6; obtain ⟨wa, hwa⟩ : ∃ wa, wa = w7.alloc (.cells #[.int .i64 tl, .int .i64 ts, .int .i64 tp1] 25) := ⟨_, rfl⟩; rw [← hwa] at hs8; have HWA := hidb hwa; clear hwa)
          | (go_at_call 10; rw [← HWA.out]; (with_reducible refine (KF2.out _ _ _ _ _ _ _ _ _ hs8).mono ?_); rintro e w9 ⟨G9, k9, rfl, hs9, hb9⟩; clear hs8)
          | (go_at_call 11; (with_reducible refine (KV2.out _ _ _ _ _ _ _ _ _ _ _ hs9).mono ?_); rintro e w10 ⟨C10, k10, zs10, rfl, hv10, hs10, hb10⟩; have HV10 := hidb hv10; clear hv10 hs9; obtain ⟨e0, e1, e2⟩ := HSC.out w10 _ _ _ _ _ _ _ _ _ _ _ hs10.out.1.1)
          | (go_at_call 12; (with_reducible refine (KR2.out _ _ _ _ _ _ _ _ _ _ _ _ hs10).mono ?_); rintro e wk ⟨E, k11, rfl, hs11, hb11⟩))
        have HCK : Hid (∀ W, Below wk.heap.size wk W → (W.cell? ⟨w.heap.size, 0, none⟩ = some (.int .i64 (b : Int)) ∧ W.cell? ⟨w.heap.size, 1, none⟩ = some (.int .i64 (z : Int)) ∧ W.cell? ⟨w.heap.size, 2, none⟩ = some (.int .i64 sp)) ∧ W.cell? ⟨w7.heap.size, 0, none⟩ = some (.int .i64 tl) ∧ W.cell? ⟨w7.heap.size, 1, none⟩ = some (.int .i64 ts) ∧ W.cell? ⟨w7.heap.size, 2, none⟩ = some (.int .i64 tp1)) := hidb (fun W hb => ⟨HSC.out W p g ys1 _ A4 C5 zs5 D6 z k6 wx (HSTP.out wk W p g _ A4 C5 zs5 D6 k6 hs11.out.1.1.1 hb), HTO.out w7 W tl ts tp1 (by rw [← HWA.out]; exact belF_tr hb9.out (belF_tr hb10.out (belF_tr hb11.out hb)))⟩)
        have KV14 : Hid (∀ W, Below wk.heap.size wk W → Calls Tryd.prog 14 #[.slice C10 nr k10, .slice C5 nr k5] W fun e w' => e = .returned (.bool true) ∧ Below W.heap.size W w') := hidb (fun W hb => KSV.out wk W C5 C10 zs5 zs10 k5 k10 hs11.out.1.1.1.2 hs11.out.1.2 HV5.out HV10.out hb)
        have KW14 : Hid (∀ W, Below wk.heap.size wk W → Calls Tryd.prog 15 #[.slice E z k11, .slice D6 z k6] W fun e w' => e = .returned (.bool true) ∧ Below W.heap.size W w') := hidb (fun W hb => KSW.out wk W D6 E k6 k11 hs11.out.1.1.1.1.1.row hs11.out.2 hb)
        have HST2 : Hid (∀ W, Below wk.heap.size wk W → AT X W p g 256 ys1 (some ⟨tb, 0, none⟩) O) := hidb (fun W hb => HST.out wk W p g _ A4 C5 zs5 D6 k6 hs11.out.1.1.1 hb)
        have HG9 : Hid (∀ W, Below wk.heap.size wk W → FrRow W W.heap.size G9 nr (L.map (shF δ))) := hidb (fun W hb => hs11.out.1.1.2.step hb)
        have HA4 : Hid (∀ W, Below wk.heap.size wk W → FrRow W W.heap.size A4 nr L) := hidb (fun W hb => hs11.out.1.1.1.1.2.step hb)
        have HBR : Hid (∀ W1 W2, Below wk.heap.size wk W1 → Below W1.heap.size W1 W2 → Below wk.heap.size wk W2) := hidb (fun W1 W2 h1 h2 => belF_tr h1 h2)
        have HBE : Hid (∀ W, Below wk.heap.size wk W → Below X.heap.size X W) := hidb (fun W hb => (HST2.out W hb).bel)
        have hn1 : ((nr : Int) != (nr : Int)) = false := by simp
        have hn2 : (us' != us') = false := by simp
        clear c0 c1 c2 c3 c4 c5 c6 c7 c8 d0 d1 d2 e0 e1 e2 hs11 hs10 hb9 hb10 hb11 kn cg hs7 hg7
        refine wp_begin (by kernel_rfl) 32 rfl ?_
        refine wp_tail (C := fun W => Below wk.heap.size wk W) 0 32 _ (by kernel_rfl) rfl (by kernel_rfl) (by kernel_rfl) (belF_dr (Below.refl _ _)) ?_
        simp only [List.drop_zero]
        repeat (first | go_big_quiet_skip | (go_big_quiet_want; (apply Exists.intro); refine ⟨fun W hC => ?_, ?_⟩; (unfold Oper.quietAt; go_simp; done); go_big_quiet_on; simp only [Act.put, List.setIfInBounds_toArray, List.set_cons_zero, List.set_cons_succ]) | (go_big_quiet_want; (apply Exists.intro); refine ⟨fun W hC => ?_, ?_⟩; (unfold Oper.quietAt; go_simp; rfl); go_big_quiet_on; simp only [Act.put, List.setIfInBounds_toArray, List.set_cons_zero, List.set_cons_succ]) | (go_big_quiet_want; (apply Exists.intro); refine ⟨fun W hC => ?_, ?_⟩; (obtain ⟨⟨v0, v1, v2⟩, v3, v4, v5⟩ := HCK.out W hC; unfold Oper.quietAt; go_simp; done); go_big_quiet_on; simp only [Act.put, List.setIfInBounds_toArray, List.set_cons_zero, List.set_cons_succ]) | (go_big_quiet_want; (apply Exists.intro); refine ⟨fun W hC => ?_, ?_⟩; (obtain ⟨⟨v0, v1, v2⟩, v3, v4, v5⟩ := HCK.out W hC; unfold Oper.quietAt; go_simp; rfl); go_big_quiet_on; simp only [Act.put, List.setIfInBounds_toArray, List.set_cons_zero, List.set_cons_succ]) | (go_big_quiet_want; (apply Exists.intro); refine ⟨fun W hC => ?_, ?_⟩; (unfold Oper.quietAt; go_simp; (with_reducible refine (KV14.out W hC).mono ?_); exact fun e w' h => ⟨h.1, HBR.out _ _ hC h.2⟩); go_big_quiet_on; simp only [Act.put, List.setIfInBounds_toArray, List.set_cons_zero, List.set_cons_succ]) | (go_big_quiet_want; (apply Exists.intro); refine ⟨fun W hC => ?_, ?_⟩; (unfold Oper.quietAt; go_simp; (with_reducible refine (KW14.out W hC).mono ?_); exact fun e w' h => ⟨h.1, HBR.out _ _ hC h.2⟩); go_big_quiet_on; simp only [Act.put, List.setIfInBounds_toArray, List.set_cons_zero, List.set_cons_succ]) | (go_big_quiet_want; (apply Exists.intro); refine ⟨fun W hC => ?_, ?_⟩; (unfold Oper.quietAt; go_simp; (with_reducible refine (KU2.out W).mono ?_); exact fun e w' h => ⟨h.1, HBR.out _ _ hC h.2⟩); go_big_quiet_on; simp only [Act.put, List.setIfInBounds_toArray, List.set_cons_zero, List.set_cons_succ]) | (go_big_quiet_want; (apply Exists.intro); refine ⟨fun W hC => ?_, ?_⟩; (unfold Oper.quietAt; go_simp; (with_reducible refine (KU1.out W).mono ?_); exact fun e w' h => ⟨h.1, HBR.out _ _ hC h.2⟩); go_big_quiet_on; simp only [Act.put, List.setIfInBounds_toArray, List.set_cons_zero, List.set_cons_succ]))
        refine wpQuiet_nil ?_
        intro w14 hC14
        have HB14 := hidb hC14
        clear hC14
        go_wp2
        go_loopw [28, 29, 30, 31, 32] (fun v28 _ _ _ _ wr => ∃ d : Nat, d ≤ nr ∧ v28 = .int .i64 d ∧ Hid (Below wk.heap.size wk wr)) (fun v28 _ _ _ _ _ => (nr - intOf v28).toNat)
        case atStart => exact ⟨0, by omega, rfl, HB14⟩
        case round =>
          obtain ⟨d, hd, rfl, HB⟩ := hrel
          by_cases hlt : d < nr
          · obtain ⟨gb, go, y, rfl, hgl, hy, g0, g1, g2⟩ := (HG9.out wk (Below.refl _ _)).at_ hlt
            obtain ⟨ab, ao, x, rfl, hal, hx, l0, l1, l2⟩ := (HA4.out wk (Below.refl _ _)).at_ hlt
            have hyx : y = shF δ x := by
              rw [List.getElem?_map, hx] at hy
              exact (Option.some.inj hy).symm
            subst hyx
            obtain ⟨⟨fa0, fa1⟩, flk, fpt⟩ := HFAR.out x (List.mem_of_getElem? hx)
            have HPT := hidb fpt
            obtain ⟨np, hnp⟩ : ∃ np, (fPtrs O x.fn).length = np := ⟨_, rfl⟩
            have hnp9 : np ≤ 65536 := by rw [← hnp]; exact HFL.out _
            have HNP := hidb hnp
            obtain ⟨yl, hyl⟩ : ∃ yl, (shF δ x).link = yl := ⟨_, rfl⟩
            have hya : (shF δ x).at_ = x.at_ + δ := rfl
            have hyf : (shF δ x).fn = x.fn := rfl
            rw [hyl] at flk g2
            rw [hya] at g0
            rw [hyf] at g1
            obtain ⟨xa, xf, xl⟩ := x
            simp only at *
            have HXC : Hid (∀ W, Below wk.heap.size wk W → (W.cell? ⟨gb, go + d * 3, none⟩ = some (.int .i64 (xa + δ)) ∧ W.cell? ⟨gb, go + d * 3 + 1, none⟩ = some (.int .i64 xf) ∧ W.cell? ⟨gb, go + d * 3 + 2, none⟩ = some (.int .i64 yl)) ∧ (W.cell? ⟨ab, ao + d * 3, none⟩ = some (.int .i64 xa) ∧ W.cell? ⟨ab, ao + d * 3 + 1, none⟩ = some (.int .i64 xf) ∧ W.cell? ⟨ab, ao + d * 3 + 2, none⟩ = some (.int .i64 xl)) ∧ W.cell? ⟨w.heap.size, 0, none⟩ = some (.int .i64 (b : Int)) ∧ W.cell? ⟨w.heap.size, 1, none⟩ = some (.int .i64 (z : Int)) ∧ W.cell? ⟨w.heap.size, 2, none⟩ = some (.int .i64 sp)) := hidb (fun W hb => by
              have hc : ∀ k v, wk.cell? ⟨gb, k, none⟩ = some v → W.cell? ⟨gb, k, none⟩ = some v := fun k v h => (hb.cell (p := ⟨gb, k, none⟩) hgl).trans h
              have hc2 : ∀ k v, wk.cell? ⟨ab, k, none⟩ = some v → W.cell? ⟨ab, k, none⟩ = some v := fun k v h => (hb.cell (p := ⟨ab, k, none⟩) hal).trans h
              exact ⟨⟨hc _ _ g0, hc _ _ g1, hc _ _ g2⟩, ⟨hc2 _ _ l0, hc2 _ _ l1, hc2 _ _ l2⟩, (HCK.out W hb).1⟩)
            have hi0 : (0 : Int) ≤ (d : Int) := by omega
            have hi1 : (d : Int) < (nr : Int) := by omega
            have hf1 : (xf != xf) = false := by simp
            clear hy hx g0 g1 g2 l0 l1 l2 fpt hnp hya hyf hyl
            rcases flk with hlk | ⟨kl, hlk, hkl, hdl⟩
            · subst hlk
              go_wp2
              refine wp_begin (by kernel_rfl) 29 rfl ?_
              refine wp_tail (C := fun W => Below wk.heap.size wk W) 0 29 _ (by kernel_rfl) rfl (by kernel_rfl) (by kernel_rfl) (belF_dr HB.out) ?_
              simp only [List.drop_zero]
              repeat (first | go_big_quiet_skip | (go_big_quiet_want; (apply Exists.intro); refine ⟨fun W hC => ?_, ?_⟩; (unfold Oper.quietAt; go_simp; done); go_big_quiet_on; simp only [Act.put, List.setIfInBounds_toArray, List.set_cons_zero, List.set_cons_succ]) | (go_big_quiet_want; (apply Exists.intro); refine ⟨fun W hC => ?_, ?_⟩; (unfold Oper.quietAt; go_simp; rfl); go_big_quiet_on; simp only [Act.put, List.setIfInBounds_toArray, List.set_cons_zero, List.set_cons_succ]) | (go_big_quiet_want; (apply Exists.intro); refine ⟨fun W hC => ?_, ?_⟩; (obtain ⟨⟨v0, v1, v2⟩, ⟨v3, v4, v5⟩, v6, v7, v8⟩ := HXC.out W hC; unfold Oper.quietAt; go_simp; done); go_big_quiet_on; simp only [Act.put, List.setIfInBounds_toArray, List.set_cons_zero, List.set_cons_succ]) | (go_big_quiet_want; (apply Exists.intro); refine ⟨fun W hC => ?_, ?_⟩; (obtain ⟨⟨v0, v1, v2⟩, ⟨v3, v4, v5⟩, v6, v7, v8⟩ := HXC.out W hC; unfold Oper.quietAt; go_simp; rfl); go_big_quiet_on; simp only [Act.put, List.setIfInBounds_toArray, List.set_cons_zero, List.set_cons_succ]))
              refine wpQuiet_nil ?_
              intro w19 hC19
              have HB19 := hidb hC19
              clear hC19
              obtain ⟨⟨a0, a1, a2⟩, ⟨b0, b1, b2⟩, c0, c1, c2⟩ := HXC.out w19 HB19.out
              have kp := KPT.out w19 p g _ xf (HST2.out w19 HB19.out)
              unfold OwnInts at kp
              rw [HNP.out] at kp
              go_wp2_with (first
                | (go_at_call 18; (with_reducible refine kp.mono ?_); rintro e w20 ⟨P, kp0, rfl, hown, hb20⟩; have HB20 := hidb (HBR.out _ _ HB19.out hb20); have HP := hidb (Sl.of_own hown); clear hown hb20))
              clear kp a0 a1 a2 b0 b1 b2 c0 c1 c2
              go_loopw [30, 31, 32] (fun v30 _ _ wq => ∃ i : Nat, i ≤ np ∧ v30 = .int .i64 i ∧ Hid (Below w20.heap.size w20 wq)) (fun v30 _ _ _ => (np - intOf v30).toNat)
              case atStart => exact ⟨0, by omega, rfl, hidb (Below.refl _ _)⟩
              case round =>
                obtain ⟨i, hi, rfl, HQ⟩ := hrel
                by_cases hlti : i < np
                · obtain ⟨pb, po, u0, rfl, hpl, hu0, hcu⟩ := HP.out.at_ hlti
                  rw [List.getElem?_map] at hu0
                  obtain ⟨zi, hzi, rfl⟩ := Option.map_eq_some_iff.1 hu0
                  unfold iv at hcu
                  obtain ⟨⟨zr0, zr1⟩, ka, ua, hka, hua, hu64, hcase⟩ := HPT.out zi (List.mem_of_getElem? hzi)
                  have HPC : Hid (∀ W, Below w20.heap.size w20 W → W.cell? ⟨pb, po + i, none⟩ = some (.int .i64 zi)) := hidb (fun W hb => (hb.cell (p := ⟨pb, po + i, none⟩) hpl).trans hcu)
                  have HBR20 : Hid (∀ W1 W2, Below w20.heap.size w20 W1 → Below W1.heap.size W1 W2 → Below w20.heap.size w20 W2) := hidb (fun W1 W2 h1 h2 => belF_tr h1 h2)
                  have HXD : Hid (∀ W, Below w20.heap.size w20 W → (W.cell? ⟨gb, go + d * 3, none⟩ = some (.int .i64 (xa + δ)) ∧ W.cell? ⟨gb, go + d * 3 + 1, none⟩ = some (.int .i64 xf) ∧ W.cell? ⟨gb, go + d * 3 + 2, none⟩ = some (.int .i64 (-1))) ∧ (W.cell? ⟨w.heap.size, 0, none⟩ = some (.int .i64 (b : Int)) ∧ W.cell? ⟨w.heap.size, 1, none⟩ = some (.int .i64 (z : Int)) ∧ W.cell? ⟨w.heap.size, 2, none⟩ = some (.int .i64 sp)) ∧ W.cell? ⟨pb, po + i, none⟩ = some (.int .i64 zi)) := hidb (fun W hb => by
                    have h := HXC.out W (HBR.out _ _ HB20.out hb)
                    exact ⟨h.1, h.2.2, HPC.out W hb⟩)
                  have KSL : Hid (∀ W, Calls Tryd.prog 20 #[.agg #[.int .i64 (xa + δ), .int .i64 xf, .int .i64 (-1)], .int .i64 zi] W fun e w' => e = .returned (.int .i64 (ka : Int)) ∧ Below W.heap.size W w') := hidb (fun W => by
                    have := c_slot17 ⟨xa + δ, xf, (-1)⟩ zi (by simp only; omega) (by omega) W
                    simp only at this
                    rw [hka] at this
                    exact this)
                  have KLA : Hid (∀ W, Below w20.heap.size w20 W → Calls Tryd.prog 19 #[.pointer (some ⟨p, 0, none⟩), .int .i64 (ka : Int)] W fun e w' => e = .returned (.tuple #[.int .u64 (ua : Int), .int .i64 0]) ∧ Below W.heap.size W w') := hidb (fun W hb => KLD.out W p g _ ka ua (HST2.out W (HBR.out _ _ HB20.out hb)) hua)
                  have hj0 : (0 : Int) ≤ (i : Int) := by omega
                  have hj1 : (i : Int) < (np : Int) := by omega
                  have HHC := hidb hcase
                  have HU6 := hidb hu64
                  clear hu0 hzi hcu hka hua zr0 zr1 hcase hu64
                  go_wp2
                  refine wp_begin (by kernel_rfl) 16 rfl ?_
                  refine wp_tail (C := fun W => Below w20.heap.size w20 W) 0 16 _ (by kernel_rfl) rfl (by kernel_rfl) (by kernel_rfl) (belF_dr HQ.out) ?_
                  simp only [List.drop_zero]
                  repeat (first | go_big_quiet_skip | (go_big_quiet_want; (apply Exists.intro); refine ⟨fun W hC => ?_, ?_⟩; (unfold Oper.quietAt; go_simp; done); go_big_quiet_on; simp only [Act.put, List.setIfInBounds_toArray, List.set_cons_zero, List.set_cons_succ]) | (go_big_quiet_want; (apply Exists.intro); refine ⟨fun W hC => ?_, ?_⟩; (unfold Oper.quietAt; go_simp; rfl); go_big_quiet_on; simp only [Act.put, List.setIfInBounds_toArray, List.set_cons_zero, List.set_cons_succ]) | (go_big_quiet_want; (apply Exists.intro); refine ⟨fun W hC => ?_, ?_⟩; (obtain ⟨⟨v0, v1, v2⟩, ⟨v3, v4, v5⟩, v6⟩ := HXD.out W hC; unfold Oper.quietAt; go_simp; done); go_big_quiet_on; simp only [Act.put, List.setIfInBounds_toArray, List.set_cons_zero, List.set_cons_succ]) | (go_big_quiet_want; (apply Exists.intro); refine ⟨fun W hC => ?_, ?_⟩; (obtain ⟨⟨v0, v1, v2⟩, ⟨v3, v4, v5⟩, v6⟩ := HXD.out W hC; unfold Oper.quietAt; go_simp; rfl); go_big_quiet_on; simp only [Act.put, List.setIfInBounds_toArray, List.set_cons_zero, List.set_cons_succ]) | (go_big_quiet_want; (apply Exists.intro); refine ⟨fun W hC => ?_, ?_⟩; (unfold Oper.quietAt; go_simp; (with_reducible refine (KSL.out W).mono ?_); exact fun e w' h => ⟨h.1, HBR20.out _ _ hC h.2⟩); go_big_quiet_on; simp only [Act.put, List.setIfInBounds_toArray, List.set_cons_zero, List.set_cons_succ]) | (go_big_quiet_want; (apply Exists.intro); refine ⟨fun W hC => ?_, ?_⟩; (unfold Oper.quietAt; go_simp; (with_reducible refine (KLA.out W hC).mono ?_); exact fun e w' h => ⟨h.1, HBR20.out _ _ hC h.2⟩); go_big_quiet_on; simp only [Act.put, List.setIfInBounds_toArray, List.set_cons_zero, List.set_cons_succ]))
                  refine wpQuiet_nil ?_
                  intro w25 hC25
                  have HB25 := hidb hC25
                  clear hC25
                  obtain ⟨-, ⟨c3, c4, c5⟩, -⟩ := HXD.out w25 HB25.out
                  rcases HHC.out with hz0 | ⟨hz0, hz1⟩
                  · have hb0 : ((ua : Int) != 0) = false := by simp [hz0]
                    clear hz0
                    go_wp2
                    go_roundw
                    case rel => exact ⟨i + 1, by omega, by go_num, HB25⟩
                    case measure => simp [intOf]; omega
                  · have hb0 : ((ua : Int) != 0) = true := by simp [hz0]
                    have ki := KIN.out w25 ua HU6.out hz1
                    clear hz0 hz1
                    go_wp2_with (first
                      | (go_at_call 17; (with_reducible refine ki.mono ?_); rintro e w26 ⟨rfl, hb26⟩; have HB26 := hidb (HBR20.out _ _ HB25.out hb26); clear hb26))
                    go_roundw
                    case rel => exact ⟨i + 1, by omega, by go_num, HB26⟩
                    case measure => simp [intOf]; omega
                · obtain rfl : i = np := by omega
                  have HBQ := hidb (HBR.out _ _ HB20.out HQ.out)
                  go_wp2
                  go_roundw
                  case rel => exact ⟨d + 1, by omega, by go_num, HBQ⟩
                  case measure => simp [intOf]; omega
            · subst hlk
              have hw6 := HU64.out kl hkl
              have HW6 := hidb hw6
              clear hw6
              have KIK : Hid (∀ W, Calls Tryd.prog 17 #[.agg #[.int .i64 (b : Int), .int .i64 (z : Int), .int .i64 sp], .int .u64 (kl : Int)] W fun e w' => e = .returned (.bool false) ∧ Below W.heap.size W w') := hidb (fun W => KIN.out W kl (by omega) hdl)
              have hk0 : decide ((0 : Int) ≤ (kl : Int)) = true := decide_eq_true (by omega)
              clear hdl
              go_wp2
              refine wp_begin (by kernel_rfl) 29 rfl ?_
              refine wp_tail (C := fun W => Below wk.heap.size wk W) 0 29 _ (by kernel_rfl) rfl (by kernel_rfl) (by kernel_rfl) (belF_dr HB.out) ?_
              simp only [List.drop_zero]
              repeat (first | go_big_quiet_skip | (go_big_quiet_want; (apply Exists.intro); refine ⟨fun W hC => ?_, ?_⟩; (unfold Oper.quietAt; go_simp; done); go_big_quiet_on; simp only [Act.put, List.setIfInBounds_toArray, List.set_cons_zero, List.set_cons_succ]) | (go_big_quiet_want; (apply Exists.intro); refine ⟨fun W hC => ?_, ?_⟩; (unfold Oper.quietAt; go_simp; rfl); go_big_quiet_on; simp only [Act.put, List.setIfInBounds_toArray, List.set_cons_zero, List.set_cons_succ]) | (go_big_quiet_want; (apply Exists.intro); refine ⟨fun W hC => ?_, ?_⟩; (obtain ⟨⟨v0, v1, v2⟩, ⟨v3, v4, v5⟩, v6, v7, v8⟩ := HXC.out W hC; unfold Oper.quietAt; go_simp; done); go_big_quiet_on; simp only [Act.put, List.setIfInBounds_toArray, List.set_cons_zero, List.set_cons_succ]) | (go_big_quiet_want; (apply Exists.intro); refine ⟨fun W hC => ?_, ?_⟩; (obtain ⟨⟨v0, v1, v2⟩, ⟨v3, v4, v5⟩, v6, v7, v8⟩ := HXC.out W hC; unfold Oper.quietAt; go_simp; rfl); go_big_quiet_on; simp only [Act.put, List.setIfInBounds_toArray, List.set_cons_zero, List.set_cons_succ]) | (go_big_quiet_want; (apply Exists.intro); refine ⟨fun W hC => ?_, ?_⟩; (unfold Oper.quietAt; go_simp; (with_reducible refine (KIK.out W).mono ?_); exact fun e w' h => ⟨h.1, HBR.out _ _ hC h.2⟩); go_big_quiet_on; simp only [Act.put, List.setIfInBounds_toArray, List.set_cons_zero, List.set_cons_succ]) | (go_big_quiet_want; (apply Exists.intro); refine ⟨fun W hC => ?_, ?_⟩; (unfold Oper.quietAt; go_simp; (rw [HW6.out]); (with_reducible refine (KIK.out W).mono ?_); exact fun e w' h => ⟨h.1, HBR.out _ _ hC h.2⟩); go_big_quiet_on; simp only [Act.put, List.setIfInBounds_toArray, List.set_cons_zero, List.set_cons_succ]))
              refine wpQuiet_nil ?_
              intro w19 hC19
              have HB19 := hidb hC19
              clear hC19
              obtain ⟨⟨a0, a1, a2⟩, ⟨b0, b1, b2⟩, c0, c1, c2⟩ := HXC.out w19 HB19.out
              have kp := KPT.out w19 p g _ xf (HST2.out w19 HB19.out)
              unfold OwnInts at kp
              rw [HNP.out] at kp
              go_wp2_with (first
                | (go_at_call 18; (with_reducible refine kp.mono ?_); rintro e w20 ⟨P, kp0, rfl, hown, hb20⟩; have HB20 := hidb (HBR.out _ _ HB19.out hb20); have HP := hidb (Sl.of_own hown); clear hown hb20))
              clear kp a0 a1 a2 b0 b1 b2 c0 c1 c2
              go_loopw [30, 31, 32] (fun v30 _ _ wq => ∃ i : Nat, i ≤ np ∧ v30 = .int .i64 i ∧ Hid (Below w20.heap.size w20 wq)) (fun v30 _ _ _ => (np - intOf v30).toNat)
              case atStart => exact ⟨0, by omega, rfl, hidb (Below.refl _ _)⟩
              case round =>
                obtain ⟨i, hi, rfl, HQ⟩ := hrel
                by_cases hlti : i < np
                · obtain ⟨pb, po, u0, rfl, hpl, hu0, hcu⟩ := HP.out.at_ hlti
                  rw [List.getElem?_map] at hu0
                  obtain ⟨zi, hzi, rfl⟩ := Option.map_eq_some_iff.1 hu0
                  unfold iv at hcu
                  obtain ⟨⟨zr0, zr1⟩, ka, ua, hka, hua, hu64, hcase⟩ := HPT.out zi (List.mem_of_getElem? hzi)
                  have HPC : Hid (∀ W, Below w20.heap.size w20 W → W.cell? ⟨pb, po + i, none⟩ = some (.int .i64 zi)) := hidb (fun W hb => (hb.cell (p := ⟨pb, po + i, none⟩) hpl).trans hcu)
                  have HBR20 : Hid (∀ W1 W2, Below w20.heap.size w20 W1 → Below W1.heap.size W1 W2 → Below w20.heap.size w20 W2) := hidb (fun W1 W2 h1 h2 => belF_tr h1 h2)
                  have HXD : Hid (∀ W, Below w20.heap.size w20 W → (W.cell? ⟨gb, go + d * 3, none⟩ = some (.int .i64 (xa + δ)) ∧ W.cell? ⟨gb, go + d * 3 + 1, none⟩ = some (.int .i64 xf) ∧ W.cell? ⟨gb, go + d * 3 + 2, none⟩ = some (.int .i64 (kl : Int))) ∧ (W.cell? ⟨w.heap.size, 0, none⟩ = some (.int .i64 (b : Int)) ∧ W.cell? ⟨w.heap.size, 1, none⟩ = some (.int .i64 (z : Int)) ∧ W.cell? ⟨w.heap.size, 2, none⟩ = some (.int .i64 sp)) ∧ W.cell? ⟨pb, po + i, none⟩ = some (.int .i64 zi)) := hidb (fun W hb => by
                    have h := HXC.out W (HBR.out _ _ HB20.out hb)
                    exact ⟨h.1, h.2.2, HPC.out W hb⟩)
                  have KSL : Hid (∀ W, Calls Tryd.prog 20 #[.agg #[.int .i64 (xa + δ), .int .i64 xf, .int .i64 (kl : Int)], .int .i64 zi] W fun e w' => e = .returned (.int .i64 (ka : Int)) ∧ Below W.heap.size W w') := hidb (fun W => by
                    have := c_slot17 ⟨xa + δ, xf, (kl : Int)⟩ zi (by simp only; omega) (by omega) W
                    simp only at this
                    rw [hka] at this
                    exact this)
                  have KLA : Hid (∀ W, Below w20.heap.size w20 W → Calls Tryd.prog 19 #[.pointer (some ⟨p, 0, none⟩), .int .i64 (ka : Int)] W fun e w' => e = .returned (.tuple #[.int .u64 (ua : Int), .int .i64 0]) ∧ Below W.heap.size W w') := hidb (fun W hb => KLD.out W p g _ ka ua (HST2.out W (HBR.out _ _ HB20.out hb)) hua)
                  have hj0 : (0 : Int) ≤ (i : Int) := by omega
                  have hj1 : (i : Int) < (np : Int) := by omega
                  have HHC := hidb hcase
                  have HU6 := hidb hu64
                  clear hu0 hzi hcu hka hua zr0 zr1 hcase hu64
                  go_wp2
                  refine wp_begin (by kernel_rfl) 16 rfl ?_
                  refine wp_tail (C := fun W => Below w20.heap.size w20 W) 0 16 _ (by kernel_rfl) rfl (by kernel_rfl) (by kernel_rfl) (belF_dr HQ.out) ?_
                  simp only [List.drop_zero]
                  repeat (first | go_big_quiet_skip | (go_big_quiet_want; (apply Exists.intro); refine ⟨fun W hC => ?_, ?_⟩; (unfold Oper.quietAt; go_simp; done); go_big_quiet_on; simp only [Act.put, List.setIfInBounds_toArray, List.set_cons_zero, List.set_cons_succ]) | (go_big_quiet_want; (apply Exists.intro); refine ⟨fun W hC => ?_, ?_⟩; (unfold Oper.quietAt; go_simp; rfl); go_big_quiet_on; simp only [Act.put, List.setIfInBounds_toArray, List.set_cons_zero, List.set_cons_succ]) | (go_big_quiet_want; (apply Exists.intro); refine ⟨fun W hC => ?_, ?_⟩; (obtain ⟨⟨v0, v1, v2⟩, ⟨v3, v4, v5⟩, v6⟩ := HXD.out W hC; unfold Oper.quietAt; go_simp; done); go_big_quiet_on; simp only [Act.put, List.setIfInBounds_toArray, List.set_cons_zero, List.set_cons_succ]) | (go_big_quiet_want; (apply Exists.intro); refine ⟨fun W hC => ?_, ?_⟩; (obtain ⟨⟨v0, v1, v2⟩, ⟨v3, v4, v5⟩, v6⟩ := HXD.out W hC; unfold Oper.quietAt; go_simp; rfl); go_big_quiet_on; simp only [Act.put, List.setIfInBounds_toArray, List.set_cons_zero, List.set_cons_succ]) | (go_big_quiet_want; (apply Exists.intro); refine ⟨fun W hC => ?_, ?_⟩; (unfold Oper.quietAt; go_simp; (with_reducible refine (KSL.out W).mono ?_); exact fun e w' h => ⟨h.1, HBR20.out _ _ hC h.2⟩); go_big_quiet_on; simp only [Act.put, List.setIfInBounds_toArray, List.set_cons_zero, List.set_cons_succ]) | (go_big_quiet_want; (apply Exists.intro); refine ⟨fun W hC => ?_, ?_⟩; (unfold Oper.quietAt; go_simp; (with_reducible refine (KLA.out W hC).mono ?_); exact fun e w' h => ⟨h.1, HBR20.out _ _ hC h.2⟩); go_big_quiet_on; simp only [Act.put, List.setIfInBounds_toArray, List.set_cons_zero, List.set_cons_succ]))
                  refine wpQuiet_nil ?_
                  intro w25 hC25
                  have HB25 := hidb hC25
                  clear hC25
                  obtain ⟨-, ⟨c3, c4, c5⟩, -⟩ := HXD.out w25 HB25.out
                  rcases HHC.out with hz0 | ⟨hz0, hz1⟩
                  · have hb0 : ((ua : Int) != 0) = false := by simp [hz0]
                    clear hz0
                    go_wp2
                    go_roundw
                    case rel => exact ⟨i + 1, by omega, by go_num, HB25⟩
                    case measure => simp [intOf]; omega
                  · have hb0 : ((ua : Int) != 0) = true := by simp [hz0]
                    have ki := KIN.out w25 ua HU6.out hz1
                    clear hz0 hz1
                    go_wp2_with (first
                      | (go_at_call 17; (with_reducible refine ki.mono ?_); rintro e w26 ⟨rfl, hb26⟩; have HB26 := hidb (HBR20.out _ _ HB25.out hb26); clear hb26))
                    go_roundw
                    case rel => exact ⟨i + 1, by omega, by go_num, HB26⟩
                    case measure => simp [intOf]; omega
                · obtain rfl : i = np := by omega
                  have HBQ := hidb (HBR.out _ _ HB20.out HQ.out)
                  go_wp2
                  go_roundw
                  case rel => exact ⟨d + 1, by omega, by go_num, HBQ⟩
                  case measure => simp [intOf]; omega
          · obtain rfl : d = nr := by omega
            have HX9 : Hid (Below X.heap.size X wr) := hidb (HBE.out _ HB.out)
            go_wp2_with (first
              | (go_at_call 8; (with_reducible refine (KA _ HX9).mono ?_); rintro e w30 ⟨rfl, hs30⟩))
            go_ret
            exact ⟨rfl, belF_tr HBX.out hs30.out⟩
      · have hnb0 : (no != 0) = true := by simpa using hno
        have hst := mvTo_st0 HSZ2.out (by omega) hr1 hno
        subst hst
        have KR : Hid (∀ W p g tp A C zs, Hid ((AT X W p g 256 xs tp O ∧ FrRow W W.heap.size A nl L) ∧ VvRow W W.heap.size C nr zs) → Calls Tryd.prog 12 #[.pointer (some ⟨p, 0, none⟩), .int .i64 s.lo, .int .i64 s.size] W fun e w' => ∃ D m k us' n9, e = .returned (.tuple #[.slice D m k, .int .i64 n9]) ∧ Hid (K17 X p g xs tp O A nl L C nr zs D m k us' w')) := hidb (fun W p g tp A C zs st => by
          refine (t_row_any st.out.1.1 s.lo s.size h0 h1).mono ?_
          rintro e w' ⟨D, m, k, us', n9, rfl, _, q1, q2⟩
          exact ⟨D, m, k, us', n9, rfl, hidb ⟨⟨q1, st.out.1.2.step q2⟩, st.out.2.step q2⟩⟩)
        obtain ⟨sl, ss, sp⟩ := s
        have heq := fun W => eql_stack 0 0 0 W
        unfold stC st0 at KT
        unfold stC at KF
        simp only at *
        clear hs hr hrX hX hbX hzX hbig ht hT hy hG hu hul hfl hxs h0 h1 h2 h3 h4 hsz hm2 hm hr1 hno hO hwf hLf hsa hnl hnr
        --@6
        go_enter Tryd.func3, Tryd.ntmps3
        go_wp2_with (first
          | (go_at_call 6; rw [← HXX.out]; (with_reducible refine kn.mono ?_); rintro e w1 ⟨tb, rfl, hs1⟩; have hw1 := hidb hs1.out.1)
          | (go_at_call 7; (with_reducible refine (cg _ hw1.out).mono ?_); rintro e w' ⟨rfl, rfl⟩)
          | (go_at_call 9; (with_reducible refine (KL.out _ _ _ hs1).mono ?_); rintro e w3 ⟨p, g, rfl, hs3⟩; obtain ⟨c0, c1, c2⟩ := HC.out w3 hs3.out.bel)
          | (go_at_call 10; (with_reducible refine (KF.out _ _ _ _ hs3).mono ?_); rintro e w4 ⟨A4, k4, rfl, hs4⟩; obtain ⟨c3, c4, c5⟩ := HC.out w4 (HBA.out _ _ _ _ _ hs4))
          | (go_at_call 11; (with_reducible refine (KV.out _ _ _ _ _ _ hs4).mono ?_); rintro e w5 ⟨C5, k5, zs5, rfl, _, hs5⟩; obtain ⟨c6, c7, c8⟩ := HC.out w5 (HBV.out _ _ _ _ _ _ hs5))
          | (go_at_call 12; (with_reducible refine (KR.out _ _ _ _ _ _ _ hs5).mono ?_); rintro e w6 ⟨D6, m6, k6, us6, n6, rfl, hs6⟩; obtain ⟨d0, d1, d2⟩ := HC.out w6 (HBL.out _ _ _ _ _ _ _ _ _ _ _ _ hs6.out))
          | (go_at_call 13; (with_reducible refine (KT.out _ _ _ _ _ _ _ _ _ _ _ hs6).mono ?_); rintro e w7 ⟨rfl, hs7, hg7⟩; have hw7 := hidb (HBL.out _ _ _ _ _ _ _ _ _ _ _ _ (HAL.out _ _ _ _ _ _ _ _ _ _ _ _ (.int .i64 0) (.int .i64 0) (.int .i64 0) hs7.out)))
          | (go_at_call 8; (with_reducible refine (KA _ hw7).mono ?_); rintro e w8 ⟨rfl, hs8⟩))
        go_ret
        exact ⟨rfl, belF_tr HBX.out hs8.out⟩
end Go.Proofs.YtlniakcoikhilaaDoor
