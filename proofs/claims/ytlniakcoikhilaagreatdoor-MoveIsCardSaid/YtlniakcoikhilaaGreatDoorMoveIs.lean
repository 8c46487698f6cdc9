/- Layer 17's statement MoveIs. -/
import Derived.Test.YtlniakcoikhilaaGreatDoorMovLaws
import Derived.Test.YtlniakcoikhilaaGreatDoorMovTo
import Derived.Test.YtlniakcoikhilaaGreatDoorWlkTop0
import Derived.Test.YtlniakcoikhilaaGreatDoorArenaRef
namespace Go.Proofs.YtlniakcoikhilaaGreatDoor
open Go.RowKit Go.ChangeShapes Go.WideShapes
set_option linter.unusedVariables false

theorem slGet_owns {l : Fns} (ha : fAll l = true) (xs : List Nat) (L : List FrV) (d i : Int) : slGet xs (fOwns l) L d i = slGet xs l L d i := by
  unfold slGet; rw [slAddr_owns, fPtr_owns ha, slFind_owns]
theorem slAllAux_owns {l : Fns} (ha : fAll l = true) (xs : List Nat) (L : List FrV) : ∀ (q : List FrV) (d : Nat) (acc : List (List VlV)), slAllAux xs (fOwns l) L d q acc = slAllAux xs l L d q acc
  | [], d, acc => rfl
  | x :: r, d, acc => by
    have h1 : ∀ k, slErr xs (fOwns l) L d k = slErr xs l L d k := fun k => by unfold slErr; simp only [slGet_owns ha]
    have h2 : ∀ k, slRow xs (fOwns l) L d k = slRow xs l L d k := fun k => by unfold slRow; simp only [slGet_owns ha]
    unfold slAllAux
    rw [h1, h2, slSize_owns, slAllAux_owns ha xs L r (d + 1)]
theorem frPush_owns (xs : List Nat) (l : Fns) (lo sp f link : Int) : frPush xs (fOwns l) lo sp f link = frPush xs l lo sp f link := by
  unfold frPush; simp only [fWords_owns]
theorem layGo_owns (l : Fns) (lo : Int) : ∀ (fs : List Int) (xs : List Nat) (sp link : Int), layGo (fOwns l) lo fs xs sp link = layGo l lo fs xs sp link
  | [], xs, sp, link => rfl
  | f :: r, xs, sp, link => by unfold layGo; rw [frPush_owns, layGo_owns l lo r]
theorem slPut_owns {l : Fns} (ha : fAll l = true) (xs : List Nat) (L : List FrV) (d i : Int) (v : VlV) : slPut xs (fOwns l) L d i v = slPut xs l L d i v := by
  unfold slPut; simp only [slAddr_owns, fPtr_owns ha]
theorem mvRow_owns {l : Fns} (ha : fAll l = true) (L : List FrV) (d : Nat) : ∀ (vs : List VlV) (i : Nat) (xs : List Nat), mvRow (fOwns l) L d i vs xs = mvRow l L d i vs xs
  | [], _, _ => rfl
  | v :: r, i, xs => by unfold mvRow; rw [slPut_owns ha, mvRow_owns ha L d r]
theorem mvRows_owns {l : Fns} (ha : fAll l = true) (L : List FrV) : ∀ (R : List (List VlV)) (d : Nat) (xs : List Nat), mvRows (fOwns l) L d R xs = mvRows l L d R xs
  | [], _, _ => rfl
  | r :: q, d, xs => by unfold mvRows; rw [mvRow_owns ha, mvRows_owns ha L q]
theorem mvTo_owns {l : Fns} (ha : fAll l = true) (xs : List Nat) (s : StV) (lo size : Int) : mvTo xs (fOwns l) s lo size = mvTo xs l s lo size := by
  unfold mvTo slAll
  simp only [wkFrames_owns, slAllAux_owns ha, layGo_owns, mvRows_owns ha]
/-- A row of words that lies in the arena itself, or not, is behind a move what it was. -/
theorem sl_after {W W' : World} {B p g : Nat} {D : Option Addr} {xs ys : List Nat} (h : Sl W W.heap.size D 256 (ys.map wv)) (ha : Ar W B p g 256 xs) (ha2 : Ar W' B p g 256 ys) (hg : W.grownBy W' (some g)) : Sl W' W'.heap.size D 256 (ys.map wv) := by
  refine ⟨h.1, fun h0 => ?_⟩
  obtain ⟨b, off, e, hb, hc⟩ := h.2 h0
  refine ⟨b, off, e, Nat.lt_of_lt_of_le hb hg.size, fun j hj => ?_⟩
  by_cases hne : b = g
  · subst hne
    have hyl : (ys.map wv).length = 256 := h.1
    have h1 := hc 255 (by omega)
    rw [ha.word] at h1
    have h2 : off + 255 < (xs.map wv).length := by
      refine Decidable.byContradiction fun c => ?_
      have h3 : (ys.map wv)[255]? = some ((ys.map wv)[255]'(by omega)) := List.getElem?_eq_getElem _
      rw [List.getElem?_eq_none (by omega), h3] at h1
      cases h1
    rw [List.length_map, ha.hlen] at h2
    obtain rfl : off = 0 := by omega
    rw [ha2.word, Nat.zero_add]
  · rw [← hc j hj]
    exact World.cell?_of_block (hg.block b hb (fun e => hne (by injection e)))

set_option maxRecDepth 100000 in
set_option maxHeartbeats 8000000 in
theorem moveIs_any (A : Option Addr) (n c : Nat) (us : List Nat) (A2 : Option Addr) (n2 c2 : Nat) (ys : List FnV) (s : StV) (lo size : Int) (w : World) (hs : Sl w w.heap.size A n (us.map wv)) (hu : Wd us) (hm : n ≤ maxLen) (hr : FnRow w 0 w.heap.size A2 n2 ys) (hy : ∀ y ∈ ys, y.n ≤ 17592186044416) (hm2 : n2 ≤ maxLen) (h0 : in64 s.lo) (h1 : in64 s.size) (h2 : in64 s.sp) (h3 : in64 lo) (h4 : in64 size) (ht : TabDB w) :
    Calls Tryz.prog 3 #[.slice A n c, .slice A2 n2 c2, .agg #[.int .i64 s.lo, .int .i64 s.size, .int .i64 s.sp], .int .i64 lo, .int .i64 size] w fun e w' => e = .returned (.bool true) ∧ Below w.heap.size w w' := by
  unfold maxLen at hm hm2
  obtain ⟨X, hX⟩ : ∃ X, X = w.alloc (.cells #[.int .i64 s.lo, .int .i64 s.size, .int .i64 s.sp] 25) := ⟨_, rfl⟩
  have hbX : Below w.heap.size w X := by rw [hX]; exact belF_al (Below.refl _ _) _
  have hzX : X.heap.size = w.heap.size + 1 := by rw [hX]; simp
  have HBX := hidb hbX
  have HC : Hid (∀ W, Below X.heap.size X W → W.cell? ⟨w.heap.size, 0, none⟩ = some (.int .i64 s.lo) ∧ W.cell? ⟨w.heap.size, 1, none⟩ = some (.int .i64 s.size) ∧ W.cell? ⟨w.heap.size, 2, none⟩ = some (.int .i64 s.sp)) := hidb (fun W hb => by refine ⟨?_, ?_, ?_⟩ <;> (rw [hb.cell (by show w.heap.size < _; omega), hX]; simp))
  have hrX : FnRow X 0 X.heap.size A2 n2 ys := (hr.below hbX).more (Nat.le_refl _) hbX.size
  have HRX := hidb hrX
  have CG : Hid (∀ W b, fGreat (vals ys) = b → Below X.heap.size X W → Calls Tryz.prog 5 #[.slice A2 n2 c2] W fun e w' => e = .returned (.bool b) ∧ W = w') := hidb (fun W b hb hbw => by rw [← hb]; exact ref_fgreat A2 n2 c2 ys 0 W.heap.size W ((HRX.out.below hbw).more (Nat.le_refl _) hbw.size) (by omega))
  have HT := hidb (TabDB.below ht hbX)
  have KA := fun W (s : Hid (Below X.heap.size X W)) => (awake17 W).mono fun e w' h => (⟨h.1, hidb (belF_tr s.out h.2)⟩ : e = _ ∧ Hid (Below X.heap.size X w'))
  have HXX := hidb hX
  cases hT : fTab (vals ys) with
  | false =>
    have kn := t_new_no (c2 := c2) hrX hy (by omega) hT
    by_cases hbig : 256 < n
    · have hb : (256 : Int) < (n : Int) := by omega
      clear hs hr hrX hX hbX hzX hbig ht hT hy
      --@1
      go_enter Tryz.func3, Tryz.ntmps3
      go_wp2_with (first
        | (go_at_call 4; rw [← HXX.out]; (with_reducible refine kn.mono ?_); rintro e w1 ⟨rfl, hs1⟩)
        | (go_at_call 6; (with_reducible refine (KA _ hs1).mono ?_); rintro e w2 ⟨rfl, hs2⟩))
      go_ret
      exact ⟨rfl, belF_tr HBX.out hs2.out⟩
    · have hnb : ¬ ((256 : Int) < (n : Int)) := by omega
      obtain ⟨b, hbg⟩ : ∃ b, fGreat (vals ys) = b := ⟨_, rfl⟩
      have cg := fun W h => CG.out W b hbg h
      clear hs hr hrX hX hbX hzX hbig ht hT hy hbg
      cases b with
      | true =>
        --@2
        go_enter Tryz.func3, Tryz.ntmps3
        go_wp2_with (first
          | (go_at_call 4; rw [← HXX.out]; (with_reducible refine kn.mono ?_); rintro e w1 ⟨rfl, hs1⟩)
          | (go_at_call 5; (with_reducible refine (cg _ hs1.out).mono ?_); rintro e w' ⟨rfl, rfl⟩)
          | (go_at_call 6; (with_reducible refine (KA _ hs1).mono ?_); rintro e w2 ⟨rfl, hs2⟩))
        go_ret
        exact ⟨rfl, belF_tr HBX.out hs2.out⟩
      | false =>
        --@3
        go_enter Tryz.func3, Tryz.ntmps3
        go_wp2_with (first
          | (go_at_call 4; rw [← HXX.out]; (with_reducible refine kn.mono ?_); rintro e w1 ⟨rfl, hs1⟩)
          | (go_at_call 5; (with_reducible refine (cg _ hs1.out).mono ?_); rintro e w' ⟨rfl, rfl⟩)
          | (go_at_call 6; (with_reducible refine (KA _ hs1).mono ?_); rintro e w2 ⟨rfl, hs2⟩))
        go_ret
        exact ⟨rfl, belF_tr HBX.out hs2.out⟩
  | true =>
    have kn := t_new_yes (c2 := c2) hrX hy HT.out hT
    have hsz := fTab_sizes hT
    have HSZ := hidb hsz
    have HSZ2 := hidb (fOwns_sizes hsz)
    by_cases hbig : 256 < n
    · have hb : (256 : Int) < (n : Int) := by omega
      clear hs hr hrX hX hbX hzX hbig ht hT hy
      --@4
      go_enter Tryz.func3, Tryz.ntmps3
      go_wp2_with (first
        | (go_at_call 4; rw [← HXX.out]; (with_reducible refine kn.mono ?_); rintro e w1 ⟨tb, rfl, hs1⟩; have hw1 := hidb hs1.out.1)
        | (go_at_call 6; (with_reducible refine (KA _ hw1).mono ?_); rintro e w2 ⟨rfl, hs2⟩))
      go_ret
      exact ⟨rfl, belF_tr HBX.out hs2.out⟩
    have hnb : ¬ ((256 : Int) < (n : Int)) := by omega
    have hn : n ≤ 256 := by omega
    cases hG : fGreat (vals ys) with
    | true =>
      have cg := fun W h => CG.out W true hG h
      clear hs hr hrX hX hbX hzX hbig ht hT hy hG
      --@5
      go_enter Tryz.func3, Tryz.ntmps3
      go_wp2_with (first
        | (go_at_call 4; rw [← HXX.out]; (with_reducible refine kn.mono ?_); rintro e w1 ⟨tb, rfl, hs1⟩; have hw1 := hidb hs1.out.1)
        | (go_at_call 5; (with_reducible refine (cg _ hw1.out).mono ?_); rintro e w' ⟨rfl, rfl⟩)
        | (go_at_call 6; (with_reducible refine (KA _ hw1).mono ?_); rintro e w2 ⟨rfl, hs2⟩))
      go_ret
      exact ⟨rfl, belF_tr HBX.out hs2.out⟩
    | false =>
      have cg := fun W h => CG.out W false hG h
      have h120 : n2 ≤ 100 := by unfold fTab at hT; rw [Bool.and_eq_true, decide_eq_true_iff, vals_length, hr.len] at hT; omega
      have HU : Hid (Wd (frLaid us)) := hidb (frLaid_wd hu)
      have hul : us.length = n := by have := hs.1; simpa using this
      have hfl : (frLaid us).length = 256 := frLaid_length us (by omega)
      have HS := hidb ((hs.below hbX).more hbX.size)
      generalize hxs : frLaid us = xs at *
      have HXL := hidb hfl
      have KL : Hid (∀ W tp O, Hid (S13 X W tp O) → Calls Tryz.prog 7 #[.slice A n c] W fun e w' => ∃ p g, e = .returned (.pointer (some ⟨p, 0, none⟩)) ∧ Hid (AT X w' p g 256 xs tp O)) := hidb (fun W tp O st => by
        refine (t_laid17 (W := W) (c := c) ((HS.out.below st.out.1).more st.out.1.size) hn).mono ?_
        rintro e w' ⟨p, g, rfl, h2, h3⟩
        rw [hxs] at h2
        exact ⟨p, g, rfl, hidb (AT.made2 st.out h2 h3)⟩)
      obtain ⟨i0, hi, hz0, hz1, hz2⟩ := info_parts info_u64
      have hall : fAll (vals ys) = true := by
        unfold fTab at hT
        exact (Bool.and_eq_true_iff.1 hT).1
      obtain ⟨r1, hr1⟩ : ∃ r, mvTo xs (vals ys) s lo size = r := ⟨_, rfl⟩
      obtain ⟨ys1, s1, no⟩ := r1
      have hr2 : mvTo xs (fOwns (vals ys)) s lo size = (ys1, s1, no) := (mvTo_owns hall xs s lo size).trans hr1
      have h1000 : ∀ x ∈ vals ys, 0 ≤ x.1 ∧ x.1 ≤ 1000 := hsz
      generalize hO : fOwns (vals ys) = O at *
      have KST : Hid (∀ W p g tp B cB, Hid (AT X W p g 256 xs tp O) → Hid (Sl W W.heap.size B 256 (frZ.map wv)) → Calls Tryz.prog 8 #[.slice B 256 cB, .int .i64 0, .slice A n c] W fun e w' => ∃ D d, e = .returned (.tuple #[.slice D 256 d, .int .i64 0]) ∧ Hid (AT X w' p g 256 xs tp O ∧ Sl w' w'.heap.size D 256 (xs.map wv))) := hidb (fun W p g tp B cB st hB => by
        refine (a_store (c := c) (cB := cB) st HS.out hn hB.out).mono ?_
        rintro e w' ⟨D, d, h1, h2, h3⟩
        rw [hxs] at h3
        exact ⟨D, d, h1, hidb ⟨h2.out, h3.out⟩⟩)
      have KRT : Hid (∀ W p g tp D d, Hid (AT X W p g 256 xs tp O ∧ Sl W W.heap.size D 256 (xs.map wv)) → (D = none → d = 0) → Calls Tryz.prog 9 #[.slice D 256 d, .slice A2 n2 c2, stC s, .int .i64 lo, .int .i64 size] W fun e w' => ∃ B k, e = .returned (.tuple #[.slice B 256 k, stC s1, .int .i64 no]) ∧ Hid (AT X w' p g 256 xs tp O ∧ Sl w' w'.heap.size B 256 (ys1.map wv))) := hidb (fun W p g tp D d st hd => by
        have := ref_mvto (c := d) (c2 := c2) st.out.2 hd (by omega) (by omega) HU.out ((HRX.out.below st.out.1.bel).more (Nat.le_refl _) st.out.1.bel.size) (Nat.le_refl _) (by omega) h1000 s h0 h1 h2 lo size h3 h4
        rw [hr1] at this
        refine this.mono ?_
        rintro e w' ⟨B, k, e1, e2, _, e4⟩
        exact ⟨B, k, e1, hidb ⟨st.out.1.step e4, e2⟩⟩)
      have KT : Hid (∀ W p g tp B, Hid (AT X W p g 256 xs tp O ∧ Sl W W.heap.size B 256 (ys1.map wv)) → Calls Tryz.prog 10 #[.pointer (some ⟨p, 0, none⟩), .pointer tp, stC s, .int .i64 lo, .int .i64 size] W fun e w' => e = .returned (.tuple #[stC s1, .int .i64 no]) ∧ Hid (AT X w' p g 256 ys1 tp O ∧ Sl w' w'.heap.size B 256 (ys1.map wv)) ∧ Hid (W.grownBy w' (some g))) := hidb (fun W p g tp B st => (code_mvto HT.out st.out.1 HSZ2.out HU.out s ⟨h0, h1, h2⟩ lo size h3 h4 ys1 s1 no hr2).mono fun e w' h => ⟨h.1, hidb ⟨h.2.1, sl_after st.out.2 st.out.1.ar h.2.1.ar h.2.2⟩, hidb h.2.2⟩)
      have KR : Hid (∀ W p g tp B, Hid (AT X W p g 256 ys1 tp O ∧ Sl W W.heap.size B 256 (ys1.map wv)) → Calls Tryz.prog 11 #[.pointer (some ⟨p, 0, none⟩), .int .i64 0, .int .i64 256] W fun e w' => ∃ E k, e = .returned (.tuple #[.slice E 256 k, .int .i64 0]) ∧ Hid ((AT X w' p g 256 ys1 tp O ∧ Sl w' w'.heap.size B 256 (ys1.map wv)) ∧ Sl w' w'.heap.size E 256 (ys1.map wv)) ∧ Hid (Below W.heap.size W w')) := hidb (fun W p g tp B st => by
        have hl := st.out.1.ar.hlen
        refine (code_arow_ok 0 256 st.out.1.ar (by omega)).mono ?_
        rintro e w' ⟨E, k, rfl, q2, q3⟩
        have e1 : aRow ys1 0 256 = ys1 := by unfold aRow; rw [List.drop_zero, List.take_of_length_le (by omega)]
        rw [e1, hl] at q2
        exact ⟨E, k, by rw [e1, hl], hidb ⟨⟨st.out.1.step q3, (st.out.2.below q3).more q3.size⟩, Sl.of_own q2⟩, hidb q3⟩)
      have KS : Hid (∀ W p g tp B k E k2, Hid ((AT X W p g 256 ys1 tp O ∧ Sl W W.heap.size B 256 (ys1.map wv)) ∧ Sl W W.heap.size E 256 (ys1.map wv)) → Calls Tryz.prog 12 #[.slice E 256 k2, .slice B 256 k] W fun e w' => e = .returned (.bool true) ∧ Hid (Below X.heap.size X w')) := hidb (fun W p g tp B k E k2 st => by
        refine (ref_asame E B 256 k2 256 k ys1 ys1 W W.heap.size W.heap.size st.out.2 st.out.1.2 (by omega) (by omega)).mono ?_
        rintro e w' ⟨rfl, q, rfl⟩
        exact ⟨by simp, hidb (belowN st.out.1.1.bel q)⟩)
      have HBA : Hid (∀ W p g xs' tp (P : Prop), Hid (AT X W p g 256 xs' tp O ∧ P) → Below X.heap.size X W ∧ g < W.heap.size) := hidb (fun W p g xs' tp P st => ⟨st.out.1.bel, st.out.1.ar.lt⟩)
      have HAL : Hid (∀ W p g xs' tp B us' v0 v1 v2, Hid (AT X W p g 256 xs' tp O ∧ Sl W W.heap.size B 256 us') → Hid (AT X (W.alloc (.cells #[v0, v1, v2] 25)) p g 256 xs' tp O ∧ Sl (W.alloc (.cells #[v0, v1, v2] 25)) (W.alloc (.cells #[v0, v1, v2] 25)).heap.size B 256 us')) := hidb (fun W p g xs' tp B us' v0 v1 v2 st => by
        have hb := belF_al (Below.refl W.heap.size W) (.cells #[v0, v1, v2] 25)
        exact hidb ⟨st.out.1.step hb, (st.out.2.below hb).more hb.size⟩)
      have HDN : Hid (∀ (W : World) D (d : Nat) us', Sl W W.heap.size D 256 us' → (D = none → d = 0)) := hidb (fun W D d us' h e => by
        obtain ⟨b, off, e2, _⟩ := h.2 (by omega)
        rw [e] at e2; cases e2)
      have HTO : Hid (∀ (W1 W : World) (x0 x1 x2 : Int) (g : Nat), g < W1.heap.size → (W1.alloc (.cells #[.int .i64 x0, .int .i64 x1, .int .i64 x2] 25)).grownBy W (some g) → W.cell? ⟨W1.heap.size, 0, none⟩ = some (.int .i64 x0) ∧ W.cell? ⟨W1.heap.size, 1, none⟩ = some (.int .i64 x1) ∧ W.cell? ⟨W1.heap.size, 2, none⟩ = some (.int .i64 x2)) := hidb (fun W1 W x0 x1 x2 g hgl hg => by
        have hc : ∀ k, W.cell? ⟨W1.heap.size, k, none⟩ = (W1.alloc (.cells #[.int .i64 x0, .int .i64 x1, .int .i64 x2] 25)).cell? ⟨W1.heap.size, k, none⟩ := fun k => World.cell?_of_block (hg.block W1.heap.size (by simp) (fun e => by injection e with e; omega))
        refine ⟨?_, ?_, ?_⟩ <;> (rw [hc]; simp))
      have HMK : Hid (∀ (W W' : World) p g tp, Hid (AT X W p g 256 xs tp O) → W.grownBy W' none → Hid (AT X W' p g 256 xs tp O)) := hidb (fun W W' p g tp st hg => hidb (st.out.step ((Below.refl _ _).grown hg (Nat.le_refl _) (fun k hk => by cases hk))))
      obtain ⟨sl, ss, sp⟩ := s
      obtain ⟨tl, ts, tp1⟩ := s1
      have heq := fun W => eql_stack tl ts tp1 W
      have e0 : (no == no) = true := by simp
      unfold stC at KRT KT
      simp only at *
      clear hs hr hrX hX hbX hzX hbig ht hT hy hG hu hul hfl hxs h0 h1 h2 h3 h4 hsz hm2 hm hr1 hr2 hO hall h1000 h120
      --@6
      go_enter Tryz.func3, Tryz.ntmps3
      go_wp2_with (first
        | (go_at_call 4; rw [← HXX.out]; (with_reducible refine kn.mono ?_); rintro e w1 ⟨tb, rfl, hs1⟩; have hw1 := hidb hs1.out.1)
        | (go_at_call 5; (with_reducible refine (cg _ hw1.out).mono ?_); rintro e w' ⟨rfl, rfl⟩)
        | (go_at_call 7; (with_reducible refine (KL.out _ _ _ hs1).mono ?_); rintro e w3 ⟨p, g, rfl, hs3⟩)
        | (at_make; refine wpList_make_full w3 rfl _ _ 22 rfl w3.heap.size 59 i0 (.int .u64 0) 1 Tryz.underlying22 hi hz0 hz1 .i64 .i64 _ _ 256 rfl rfl (by omega) (by omega) (by rw [hz2]; omega) (by unfold maxLen; omega) (Nat.le_refl _) ?_; intro w4 hown hgrow; rw [zero_words] at hown; have hs4 := HMK.out _ _ _ _ _ hs3 hgrow; have hB4 : Hid (Sl w4 w4.heap.size (some ⟨w3.heap.size, 0, none⟩) 256 (frZ.map wv)) := hidb (Sl.of_own hown); clear hown hgrow)
        | (go_at_call 8; (with_reducible refine (KST.out _ _ _ _ _ _ hs4 hB4).mono ?_); rintro e w5 ⟨D, d, rfl, hs5⟩; obtain ⟨c0, c1, c2⟩ := HC.out w5 (HBA.out _ _ _ _ _ _ hs5).1)
        | (go_at_call 9; (with_reducible refine (KRT.out _ _ _ _ _ _ hs5 (HDN.out _ _ _ _ hs5.out.2)).mono ?_); rintro e w6 ⟨B, kB, rfl, hs6⟩; have hs7 := HAL.out _ _ _ _ _ _ _ (.int .i64 tl) (.int .i64 ts) (.int .i64 tp1) hs6; obtain ⟨d0, d1, d2⟩ := HC.out _ (HBA.out _ _ _ _ _ _ hs7).1; have HG6 := hidb (HBA.out _ _ _ _ _ _ hs6).2)
        | (go_at_call 10; (with_reducible refine (KT.out _ _ _ _ _ hs7).mono ?_); rintro e w8 ⟨rfl, hs8, hg8⟩; have hs9 := HAL.out _ _ _ _ _ _ _ (.int .i64 tl) (.int .i64 ts) (.int .i64 tp1) hs8; have HG8 := hidb (HBA.out _ _ _ _ _ _ hs8).2)
        | (go_at_call 11; (with_reducible refine (KR.out _ _ _ _ _ hs9).mono ?_); rintro e w10 ⟨E, kE, rfl, hs10, hb10⟩; obtain ⟨x0, x1, x2⟩ := HTO.out w8 w10 tl ts tp1 g HG8.out (below_to_grown hb10.out _); obtain ⟨y0, y1, y2⟩ := HTO.out w6 w10 tl ts tp1 g HG6.out (grown_trans hg8.out (grown_trans (World.grownBy_alloc _ _ _) (below_to_grown hb10.out _))))
        | (go_at_call 12; (with_reducible refine (KS.out _ _ _ _ _ _ _ _ hs10).mono ?_); rintro e w11 ⟨rfl, hs11⟩)
        | (go_at_call 6; (with_reducible refine (KA _ hs11).mono ?_); rintro e w12 ⟨rfl, hs12⟩))
      go_ret
      exact ⟨rfl, belF_tr HBX.out hs12.out⟩
end Go.Proofs.YtlniakcoikhilaaGreatDoor
