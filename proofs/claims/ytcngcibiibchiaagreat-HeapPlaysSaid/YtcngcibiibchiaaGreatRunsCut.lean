/- What Cut and Take do. -/
import Derived.Test.YtcngcibiibchiaaGreatRunsAdd
import Derived.Test.YtcngcibiibchiaaGreatRunsBest
import Derived.Test.YtcngcibiibchiaaGreatRunsLeft2
import Derived.Test.YtcngcibiibchiaaGreatRunsRep
namespace Go.Proofs.YtcngcibiibchiaaGreat
open Go.RowKit
set_option linter.unusedVariables false

theorem leftL_two (r x : Int × Int) : (leftL r x).length ≤ 2 := by
  unfold leftL
  exact List.length_filter_le _ _
theorem rcells_take (rs : List (Int × Int)) (k : Nat) : (rcells rs).take (k * 2) = rcells (rs.take k) := by
  by_cases h : k ≤ rs.length
  · have e : rcells rs = rcells (rs.take k) ++ rcells (rs.drop k) := by rw [← rcells_append, List.take_append_drop]
    rw [e]
    exact List.take_left' (by rw [rcells_length, List.length_take, Nat.min_eq_left h])
  · rw [List.take_of_length_le (by rw [rcells_length]; omega), List.take_of_length_le (by omega)]
theorem rcells_drop (rs : List (Int × Int)) (k : Nat) : (rcells rs).drop (k * 2) = rcells (rs.drop k) := by
  by_cases h : k ≤ rs.length
  · have e : rcells rs = rcells (rs.take k) ++ rcells (rs.drop k) := by rw [← rcells_append, List.take_append_drop]
    rw [e]
    exact List.drop_left' (by rw [rcells_length, List.length_take, Nat.min_eq_left h])
  · rw [List.drop_of_length_le (by rw [rcells_length]; omega), List.drop_of_length_le (by omega)]; rfl

set_option maxRecDepth 100000 in
set_option maxHeartbeats 4000000 in
theorem code_rcut {w : World} {S : Nat → Prop} {p : Nat} {f : List Bool} (h : Fr w S p f) (s l : Int) (h1 : in64 s) (h2 : in64 l) :
    Calls Tryz.prog 54 #[.pointer (some ⟨p, 0, none⟩), .agg #[.int .i64 s, .int .i64 l]] w (DidFr w S p (fPut f [(s, l)] false).1 (fPut f [(s, l)] false).2) := by
  obtain ⟨W2, hW2⟩ : ∃ W2, W2 = (w.alloc (.cells #[.int .i64 s, .int .i64 l] 41)).alloc (.cells #[.int .i64 s, .int .i64 l] 41) := ⟨_, rfl⟩
  have hz : W2.heap.size = w.heap.size + 1 + 1 := by rw [hW2]; simp
  have HB2 : Hid (Below w.heap.size w W2) := hidb (by rw [hW2]; exact ((Below.refl _ _).alloc (Nat.le_refl _) _).alloc (by simp) _)
  have q0 : W2.cell? ⟨w.heap.size, 0, none⟩ = some (.int .i64 s) := by rw [hW2, World.cell?_alloc_lt _ _ ⟨w.heap.size, 0, none⟩ (by simp)]; simp
  have q1 : W2.cell? ⟨w.heap.size, 1, none⟩ = some (.int .i64 l) := by rw [hW2, World.cell?_alloc_lt _ _ ⟨w.heap.size, 1, none⟩ (by simp)]; simp
  have hrow : Rn W2 W2.heap.size (some ⟨w.heap.size + 1, 0, none⟩) 1 [(s, l)] := ⟨rfl, fun _ => ⟨w.heap.size + 1, 0, rfl, by omega, fun j r hj => by
    obtain ⟨rfl, rfl⟩ : j = 0 ∧ r = (s, l) := by
      cases j with
      | zero => exact ⟨rfl, by simpa using hj.symm⟩
      | succ j => simp at hj
    rw [hW2]
    exact ⟨World.cell?_alloc_at _ _ _ 0 (by simp), World.cell?_alloc_at _ _ _ 1 (by simp)⟩⟩⟩
  have cm := code_may (some ⟨w.heap.size + 1, 0, none⟩) 1 1 [(s, l)] W2 hrow (by omega) (fun r hr => by obtain rfl := List.mem_singleton.1 hr; exact ⟨h1, h2⟩)
  rw [show [(s, l)].all fMay = fMay (s, l) by simp] at cm
  have HW2 := hidb hW2
  have hzz : w.heap.size ≤ W2.heap.size := by omega
  cases hm : fMay (s, l) with
  | false =>
    rw [hm] at cm
    rw [cut_bad hm]
    have H := hidb h
    clear hm hrow hW2 q0 q1 h h1 h2 hz
    go_enter Tryz.func54, Tryz.ntmps54
    go_wp2_with (first | (go_at_call 47; rw [← HW2.out]; (with_reducible refine cm.mono ?_); rintro e w3 ⟨rfl, hb3⟩))
    go_ret
    exact DidFr.same H.out (HB2.out.trans (hb3.mono hzz))
  | true =>
    rw [hm] at cm
    obtain ⟨m1, m2, m3⟩ := (fMay_iff (s, l)).1 hm
    simp only at m1 m2 m3
    obtain ⟨A, n, c, fa, hSp, hSr, hSl⟩ := h
    have hle := fa.le
    have hfl := fa.flen
    have hall : ∀ W, Below w.heap.size w W → Calls Tryz.prog 64 #[.pointer (some ⟨p, 0, none⟩)] W fun e w' => e = .returned (.slice A n c) ∧ W = w' := fun W hb => code_all p A n c W (fa.below hb).cell
    have ca : ∀ W, Below w.heap.size w W → Calls Tryz.prog 73 #[.pointer (some ⟨p, 0, none⟩), .agg #[.int .i64 s, .int .i64 l]] W fun e w' => e = .returned (.int .i64 (idxR (inRun (s, l)) (fList f))) ∧ Below w.heap.size w w' ∧ W.heap.size ≤ w'.heap.size ∧ Below W.heap.size W w' := fun W hb =>
      (code_around_of _ A n c (fList f) s l W (hall _ (hb.alloc hb.size _)) ((fa.rn.below hb).more hb.size) (by omega) ⟨by omega, by omega⟩ (fList_in f hfl)).mono fun e w' ⟨k1, k2⟩ => ⟨k1, hb.trans (k2.mono hb.size), k2.size, k2⟩
    have hq : ∀ W, Below W2.heap.size W2 W → W.cell? ⟨w.heap.size, 0, none⟩ = some (.int .i64 s) ∧ W.cell? ⟨w.heap.size, 1, none⟩ = some (.int .i64 l) := fun W hb => by
      rw [hb.cell (p := ⟨w.heap.size, 0, none⟩) (by show w.heap.size < _; omega), hb.cell (p := ⟨w.heap.size, 1, none⟩) (by show w.heap.size < _; omega)]; exact ⟨q0, q1⟩
    have HQ := hidb hq
    have HFR : Hid (Fr w S p f) := hidb ⟨A, n, c, fa, hSp, hSr, hSl⟩
    have HFA := hidb fa
    have HSR := hidb hSr
    rcases idxR_cases (inRun (s, l)) (fList f) with ⟨hk, hno⟩ | ⟨i, r, hk, hir, hin⟩
    · rw [cut_no hfl hm hno]
      rw [hk] at ca
      clear hm hrow hW2 q0 q1 hall h1 h2 hz hq hk hno m1 m2 m3 fa hSp hSr hSl
      go_enter Tryz.func54, Tryz.ntmps54
      go_wp2_with (first
        | (go_at_call 47; rw [← HW2.out]; (with_reducible refine cm.mono ?_); rintro e w3 ⟨rfl, hb3⟩; obtain ⟨y0, y1⟩ := HQ.out _ hb3; have hb4 := HB2.out.trans (hb3.mono hzz))
        | (go_at_call 73; (with_reducible refine (ca _ hb4).mono ?_); rintro e w5 ⟨rfl, hb5, _, _⟩))
      go_ret
      exact DidFr.same HFR.out hb5
    · obtain ⟨g, eg, hgl⟩ := cut_yes hfl hm hir hin
      have hgl0 : g.length = 1024 := by
        have := fPut_length f [(s, l)] false
        rw [eg] at this
        simp only at this
        omega
      rw [eg]
      rw [hk] at ca
      have hilt : i < n := by have := (List.getElem?_eq_some_iff.1 hir).1; have := fa.len; omega
      obtain ⟨f1, f2⟩ := r
      have hrm := norm_mem (fList_norm f (by omega)) (f1, f2) (List.mem_of_getElem? hir)
      simp only at hrm
      obtain ⟨b, rfl⟩ : ∃ b, A = some ⟨b, 0, none⟩ := by
        rcases fa.own.2 with ⟨_, h0⟩ | ⟨b, cap, cur, h1, _⟩
        · omega
        · injection h1 with e1; exact ⟨b, e1⟩
      have hbp : b ≠ p := fa.ne b rfl
      have hblt : b < w.heap.size := (fa.own.lt b rfl).2
      have HC : Hid (∀ W, Below w.heap.size w W → W.cell? ⟨p, 0, none⟩ = some (.slice (some ⟨b, 0, none⟩) n c) ∧ W.frozen? ⟨p, 0, none⟩ = false ∧ W.cell? ⟨b, i * 2, none⟩ = some (.int .i64 f1) ∧ W.cell? ⟨b, i * 2 + 1, none⟩ = some (.int .i64 f2)) := hidb (fun W hb => by
        have k0 := (fa.below hb).own.cellAt (i * 2) (by omega)
        have k1 := (fa.below hb).own.cellAt (i * 2 + 1) (by omega)
        have k2 := rcells_at (fList f) i (f1, f2) hir
        exact ⟨(fa.below hb).cell, (fa.below hb).free, k0.trans k2.1, k1.trans k2.2⟩)
      have cl : ∀ W, Below w.heap.size w W → Calls Tryz.prog 75 #[.agg #[.int .i64 f1, .int .i64 f2], .agg #[.int .i64 s, .int .i64 l]] W fun e w' => ∃ A7 c7, e = .returned (.slice A7 (leftL (f1, f2) (s, l)).length c7) ∧ w'.ownsRow W.heap.size 41 2 (.slice A7 (leftL (f1, f2) (s, l)).length c7) (leftL (f1, f2) (s, l)).length (rcells (leftL (f1, f2) (s, l))) ∧ Below w.heap.size w w' := fun W hb =>
        (code_left f1 f2 s l W (by omega) (by omega) (by omega) (by omega) (by omega) (by omega)).mono fun e w' ⟨A7, c7, k1, k2, k3⟩ => ⟨A7, c7, k1, k2, hb.trans (k3.mono hb.size)⟩
      have HLEFT2 := hidb (leftL_two (f1, f2) (s, l))
      obtain ⟨V, hV⟩ : ∃ V, leftL (f1, f2) (s, l) = V := ⟨_, rfl⟩
      rw [hV] at cl HLEFT2 hgl
      obtain ⟨m, hml⟩ : ∃ m, V.length = m := ⟨_, rfl⟩
      rw [hml] at cl HLEFT2
      have cr : ∀ W A7 c7 B7, Below w.heap.size w W → w.heap.size ≤ B7 → W.ownsRow B7 41 2 (.slice A7 m c7) m (rcells V) → Calls Tryz.prog 74 #[.slice (some ⟨b, 0, none⟩) n c, .int .i64 (i : Int), .int .i64 ((i : Int) + 1), .slice A7 m c7] W fun e w' => ∃ A9 c9, e = .returned (.slice A9 (n - 1 + m) c9) ∧
          (∀ w9, w9 = w'.setCell ⟨p, 0, none⟩ (.slice A9 (n - 1 + m) c9) → DidFr w S p g 0 (.returned (.int .i64 0)) w9) ∧ (∃ u, w'.cell? ⟨p, 0, none⟩ = some u) ∧ w'.frozen? ⟨p, 0, none⟩ = false := fun W A7 c7 B7 hb hB7 ho => by
        have fb := fa.below hb
        refine (code_replace b i n c m c7 A7 (rcells (fList f)) (rcells V) W 0 B7 fb.own hilt (by omega) (rcells_one _) (Nat.zero_le _) ho HLEFT2.out (rcells_one _) (fun k hk e => by have := (ho.lt k hk).1; omega)).mono ?_
        rintro e w' ⟨A9, c9, rfl, k1, k2, k3⟩
        have hp' : p ≠ b := fun e => hbp e.symm
        have z0 : w'.cell? ⟨p, 0, none⟩ = W.cell? ⟨p, 0, none⟩ := World.cell?_of_block (w := W) (a := ⟨p, 0, none⟩) (k3.block p fb.ltp (fun e => hp' (by injection e)))
        have z1 : w'.frozen? ⟨p, 0, none⟩ = W.frozen? ⟨p, 0, none⟩ := World.frozen?_of_block (w := W) (a := ⟨p, 0, none⟩) (k3.block p fb.ltp (fun e => hp' (by injection e)))
        rw [fb.cell] at z0
        rw [fb.free] at z1
        refine ⟨A9, c9, rfl, fun w9 e9 => ?_, ⟨_, z0⟩, z1⟩
        subst e9
        rw [rcells_take, rcells_drop, ← rcells_append, ← rcells_append, ← hgl] at k1
        have hkn : (fList g).length = n - 1 + m := by
          rw [hgl]
          have := fa.len
          simp only [List.length_append, List.length_take, List.length_drop, hml]
          omega
        refine DidFr.stored ⟨_, n, c, fa, hSp, hSr, hSl⟩ ((Kept.of_below hb S).grown k3 (fun k hk => by cases hk; exact Or.inl (hSr b rfl))) ⟨_, z0⟩ z1 k1 (fun k hk => ?_) hkn hgl0
        cases A9 with
        | none => cases hk
        | some a9 =>
          have hk' : a9.block = k := by injection hk
          subst hk'
          rcases k2 a9 rfl with h | h
          · rw [h]; exact ⟨Or.inl (hSr b rfl), hbp⟩
          · have := hb.size; have := fa.ltp; exact ⟨Or.inr (by omega), by omega⟩
      have hwi : IntKind.i64.wrap ((i : Int) + 1) = (i : Int) + 1 := IntWalk.i64_in _ (by omega)
      have hi0 : (0 : Int) ≤ (i : Int) := by omega
      have hi1 : (i : Int) < (n : Int) := by omega
      have hi2 : ¬ (i : Int) < 0 := by omega
      clear hm hrow hW2 q0 q1 hall h1 h2 hz hq hk hir hin m1 m2 m3 fa hSp hSr hSl eg hgl hV hml hrm hgl0
      go_enter Tryz.func54, Tryz.ntmps54
      go_wp2_with (first
        | (go_at_call 47; rw [← HW2.out]; (with_reducible refine cm.mono ?_); rintro e w3 ⟨rfl, hb3⟩; obtain ⟨y0, y1⟩ := HQ.out _ hb3; have hb4 := HB2.out.trans (hb3.mono hzz))
        | (go_at_call 73; (with_reducible refine (ca _ hb4).mono ?_); rintro e w5 ⟨rfl, hb5, hs5, hr5⟩; obtain ⟨x0, x1⟩ := HQ.out _ (hb3.trans (hr5.mono hb3.size)); obtain ⟨z0, z1, z2, z3⟩ := HC.out _ hb5))
      have clw := cl w5.drew hb5.drew
      have HB5 := hidb hb5
      go_region_law (first
        | (go_simp; go_at_call 75; (with_reducible refine clw.mono ?_); rintro e w7 ⟨A7, c7, rfl, ho7, hb7⟩; obtain ⟨t0, t1, t2, t3⟩ := HC.out _ hb7; have crw := cr w7 A7 c7 _ hb7 hb5.size ho7)
        | (go_simp; go_at_call 74; (with_reducible refine crw.mono ?_); rintro e w8 ⟨A9, c9, rfl, hend, ⟨u8, hu8⟩, hf8⟩))
      all_goals
        go_wp2
        go_ret
        exact hend _ rfl

/-- Cut of nil free runs. -/
theorem code_rcut_nil (w : World) (s l : Int) (h1 : in64 s) (h2 : in64 l) :
    Calls Tryz.prog 54 #[.pointer none, .agg #[.int .i64 s, .int .i64 l]] w fun e w' => e = .returned (.int .i64 (if fMay (s, l) then 9 else 2)) ∧ Below w.heap.size w w' := by
  obtain ⟨W2, hW2⟩ : ∃ W2, W2 = (w.alloc (.cells #[.int .i64 s, .int .i64 l] 41)).alloc (.cells #[.int .i64 s, .int .i64 l] 41) := ⟨_, rfl⟩
  have hz : W2.heap.size = w.heap.size + 1 + 1 := by rw [hW2]; simp
  have HB2 : Hid (Below w.heap.size w W2) := hidb (by rw [hW2]; exact ((Below.refl _ _).alloc (Nat.le_refl _) _).alloc (by simp) _)
  have q0 : W2.cell? ⟨w.heap.size, 0, none⟩ = some (.int .i64 s) := by rw [hW2, World.cell?_alloc_lt _ _ ⟨w.heap.size, 0, none⟩ (by simp)]; simp
  have q1 : W2.cell? ⟨w.heap.size, 1, none⟩ = some (.int .i64 l) := by rw [hW2, World.cell?_alloc_lt _ _ ⟨w.heap.size, 1, none⟩ (by simp)]; simp
  have hrow : Rn W2 W2.heap.size (some ⟨w.heap.size + 1, 0, none⟩) 1 [(s, l)] := ⟨rfl, fun _ => ⟨w.heap.size + 1, 0, rfl, by omega, fun j r hj => by
    obtain ⟨rfl, rfl⟩ : j = 0 ∧ r = (s, l) := by
      cases j with
      | zero => exact ⟨rfl, by simpa using hj.symm⟩
      | succ j => simp at hj
    rw [hW2]
    exact ⟨World.cell?_alloc_at _ _ _ 0 (by simp), World.cell?_alloc_at _ _ _ 1 (by simp)⟩⟩⟩
  have cm := code_may (some ⟨w.heap.size + 1, 0, none⟩) 1 1 [(s, l)] W2 hrow (by omega) (fun r hr => by obtain rfl := List.mem_singleton.1 hr; exact ⟨h1, h2⟩)
  rw [show [(s, l)].all fMay = fMay (s, l) by simp] at cm
  have HW2 := hidb hW2
  have hzz : w.heap.size ≤ W2.heap.size := by omega
  cases hm : fMay (s, l) with
  | false =>
    rw [hm] at cm
    clear hm hrow hW2 q0 q1 h1 h2 hz
    go_enter Tryz.func54, Tryz.ntmps54
    go_wp2_with (first | (go_at_call 47; rw [← HW2.out]; (with_reducible refine cm.mono ?_); rintro e w3 ⟨rfl, hb3⟩))
    go_ret
    exact ⟨rfl, HB2.out.trans (hb3.mono hzz)⟩
  | true =>
    rw [hm] at cm
    obtain ⟨m1, m2, m3⟩ := (fMay_iff (s, l)).1 hm
    simp only at m1 m2 m3
    have hq : ∀ W, Below W2.heap.size W2 W → W.cell? ⟨w.heap.size, 0, none⟩ = some (.int .i64 s) ∧ W.cell? ⟨w.heap.size, 1, none⟩ = some (.int .i64 l) := fun W hb => by
      rw [hb.cell (p := ⟨w.heap.size, 0, none⟩) (by show w.heap.size < _; omega), hb.cell (p := ⟨w.heap.size, 1, none⟩) (by show w.heap.size < _; omega)]; exact ⟨q0, q1⟩
    have HQ := hidb hq
    have ca : ∀ W, Calls Tryz.prog 73 #[.pointer none, .agg #[.int .i64 s, .int .i64 l]] W fun e w' => e = .returned (.int .i64 (-1)) ∧ Below W.heap.size W w' := fun W =>
      code_around_of _ none 0 0 [] s l W (code_all_nil _) Rn.nil_ (by omega) ⟨by omega, by omega⟩ (fun r hr => by cases hr)
    clear hm hrow hW2 q0 q1 h1 h2 hz hq m1 m2 m3
    go_enter Tryz.func54, Tryz.ntmps54
    go_wp2_with (first
      | (go_at_call 47; rw [← HW2.out]; (with_reducible refine cm.mono ?_); rintro e w3 ⟨rfl, hb3⟩; obtain ⟨y0, y1⟩ := HQ.out _ hb3; have hb4 := HB2.out.trans (hb3.mono hzz))
      | (go_at_call 73; (with_reducible refine (ca _).mono ?_); rintro e w5 ⟨rfl, hb5⟩))
    go_ret
    exact ⟨rfl, hb4.trans (hb5.mono hb4.size)⟩

end Go.Proofs.YtcngcibiibchiaaGreat
