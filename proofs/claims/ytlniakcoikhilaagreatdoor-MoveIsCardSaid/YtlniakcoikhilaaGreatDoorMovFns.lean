/- What the code of layer 17 (move) returns: reckoned, end, By, shares, Fits. -/
import Derived.Test.YtlniakcoikhilaaGreatDoorSlsAll
import Derived.Test.YtlniakcoikhilaaGreatDoorMovRef
namespace Go.Proofs.YtlniakcoikhilaaGreatDoor
open Go.RowKit
set_option linter.unusedVariables false

/-- Is it a number that is reckoned with? -/
def mvRk (z : Int) : Bool := decide (0 ≤ z ∧ z ≤ 1099511627776)
theorem c_mvrk1 (z : Int) (b : Bool) (hb : mvRk z = b) (w : World) : Calls Tryz.prog 74 #[.int .i64 z] w fun e w' => e = .returned (.bool (!b)) ∧ Below w.heap.size w w' := by
  unfold mvRk at hb
  subst hb
  by_cases h0 : z < 0
  · have e : decide (0 ≤ z ∧ z ≤ 1099511627776) = false := decide_eq_false (by omega)
    rw [e]
    --@1
    go_enter Tryz.func74, Tryz.ntmps74
    go_wp2
    go_ret
    exact ⟨rfl, Below.refl _ _⟩
  · by_cases h1 : z ≤ 1099511627776
    · have e : decide (0 ≤ z ∧ z ≤ 1099511627776) = true := decide_eq_true (by omega)
      have g1 : ¬ (1099511627776 < z) := by omega
      rw [e]
      --@2
      go_enter Tryz.func74, Tryz.ntmps74
      go_wp2
      go_ret
      exact ⟨by (first | rfl | simp [g1]), Below.refl _ _⟩
    · have e : decide (0 ≤ z ∧ z ≤ 1099511627776) = false := decide_eq_false (by omega)
      have g1 : 1099511627776 < z := by omega
      rw [e]
      --@3
      go_enter Tryz.func74, Tryz.ntmps74
      go_wp2
      go_ret
      exact ⟨by (first | rfl | simp [g1]), Below.refl _ _⟩
/-- slices.IndexFunc at numbers. -/
theorem c_mvrkidx (A : Option Addr) (n c : Nat) (zs : List Int) (w : World) (B : Nat) (hr : Sl w B A n (zs.map iv)) (hB : B ≤ w.heap.size) (hn : n ≤ 1000000) (b : Bool) (hb : zs.all mvRk = b) :
    Calls Tryz.prog 92 #[.slice A n c, .func (.func 74) #[] #[]] w fun e w' => ∃ r : Int, e = .returned (.int .i64 r) ∧ (decide (0 ≤ r) = !b) ∧ Below w.heap.size w w' := by
  have HR := hidb hr
  have HB9 := hidb hB
  have HBV := hidb hb
  have HZL : Hid (zs.length = n) := hidb (by have := hr.1; simpa using this)
  clear hr hb
  go_enter Tryz.func92, Tryz.ntmps92
  go_wp2
  go_loopw [8] (fun k wr => ∃ j : Nat, j ≤ n ∧ Hid ((zs.take j).all mvRk = true) ∧ k = .int .i64 j ∧ Hid (Below w.heap.size w wr)) (fun k _ => (n - intOf k).toNat)
  case atStart => exact ⟨0, by omega, hidb (by simp), rfl, hidb (Below.refl _ _)⟩
  case round =>
    obtain ⟨j, hj, HA, rfl, HB⟩ := hrel
    by_cases hlt : j < n
    · obtain ⟨bk, off, u, rfl, hbl, hu, hc0⟩ := HR.out.at_ hlt
      rw [List.getElem?_map] at hu
      obtain ⟨z, hz, rfl⟩ := Option.map_eq_some_iff.1 hu
      have hbl2 : bk < w.heap.size := Nat.lt_of_lt_of_le hbl HB9.out
      have d0 := (HB.out.cell (p := ⟨bk, off + j, none⟩) hbl2).trans hc0
      unfold iv at d0
      obtain ⟨bv, hbv⟩ : ∃ bv, mvRk z = bv := ⟨_, rfl⟩
      have cm := c_mvrk1 z bv hbv wr
      have hstep : (zs.take (j + 1)).all mvRk = ((zs.take j).all mvRk && mvRk z) := by rw [List.take_add_one, hz]; simp
      have g0 : (0 : Int) ≤ (j : Int) := by omega
      have g1 : (j : Int) < (n : Int) := by omega
      clear hc0 hu
      cases bv with
      | false =>
        have hall : b = false := by
          rw [← HBV.out, ← List.take_append_drop (j + 1) zs, List.all_append, hstep, hbv]; simp
        have HE := hidb hall
        clear hstep hall hbv hz
        --@4
        go_wp2_with (first | (go_at_call 74; (with_reducible refine cm.mono ?_); rintro e w1 ⟨rfl, hb1⟩))
        go_ret
        exact ⟨(j : Int), rfl, by rw [HE.out]; exact decide_eq_true (by omega), belF_tr HB.out hb1⟩
      | true =>
        have HN : Hid ((zs.take (j + 1)).all mvRk = true) := hidb (by rw [hstep, HA.out, hbv]; rfl)
        clear hstep hbv hz
        --@5
        go_wp2_with (first | (go_at_call 74; (with_reducible refine cm.mono ?_); rintro e w1 ⟨rfl, hb1⟩))
        go_roundw
        case rel => exact ⟨j + 1, by omega, HN, by go_num, hidb (belF_tr HB.out hb1)⟩
        case measure => simp [intOf]; omega
    · have HE : Hid (b = true) := hidb (by
        rw [← HBV.out, ← HA.out, List.take_of_length_le (by rw [HZL.out]; omega)])
      --@6
      go_wp2
      go_ret
      exact ⟨-1, rfl, by rw [HE.out]; rfl, HB.out⟩
theorem c_mvrkhas (A : Option Addr) (n c : Nat) (zs : List Int) (w : World) (B : Nat) (hr : Sl w B A n (zs.map iv)) (hB : B ≤ w.heap.size) (hn : n ≤ 1000000) (b : Bool) (hb : zs.all mvRk = b) :
    Calls Tryz.prog 73 #[.slice A n c, .func (.func 74) #[] #[]] w fun e w' => e = .returned (.bool (!b)) ∧ Below w.heap.size w w' := by
  have c1 := c_mvrkidx A n c zs w B hr hB hn b hb
  clear hr hb
  go_enter Tryz.func73, Tryz.ntmps73
  --@7
  go_wp2_with (first | (go_at_call 92; (with_reducible refine c1.mono ?_); rintro e w1 ⟨r, rfl, hrb, hb1⟩))
  go_ret
  exact ⟨by first | exact congrArg Ending.returned (congrArg Value.bool hrb) | (rw [← hrb]; rfl), hb1⟩
theorem c_mvreck (A : Option Addr) (n c : Nat) (zs : List Int) (w : World) (B : Nat) (hr : Sl w B A n (zs.map iv)) (hB : B ≤ w.heap.size) (hn : n ≤ 1000000) (b : Bool) (hb : zs.all mvRk = b) :
    Calls Tryz.prog 42 #[.slice A n c] w fun e w' => e = .returned (.bool b) ∧ Below w.heap.size w w' := by
  have c1 := c_mvrkhas A n c zs w B hr hB hn b hb
  clear hr hb
  go_enter Tryz.func42, Tryz.ntmps42
  --@8
  go_wp2_with (first | (go_at_call 73; (with_reducible refine c1.mono ?_); rintro e w1 ⟨rfl, hb1⟩))
  go_ret
  exact ⟨by simp, hb1⟩
/-- Four numbers that stand in a row. -/
theorem ints4 (X : World) (a b c d : Int) : Sl (X.alloc (.cells #[.int .i64 a, .int .i64 b, .int .i64 c, .int .i64 d] 3)) (X.heap.size + 1) (some ⟨X.heap.size, 0, none⟩) 4 (([a, b, c, d] : List Int).map iv) := by
  refine ⟨rfl, fun _ => ⟨X.heap.size, 0, rfl, by omega, fun j hj => ?_⟩⟩
  match j, hj with
  | 0, _ => simp [iv]
  | 1, _ => simp [iv]
  | 2, _ => simp [iv]
  | 3, _ => simp [iv]
/-- Five numbers that stand in a row. -/
theorem ints5 (X : World) (a b c d f : Int) : Sl (X.alloc (.cells #[.int .i64 a, .int .i64 b, .int .i64 c, .int .i64 d, .int .i64 f] 3)) (X.heap.size + 1) (some ⟨X.heap.size, 0, none⟩) 5 (([a, b, c, d, f] : List Int).map iv) := by
  refine ⟨rfl, fun _ => ⟨X.heap.size, 0, rfl, by omega, fun j hj => ?_⟩⟩
  match j, hj with
  | 0, _ => simp [iv]
  | 1, _ => simp [iv]
  | 2, _ => simp [iv]
  | 3, _ => simp [iv]
  | 4, _ => simp [iv]
theorem c_mvend (s : StV) (w : World) (e' : Int) (hw : wrap64 (s.lo + s.size) = e') : Calls Tryz.prog 43 #[stC s] w fun e w' => e = .returned (.int .i64 e') ∧ Below w.heap.size w w' := by
  obtain ⟨lo, size, sp⟩ := s
  unfold stC
  simp only at *
  go_enter Tryz.func43, Tryz.ntmps43
  go_wp2
  go_ret
  exact ⟨(by first | rfl | (rw [hw]; rfl)), (Below.refl _ _).alloc (Nat.le_refl _) _⟩
/-- How much higher the end is. -/
def mvBy (s : StV) (lo size : Int) : Int := if [s.lo, s.size, s.sp, lo, size].all mvRk = true then lo + size - s.lo - s.size else 0
set_option maxHeartbeats 2000000 in
theorem code_mvby (s : StV) (lo size : Int) (w : World) (δ : Int) (hδ : mvBy s lo size = δ) : Calls Tryz.prog 15 #[stC s, .int .i64 lo, .int .i64 size] w fun e w' => e = .returned (.int .i64 δ) ∧ Below w.heap.size w w' := by
  obtain ⟨sl, ss, sp⟩ := s
  have ce := fun W => c_mvend ⟨sl, ss, sp⟩ W _ rfl
  obtain ⟨X, hX⟩ : ∃ X, X = w.alloc (.cells #[.int .i64 sl, .int .i64 ss, .int .i64 sp] 25) := ⟨_, rfl⟩
  have hbX : Below w.heap.size w X := by rw [hX]; exact belF_al (Below.refl _ _) _
  have hzX : X.heap.size = w.heap.size + 1 := by rw [hX]; simp
  obtain ⟨Y, hY⟩ : ∃ Y, Y = X.alloc (.cells #[.int .i64 sl, .int .i64 ss, .int .i64 sp, .int .i64 lo, .int .i64 size] 3) := ⟨_, rfl⟩
  have hbY : Below X.heap.size X Y := by rw [hY]; exact belF_al (Below.refl _ _) _
  have hzY : Y.heap.size = X.heap.size + 1 := by rw [hY]; simp
  have hs := ints5 X sl ss sp lo size
  rw [← hY] at hs
  have HC : Hid (∀ W, Below X.heap.size X W → W.cell? ⟨w.heap.size, 0, none⟩ = some (.int .i64 sl) ∧ W.cell? ⟨w.heap.size, 1, none⟩ = some (.int .i64 ss) ∧ W.cell? ⟨w.heap.size, 2, none⟩ = some (.int .i64 sp)) := hidb (fun W hb => by refine ⟨?_, ?_, ?_⟩ <;> (rw [hb.cell (by rw [hzX]; show w.heap.size < _; omega), hX]; simp))
  obtain ⟨b, hb⟩ : ∃ b, [sl, ss, sp, lo, size].all mvRk = b := ⟨_, rfl⟩
  have cr := c_mvreck (some ⟨X.heap.size, 0, none⟩) 5 5 [sl, ss, sp, lo, size] Y _ hs (by omega) (by omega) b hb
  have HBX := hidb hbX
  have HBY := hidb hbY
  have HX := hidb hX
  have HY := hidb hY
  rw [hzX] at cr
  unfold mvBy at hδ
  simp only at hδ
  rw [hb] at hδ
  unfold stC at *
  simp only at *
  clear hs hX hY hbX hbY hzX hzY
  cases b with
  | false =>
    rw [if_neg (by simp)] at hδ
    subst hδ
    clear hb ce
    --@9
    go_enter Tryz.func15, Tryz.ntmps15
    go_wp2_with (first
      | (go_at_call 42; rw [← HX.out, ← HY.out]; (with_reducible refine cr.mono ?_); rintro e w1 ⟨rfl, hb1⟩))
    go_ret
    exact ⟨rfl, belF_tr HBX.out (belF_tr HBY.out hb1)⟩
  | true =>
    rw [if_pos rfl] at hδ
    have hbb := hb
    simp [mvRk] at hbb
    have e1 : wrap64 (sl + ss) = sl + ss := by unfold wrap64; omega
    have e2 : wrap64 (lo + size) = lo + size := by unfold wrap64; omega
    have e3 : wrap64 (lo + size - (sl + ss)) = δ := by unfold wrap64; omega
    rw [e1] at ce
    have CE := hidb ce
    have HD : Hid (lo + size - (sl + ss) = δ) := hidb (by omega)
    have g1 : 0 ≤ lo + size := by omega
    have g2 : lo + size ≤ 2199023255552 := by omega
    have g3 : 0 ≤ sl + ss := by omega
    have g4 : sl + ss ≤ 2199023255552 := by omega
    clear hb hbb ce hδ
    --@10
    go_enter Tryz.func15, Tryz.ntmps15
    go_wp2_with (first
      | (go_at_call 42; rw [← HX.out, ← HY.out]; (with_reducible refine cr.mono ?_); rintro e w1 ⟨rfl, hb1⟩; have HB1 := hidb (belF_tr HBY.out hb1); obtain ⟨c0, c1, c2⟩ := HC.out w1 HB1.out)
      | (go_at_call 43; (with_reducible refine (CE.out _).mono ?_); rintro e w2 ⟨rfl, hb2⟩))
    go_ret
    exact ⟨by rw [← HD.out]; rfl, belF_tr HBX.out (belF_tr HB1.out hb2)⟩
/-- Two blocks with a stack's numbers each. -/
def TwoSt (b : Nat) (s x : StV) (W : World) : Prop := (W.cell? ⟨b, 0, none⟩ = some (.int .i64 s.lo) ∧ W.cell? ⟨b, 1, none⟩ = some (.int .i64 s.size) ∧ W.cell? ⟨b, 2, none⟩ = some (.int .i64 s.sp)) ∧ W.cell? ⟨b + 1, 0, none⟩ = some (.int .i64 x.lo) ∧ W.cell? ⟨b + 1, 1, none⟩ = some (.int .i64 x.size) ∧ W.cell? ⟨b + 1, 2, none⟩ = some (.int .i64 x.sp)
set_option maxHeartbeats 4000000 in
theorem c_mvshares (s x : StV) (w : World) (hk : [s.lo, s.size, x.lo, x.size].all mvRk = true) (b : Bool) (hb : decide (max s.lo x.lo < min (s.lo + s.size) (x.lo + x.size)) = b) :
    Calls Tryz.prog 46 #[stC s, stC x] w fun e w' => e = .returned (.bool b) ∧ Below w.heap.size w w' := by
  have hkk := hk
  simp [mvRk] at hkk
  have ce1 := fun W => c_mvend s W (s.lo + s.size) (by unfold wrap64; omega)
  have ce2 := fun W => c_mvend x W (x.lo + x.size) (by unfold wrap64; omega)
  obtain ⟨X, hX⟩ : ∃ X, X = (w.alloc (.cells #[.int .i64 s.lo, .int .i64 s.size, .int .i64 s.sp] 25)).alloc (.cells #[.int .i64 x.lo, .int .i64 x.size, .int .i64 x.sp] 25) := ⟨_, rfl⟩
  have hbX : Below w.heap.size w X := by rw [hX]; exact belF_al (belF_al (Below.refl _ _) _) _
  have hzX : X.heap.size = w.heap.size + 2 := by rw [hX]; simp
  have HC : Hid (∀ W, Below X.heap.size X W → TwoSt w.heap.size s x W) := hidb (fun W hb => by
    have hc : ∀ b k, b < w.heap.size + 2 → W.cell? ⟨b, k, none⟩ = X.cell? ⟨b, k, none⟩ := fun b k h => hb.cell (by show b < _; omega)
    have n1 : (w.alloc (.cells #[.int .i64 s.lo, .int .i64 s.size, .int .i64 s.sp] 25)).heap.size = w.heap.size + 1 := by simp
    refine ⟨⟨?_, ?_, ?_⟩, ?_, ?_, ?_⟩
    · rw [hc _ _ (by omega), hX, World.cell?_alloc_lt _ _ _ (by show w.heap.size < _; omega)]; simp
    · rw [hc _ _ (by omega), hX, World.cell?_alloc_lt _ _ _ (by show w.heap.size < _; omega)]; simp
    · rw [hc _ _ (by omega), hX, World.cell?_alloc_lt _ _ _ (by show w.heap.size < _; omega)]; simp
    · rw [hc _ _ (by omega), hX, ← n1]; simp
    · rw [hc _ _ (by omega), hX, ← n1]; simp
    · rw [hc _ _ (by omega), hX, ← n1]; simp)
  have HB := hidb hbX
  have HX := hidb hX
  obtain ⟨sl, ss, sp⟩ := s
  obtain ⟨xl, xs, xp⟩ := x
  unfold TwoSt at HC
  unfold stC at *
  simp only at *
  have HRes := hidb hb
  have c0 := HC.out X (Below.refl _ _)
  obtain ⟨⟨q0, q1, q2⟩, r0, r1, r2⟩ := c0
  clear hX hbX hzX hk hkk hb
  --@11
  go_enter Tryz.func46, Tryz.ntmps46
  go_wp2
  rw [← HX.out]
  (first | go_region_held3 (fun W => (W.cell? ⟨w.heap.size, 0, none⟩ = some (.int .i64 sl) ∧ W.cell? ⟨w.heap.size, 1, none⟩ = some (.int .i64 ss) ∧ W.cell? ⟨w.heap.size, 2, none⟩ = some (.int .i64 sp)) ∧ W.cell? ⟨w.heap.size + 1, 0, none⟩ = some (.int .i64 xl) ∧ W.cell? ⟨w.heap.size + 1, 1, none⟩ = some (.int .i64 xs) ∧ W.cell? ⟨w.heap.size + 1, 2, none⟩ = some (.int .i64 xp))
    (first | ((with_reducible refine HC.out _ ?_); (repeat (first | with_reducible exact Below.refl _ _ | with_reducible exact Hid.out (by assumption) | with_reducible apply belF_al | with_reducible apply belF_dr)); done) | (go_keep; done))
    (first
      | (go_at_call 43; (first | (with_reducible refine (ce1 _).mono ?_) | (with_reducible refine (ce2 _).mono ?_)); rintro e w1 ⟨rfl, hb1⟩; have HB1 : Hid (Below X.heap.size X w1) := hidb (belF_tr (by (repeat (first | with_reducible exact Below.refl _ _ | with_reducible exact Hid.out (by assumption) | with_reducible apply belF_al | with_reducible apply belF_dr))) hb1); have hc1 := HC.out w1 HB1.out; clear hb1)) | fail)
  all_goals go_wp2
  all_goals go_ret
  all_goals exact ⟨by rw [← HRes.out]; rfl, belF_tr HB.out (by (repeat (first | with_reducible exact Below.refl _ _ | with_reducible exact Hid.out (by assumption) | with_reducible apply belF_al | with_reducible apply belF_dr)))⟩
/-- Does a stack share no word with another one? -/
def mvFit (s x : StV) : Bool := [s.lo, s.size, x.lo, x.size].all mvRk && !decide (max s.lo x.lo < min (s.lo + s.size) (x.lo + x.size))
theorem mvFit_fits {s x : StV} (h0 : 0 ≤ s.lo ∧ s.lo ≤ 1000000) (h1 : 16 ≤ s.size ∧ s.size ≤ 1000000) (h2 : 0 ≤ x.lo ∧ x.lo ≤ 1000000) (h3 : 16 ≤ x.size ∧ x.size ≤ 1000000) : mvFit s x = mvFits s x := by
  unfold mvFit mvFits
  have e : [s.lo, s.size, x.lo, x.size].all mvRk = true := by simp [mvRk]; omega
  rw [e, Bool.true_and]
  by_cases c : s.lo + s.size ≤ x.lo ∨ x.lo + x.size ≤ s.lo
  · rw [decide_eq_true c, decide_eq_false (by omega)]; rfl
  · rw [decide_eq_false c, decide_eq_true (by omega)]; rfl
def StAt (b : Nat) (s : StV) (W : World) : Prop := W.cell? ⟨b, 0, none⟩ = some (.int .i64 s.lo) ∧ W.cell? ⟨b, 1, none⟩ = some (.int .i64 s.size) ∧ W.cell? ⟨b, 2, none⟩ = some (.int .i64 s.sp)
theorem StAt.below {b : Nat} {s : StV} {w W : World} (h : StAt b s w) (hb : Below w.heap.size w W) : StAt b s W := by
  have hlt := lt_of_cell' h.1
  exact ⟨(hb.cell (p := ⟨b, 0, none⟩) hlt).trans h.1, (hb.cell (p := ⟨b, 1, none⟩) hlt).trans h.2.1, (hb.cell (p := ⟨b, 2, none⟩) hlt).trans h.2.2⟩
theorem StAt.new (w : World) (s : StV) (W : World) (hb : Below (w.heap.size + 1) (w.alloc (.cells #[.int .i64 s.lo, .int .i64 s.size, .int .i64 s.sp] 25)) W) : StAt w.heap.size s W := by
  refine ⟨?_, ?_, ?_⟩ <;> (rw [hb.cell (by show w.heap.size < _; omega)]; simp)
set_option maxHeartbeats 2000000 in
theorem c_mvfit1 (s x : StV) (t : Nat) (w : World) (ht : StAt t s w) (b : Bool) (hb : mvFit s x = b) :
    Calls Tryz.prog 45 #[stC x, .pointer (some ⟨t, 0, none⟩)] w fun e w' => e = .returned (.bool (!b)) ∧ Below w.heap.size w w' := by
  obtain ⟨X, hX⟩ : ∃ X, X = w.alloc (.cells #[.int .i64 x.lo, .int .i64 x.size, .int .i64 x.sp] 25) := ⟨_, rfl⟩
  have hbX : Below w.heap.size w X := by rw [hX]; exact belF_al (Below.refl _ _) _
  have hzX : X.heap.size = w.heap.size + 1 := by rw [hX]; simp
  obtain ⟨Y, hY⟩ : ∃ Y, Y = X.alloc (.cells #[.int .i64 s.lo, .int .i64 s.size, .int .i64 x.lo, .int .i64 x.size] 3) := ⟨_, rfl⟩
  have hbY : Below X.heap.size X Y := by rw [hY]; exact belF_al (Below.refl _ _) _
  have hzY : Y.heap.size = X.heap.size + 1 := by rw [hY]; simp
  have hs := ints4 X s.lo s.size x.lo x.size
  rw [← hY] at hs
  have HC : Hid (∀ W, Below X.heap.size X W → StAt t s W ∧ StAt w.heap.size x W) := hidb (fun W hb => ⟨ht.below (belF_tr hbX hb), StAt.new w x W (by rw [hzX, hX] at hb; exact hb)⟩)
  obtain ⟨k, hk⟩ : ∃ k, [s.lo, s.size, x.lo, x.size].all mvRk = k := ⟨_, rfl⟩
  obtain ⟨z, hz⟩ : ∃ z, decide (max s.lo x.lo < min (s.lo + s.size) (x.lo + x.size)) = z := ⟨_, rfl⟩
  have cr := c_mvreck (some ⟨X.heap.size, 0, none⟩) 4 4 [s.lo, s.size, x.lo, x.size] Y _ hs (by omega) (by omega) k hk
  unfold mvFit at hb
  rw [hk, hz] at hb
  have cs := fun W (h : k = true) => c_mvshares s x W (hk.trans h) z hz
  have HBX := hidb hbX
  have HBY := hidb hbY
  have HX := hidb hX
  have HY := hidb hY
  rw [hzX] at cr
  have hq := HC.out X (Below.refl _ _)
  rw [hX] at hq
  obtain ⟨⟨q0, q1, q2⟩, r0, r1, r2⟩ := hq
  obtain ⟨sl, ss, sp⟩ := s
  obtain ⟨xl, xs, xp⟩ := x
  unfold StAt at HC
  unfold stC at *
  simp only at *
  clear hs hX hY hbX hbY hzX hzY hk hz ht
  cases k with
  | false =>
    subst hb
    clear cs
    --@12
    go_enter Tryz.func45, Tryz.ntmps45
    go_wp2_with (first
      | (go_at_call 42; rw [← HX.out, ← HY.out]; (with_reducible refine cr.mono ?_); rintro e w1 ⟨rfl, hb1⟩))
    go_ret
    exact ⟨rfl, belF_tr HBX.out (belF_tr HBY.out hb1)⟩
  | true =>
    have CS := hidb (fun W => cs W rfl)
    subst hb
    clear cs
    --@13
    go_enter Tryz.func45, Tryz.ntmps45
    go_wp2_with (first
      | (go_at_call 42; rw [← HX.out, ← HY.out]; (with_reducible refine cr.mono ?_); rintro e w1 ⟨rfl, hb1⟩; have HB1 := hidb (belF_tr HBY.out hb1); obtain ⟨⟨c0, c1, c2⟩, d0, d1, d2⟩ := HC.out w1 HB1.out)
      | (go_at_call 46; (with_reducible refine (CS.out _).mono ?_); rintro e w2 ⟨rfl, hb2⟩))
    go_ret
    exact ⟨by simp, belF_tr HBX.out (belF_tr HB1.out hb2)⟩
set_option maxHeartbeats 2000000 in
/-- slices.IndexFunc of one stack, asked whether it shares words. -/
theorem c_mvfitidx (s x : StV) (t q : Nat) (w : World) (ht : StAt t s w) (hq : StAt q x w) (b : Bool) (hb : mvFit s x = b) :
    Calls Tryz.prog 75 #[.slice (some ⟨q, 0, none⟩) 1 1, .func (.func 45) #[] #[.pointer (some ⟨t, 0, none⟩)]] w fun e w' => e = .returned (.int .i64 (if b then -1 else 0)) ∧ Below w.heap.size w w' := by
  have C1 : Hid (∀ W, Below w.heap.size w W → Calls Tryz.prog 45 #[stC x, .pointer (some ⟨t, 0, none⟩)] W fun e w' => e = .returned (.bool (!b)) ∧ Below W.heap.size W w') := hidb (fun W hb' => c_mvfit1 s x t W (ht.below hb') b hb)
  have HC : Hid (∀ W, Below w.heap.size w W → StAt q x W) := hidb (fun W hb => hq.below hb)
  obtain ⟨lo, size, sp⟩ := x
  unfold stC at C1
  unfold StAt at HC
  simp only at *
  clear ht hq hb
  go_enter Tryz.func75, Tryz.ntmps75
  go_wp2
  go_loopw [8] (fun k wr => ∃ j : Nat, j ≤ 1 ∧ Hid (j = 1 → b = true) ∧ k = .int .i64 j ∧ Hid (Below w.heap.size w wr)) (fun k _ => (1 - intOf k).toNat)
  case atStart => exact ⟨0, by omega, hidb (fun h => absurd h (by decide)), rfl, hidb (Below.refl _ _)⟩
  case round =>
    obtain ⟨j, hj, HA, rfl, HB⟩ := hrel
    by_cases hlt : j < 1
    · obtain rfl : j = 0 := by omega
      obtain ⟨hc0, hc1, hc2⟩ := HC.out wr HB.out
      have c1 := C1.out wr HB.out
      cases b with
      | false =>
        simp only [Bool.not_false] at c1
        go_wp2_with (first | (go_at_call 45; (with_reducible refine c1.mono ?_); rintro e w1 ⟨rfl, hi1⟩))
        go_ret
        exact ⟨rfl, HB.out.trans (hi1.mono HB.out.size)⟩
      | true =>
        simp only [Bool.not_true] at c1
        go_wp2_with (first | (go_at_call 45; (with_reducible refine c1.mono ?_); rintro e w1 ⟨rfl, hi1⟩))
        go_roundw
        case rel => exact ⟨1, by omega, hidb (by simp), by first | rfl | go_num, hidb (HB.out.trans (hi1.mono HB.out.size))⟩
        case measure => simp [intOf]
    · obtain rfl : j = 1 := by omega
      obtain rfl := HA.out rfl
      go_wp2
      go_ret
      exact ⟨rfl, HB.out⟩
theorem c_mvfithas (s x : StV) (t q : Nat) (w : World) (ht : StAt t s w) (hq : StAt q x w) (b : Bool) (hb : mvFit s x = b) :
    Calls Tryz.prog 44 #[.slice (some ⟨q, 0, none⟩) 1 1, .func (.func 45) #[] #[.pointer (some ⟨t, 0, none⟩)]] w fun e w' => e = .returned (.bool (!b)) ∧ Below w.heap.size w w' := by
  have c1 := c_mvfitidx s x t q w ht hq b hb
  clear ht hq hb
  go_enter Tryz.func44, Tryz.ntmps44
  cases b with
  | false =>
    simp only [Bool.false_eq_true, if_false] at c1
    go_wp2_with (first | (go_at_call 75; (with_reducible refine c1.mono ?_); rintro e w1 ⟨rfl, hj1⟩))
    go_ret
    exact ⟨rfl, hj1⟩
  | true =>
    simp only [if_true] at c1
    go_wp2_with (first | (go_at_call 75; (with_reducible refine c1.mono ?_); rintro e w1 ⟨rfl, hj1⟩))
    go_ret
    exact ⟨rfl, hj1⟩
/-- Fits, of one other stack. -/
theorem code_mvfit (s x : StV) (q : Nat) (w : World) (hq : StAt q x w) (b : Bool) (hb : mvFit s x = b) :
    Calls Tryz.prog 16 #[stC s, .slice (some ⟨q, 0, none⟩) 1 1] w fun e w' => e = .returned (.bool b) ∧ Below w.heap.size w w' := by
  obtain ⟨X, hX⟩ : ∃ X, X = w.alloc (.cells #[.int .i64 s.lo, .int .i64 s.size, .int .i64 s.sp] 25) := ⟨_, rfl⟩
  have hbX : Below w.heap.size w X := by rw [hX]; exact belF_al (Below.refl _ _) _
  have hzX : X.heap.size = w.heap.size + 1 := by rw [hX]; simp
  have c1 := c_mvfithas s x w.heap.size q X (StAt.new w s X (by rw [← hzX, ← hX]; exact Below.refl _ _)) (hq.below hbX) b hb
  have HB := hidb hbX
  have HX := hidb hX
  obtain ⟨sl, ss, sp⟩ := s
  unfold stC
  simp only at *
  clear hq hb hX hbX hzX
  cases b with
  | true =>
    simp only [Bool.not_true] at c1
    go_enter Tryz.func16, Tryz.ntmps16
    go_wp2_with (first | (go_at_call 44; rw [← HX.out]; (with_reducible refine c1.mono ?_); rintro e w1 ⟨rfl, hb1⟩))
    go_ret
    exact ⟨rfl, belF_tr HB.out hb1⟩
  | false =>
    simp only [Bool.not_false] at c1
    go_enter Tryz.func16, Tryz.ntmps16
    go_wp2_with (first | (go_at_call 44; rw [← HX.out]; (with_reducible refine c1.mono ?_); rintro e w1 ⟨rfl, hb1⟩))
    go_ret
    exact ⟨rfl, belF_tr HB.out hb1⟩
end Go.Proofs.YtlniakcoikhilaaGreatDoor
