/- What the code of layer 17 (move) returns: walk's May of two stacks, frames, told, To. -/
import Derived.Test.YtlniakcoikhilaaGreatDoorMovRz
import Derived.Test.YtlniakcoikhilaaGreatDoorMovFns
namespace Go.Proofs.YtlniakcoikhilaaGreatDoor
open Go.RowKit
set_option linter.unusedVariables false

/-- Two stacks in a row. -/
def Two (b : Nat) (s x : StV) (W : World) : Prop := (W.cell? ⟨b, 0, none⟩ = some (.int .i64 s.lo) ∧ W.cell? ⟨b, 1, none⟩ = some (.int .i64 s.size) ∧ W.cell? ⟨b, 2, none⟩ = some (.int .i64 s.sp)) ∧ W.cell? ⟨b, 3, none⟩ = some (.int .i64 x.lo) ∧ W.cell? ⟨b, 4, none⟩ = some (.int .i64 x.size) ∧ W.cell? ⟨b, 5, none⟩ = some (.int .i64 x.sp)
theorem Two.below {b : Nat} {s x : StV} {w W : World} (h : Two b s x w) (hb : Below w.heap.size w W) : Two b s x W := by
  have hlt := lt_of_cell' h.1.1
  have hc : ∀ k v, w.cell? ⟨b, k, none⟩ = some v → W.cell? ⟨b, k, none⟩ = some v := fun k v e => (hb.cell (p := ⟨b, k, none⟩) hlt).trans e
  exact ⟨⟨hc _ _ h.1.1, hc _ _ h.1.2.1, hc _ _ h.1.2.2⟩, hc _ _ h.2.1, hc _ _ h.2.2.1, hc _ _ h.2.2.2⟩
section
variable {w : World} {B p g len : Nat} {xs : List Nat}
set_option maxHeartbeats 2000000 in
/-- slices.IndexFunc of two stacks. -/
theorem c_wstidx2 (s x : StV) (t q : Nat) (ha : Ar w B p g len xs) (ht : w.cell? ⟨t, 0, none⟩ = some (.pointer (some ⟨p, 0, none⟩))) (hq : Two q s x w) (hs : in64 s.lo ∧ in64 s.size ∧ in64 s.sp) (hx : in64 x.lo ∧ in64 x.size ∧ in64 x.sp) (b : Bool) (hb : (stMay s len && stMay x len) = b) :
    Calls Tryz.prog 75 #[.slice (some ⟨q, 0, none⟩) 2 2, .func (.func 80) #[] #[.pointer (some ⟨t, 0, none⟩)]] w fun e w' => ∃ r : Int, e = .returned (.int .i64 r) ∧ (decide (0 ≤ r) = !b) ∧ Below w.heap.size w w' := by
  have hlt := lt_of_cell' ht
  obtain ⟨b1, hb1⟩ : ∃ b1, stMay s len = b1 := ⟨_, rfl⟩
  obtain ⟨b2, hb2⟩ : ∃ b2, stMay x len = b2 := ⟨_, rfl⟩
  have C1 : Hid (∀ W, Below w.heap.size w W → Calls Tryz.prog 80 #[stC s, .pointer (some ⟨t, 0, none⟩)] W fun e w' => e = .returned (.bool (!b1)) ∧ Below W.heap.size W w') := hidb (fun W hb' => c_wmay1 s t (ha.below hb' (Nat.le_refl _)) ((hb'.cell (p := ⟨t, 0, none⟩) hlt).trans ht) hs.1 hs.2.1 hs.2.2 b1 hb1)
  have C2 : Hid (∀ W, Below w.heap.size w W → Calls Tryz.prog 80 #[stC x, .pointer (some ⟨t, 0, none⟩)] W fun e w' => e = .returned (.bool (!b2)) ∧ Below W.heap.size W w') := hidb (fun W hb' => c_wmay1 x t (ha.below hb' (Nat.le_refl _)) ((hb'.cell (p := ⟨t, 0, none⟩) hlt).trans ht) hx.1 hx.2.1 hx.2.2 b2 hb2)
  have HC : Hid (∀ W, Below w.heap.size w W → Two q s x W) := hidb (fun W hb => hq.below hb)
  rw [hb1, hb2] at hb
  have HBV := hidb hb
  obtain ⟨lo, size, sp⟩ := s
  obtain ⟨lo2, size2, sp2⟩ := x
  unfold stC at C1 C2
  unfold Two at HC
  simp only at *
  clear ha ht hq hs hx hb hlt hb1 hb2
  go_enter Tryz.func75, Tryz.ntmps75
  go_wp2
  go_loopw [8] (fun k wr => ∃ j : Nat, j ≤ 2 ∧ Hid (1 ≤ j → b1 = true) ∧ Hid (2 ≤ j → b2 = true) ∧ k = .int .i64 j ∧ Hid (Below w.heap.size w wr)) (fun k _ => (2 - intOf k).toNat)
  case atStart => exact ⟨0, by omega, hidb (fun h => absurd h (by decide)), hidb (fun h => absurd h (by decide)), rfl, hidb (Below.refl _ _)⟩
  case round =>
    obtain ⟨j, hj, HA, HA2, rfl, HB⟩ := hrel
    obtain ⟨⟨hc0, hc1, hc2⟩, hc3, hc4, hc5⟩ := HC.out wr HB.out
    by_cases h0 : j = 0
    · subst h0
      have c1 := C1.out wr HB.out
      cases b1 with
      | false =>
        simp only [Bool.not_false] at c1
        --@1
        go_wp2_with (first | (go_at_call 80; (with_reducible refine c1.mono ?_); rintro e w1 ⟨rfl, hi1⟩))
        go_ret
        exact ⟨_, rfl, by rw [← HBV.out]; rfl, HB.out.trans (hi1.mono HB.out.size)⟩
      | true =>
        simp only [Bool.not_true] at c1
        --@2
        go_wp2_with (first | (go_at_call 80; (with_reducible refine c1.mono ?_); rintro e w1 ⟨rfl, hi1⟩))
        go_roundw
        case rel => exact ⟨1, by omega, hidb (fun _ => by first | rfl | trivial), hidb (fun h => absurd h (by decide)), by first | rfl | go_num, hidb (HB.out.trans (hi1.mono HB.out.size))⟩
        case measure => simp [intOf]
    · by_cases h1 : j = 1
      · subst h1
        have hb1t := HA.out (Nat.le_refl _)
        subst hb1t
        have c2 := C2.out wr HB.out
        cases b2 with
        | false =>
          simp only [Bool.not_false] at c2
          --@3
          go_wp2_with (first | (go_at_call 80; (with_reducible refine c2.mono ?_); rintro e w1 ⟨rfl, hi1⟩))
          go_ret
          exact ⟨_, rfl, by rw [← HBV.out]; rfl, HB.out.trans (hi1.mono HB.out.size)⟩
        | true =>
          simp only [Bool.not_true] at c2
          --@4
          go_wp2_with (first | (go_at_call 80; (with_reducible refine c2.mono ?_); rintro e w1 ⟨rfl, hi1⟩))
          go_roundw
          case rel => exact ⟨2, by omega, hidb (fun _ => by first | rfl | trivial), hidb (fun _ => by first | rfl | trivial), by first | rfl | go_num, hidb (HB.out.trans (hi1.mono HB.out.size))⟩
          case measure => simp [intOf]
      · obtain rfl : j = 2 := by omega
        have e1 := HA.out (by omega)
        have e2 := HA2.out (by omega)
        have HE : Hid (b = true) := hidb (by rw [← HBV.out, e1, e2]; rfl)
        clear e1 e2
        --@5
        go_wp2
        go_ret
        exact ⟨-1, rfl, by rw [HE.out]; rfl, HB.out⟩
theorem c_wsthas2 (s x : StV) (t q : Nat) (ha : Ar w B p g len xs) (ht : w.cell? ⟨t, 0, none⟩ = some (.pointer (some ⟨p, 0, none⟩))) (hq : Two q s x w) (hs : in64 s.lo ∧ in64 s.size ∧ in64 s.sp) (hx : in64 x.lo ∧ in64 x.size ∧ in64 x.sp) (b : Bool) (hb : (stMay s len && stMay x len) = b) :
    Calls Tryz.prog 44 #[.slice (some ⟨q, 0, none⟩) 2 2, .func (.func 80) #[] #[.pointer (some ⟨t, 0, none⟩)]] w fun e w' => e = .returned (.bool (!b)) ∧ Below w.heap.size w w' := by
  have c1 := c_wstidx2 s x t q ha ht hq hs hx b hb
  clear ha ht hq hs hx hb
  go_enter Tryz.func44, Tryz.ntmps44
  --@6
  go_wp2_with (first | (go_at_call 75; (with_reducible refine c1.mono ?_); rintro e w1 ⟨r, rfl, hrb, hb1⟩))
  go_ret
  exact ⟨by first | exact congrArg Ending.returned (congrArg Value.bool hrb) | (rw [← hrb]; rfl), hb1⟩
/-- May, of two stacks. -/
theorem code_wmay2 (s x : StV) (q : Nat) (ha : Ar w B p g len xs) (hq : Two q s x w) (hs : in64 s.lo ∧ in64 s.size ∧ in64 s.sp) (hx : in64 x.lo ∧ in64 x.size ∧ in64 x.sp) (b : Bool) (hb : (stMay s len && stMay x len) = b) :
    Calls Tryz.prog 58 #[.pointer (some ⟨p, 0, none⟩), .slice (some ⟨q, 0, none⟩) 2 2] w fun e w' => e = .returned (.bool b) ∧ Below w.heap.size w w' := by
  obtain ⟨X, hX⟩ : ∃ X, X = w.alloc (.cells #[.pointer (some ⟨p, 0, none⟩)] 32) := ⟨_, rfl⟩
  have hbX : Below w.heap.size w X := by rw [hX]; exact belF_al (Below.refl _ _) _
  have c1 := c_wsthas2 s x w.heap.size q (ha.below hbX (Nat.le_refl _)) (by rw [hX]; simp) (hq.below hbX) hs hx b hb
  have HB := hidb hbX
  have HX := hidb hX
  clear ha hq hs hx hb hX hbX
  cases b with
  | true =>
    simp only [Bool.not_true] at c1
    --@7
    go_enter Tryz.func58, Tryz.ntmps58
    go_wp2_with (first | (go_at_call 44; rw [← HX.out]; (with_reducible refine c1.mono ?_); rintro e w1 ⟨rfl, hb1⟩))
    go_ret
    exact ⟨rfl, belF_tr HB.out hb1⟩
  | false =>
    simp only [Bool.not_false] at c1
    --@8
    go_enter Tryz.func58, Tryz.ntmps58
    go_wp2_with (first | (go_at_call 44; rw [← HX.out]; (with_reducible refine c1.mono ?_); rintro e w1 ⟨rfl, hb1⟩))
    go_ret
    exact ⟨rfl, belF_tr HB.out hb1⟩
end
/-- What is thrown, and told. -/
def mvNo1 : PanicEntry := { v := .iface 109 (.agg #[]), recovered := false }
def mvNo9 : PanicEntry := { v := .iface 110 (.agg #[]), recovered := false }
def mvNo2 : PanicEntry := { v := .iface 111 (.agg #[]), recovered := false }
theorem mnil_no (W : World) (T : TypeId) (v : Value) : (binOp .eql 20 (.iface T v) .nilIface).run Tryz.prog W = .ok (.bool false) W := by kernel_rfl
theorem mnil_yes (W : World) : (binOp .eql 20 .nilIface .nilIface).run Tryz.prog W = .ok (.bool true) W := by kernel_rfl
theorem mta11 (W : World) (v : Value) : (Instr.typeAssert (.iface 109 v) 20 109 true).run Tryz.prog W = .ok (.tuple #[v, .bool true]) W := by kernel_rfl
theorem mta91 (W : World) (v : Value) : (Instr.typeAssert (.iface 110 v) 20 109 true).run Tryz.prog W = .ok (.tuple #[.agg #[], .bool false]) W := by kernel_rfl
theorem mta99 (W : World) (v : Value) : (Instr.typeAssert (.iface 110 v) 20 110 true).run Tryz.prog W = .ok (.tuple #[v, .bool true]) W := by kernel_rfl
theorem mta21 (W : World) (v : Value) : (Instr.typeAssert (.iface 111 v) 20 109 true).run Tryz.prog W = .ok (.tuple #[.agg #[], .bool false]) W := by kernel_rfl
theorem mta29 (W : World) (v : Value) : (Instr.typeAssert (.iface 111 v) 20 110 true).run Tryz.prog W = .ok (.tuple #[.agg #[], .bool false]) W := by kernel_rfl
theorem mta22 (W : World) (v : Value) : (Instr.typeAssert (.iface 111 v) 20 111 true).run Tryz.prog W = .ok (.tuple #[v, .bool true]) W := by kernel_rfl
theorem c_mtold0 (w : World) : Calls Tryz.prog 28 #[.nilIface] w fun e w' => e = .returned (.int .i64 0) ∧ w = w' := by
  have q := fun W => mnil_yes W
  go_enter Tryz.func28, Tryz.ntmps28
  go_wp2
  go_ret
  exact ⟨rfl, rfl⟩
theorem c_mtold1 (w : World) : Calls Tryz.prog 28 #[.iface 109 (.agg #[])] w fun e w' => e = .returned (.int .i64 1) ∧ w' = w.alloc (.cells #[] 109) := by
  have q := fun W => mnil_no W 109 (.agg #[])
  have qa := fun W => mta11 W (.agg #[])
  go_enter Tryz.func28, Tryz.ntmps28
  go_wp2
  go_ret
  exact ⟨rfl, rfl⟩
theorem c_mtold9 (w : World) : Calls Tryz.prog 28 #[.iface 110 (.agg #[])] w fun e w' => e = .returned (.int .i64 9) ∧ w' = w.alloc (.cells #[] 110) := by
  have q := fun W => mnil_no W 110 (.agg #[])
  have qa := fun W => mta91 W (.agg #[])
  have qb := fun W => mta99 W (.agg #[])
  go_enter Tryz.func28, Tryz.ntmps28
  go_wp2
  go_ret
  exact ⟨rfl, rfl⟩
theorem c_mtold2 (w : World) : Calls Tryz.prog 28 #[.iface 111 (.agg #[])] w fun e w' => e = .returned (.int .i64 2) ∧ w' = w.alloc (.cells #[] 111) := by
  have q := fun W => mnil_no W 111 (.agg #[])
  have qa := fun W => mta21 W (.agg #[])
  have qb := fun W => mta29 W (.agg #[])
  have qc := fun W => mta22 W (.agg #[])
  go_enter Tryz.func28, Tryz.ntmps28
  go_wp2
  go_ret
  exact ⟨rfl, rfl⟩
/-- The closure that To defers: what was thrown is told. -/
theorem catch_mv (T : TypeId) (no : Int) (ht : ∀ w : World, Calls Tryz.prog 28 #[.iface T (.agg #[])] w fun e w' => e = .returned (.int .i64 no) ∧ w' = w.alloc (.cells #[] T)) (p : Addr) (x : Int) (w : World) (hb : p.block < w.heap.size) (hc : w.cell? p = some (.int .i64 x)) (hz : w.frozen? p = false) :
    CallsD Tryz.prog 27 #[.pointer (some p)] (.panicking [{ v := .iface T (.agg #[]), recovered := false }]) w fun e u' w' =>
      e = .returned (.tuple #[]) ∧ u' = .panicking [{ v := .iface T (.agg #[]), recovered := true }] ∧ w' = (w.alloc (.cells #[] T)).setCell p (.int .i64 no) := by
  have hz' : (w.alloc (.cells #[] T)).frozen? p = false := by rw [((Below.refl w.heap.size w).alloc (Nat.le_refl _) _).frozen hb]; exact hz
  have hc' : (w.alloc (.cells #[] T)).cell? p = some (.int .i64 x) := by rw [World.cell?_alloc_lt _ _ _ hb]; exact hc
  refine callsD_of_wpS Tryz.func27 rfl fun c₀ cs' hu => ?_
  change Code.wpS _ _ _ { tmps := #[.pointer (some p), undef, undef], defers := [] } _ _
  apply wpS_region
  simp [wpOpsS, go_sem, recoverD, hu]
  refine (ht _).mono ?_
  rintro e w' ⟨rfl, rfl⟩
  simp [go_sem, hz', hc', bodyPostS, results, Tryz.results27]
theorem idle_mv (p : Addr) (x : Int) (w : World) (hc : w.cell? p = some (.int .i64 x)) (hz : w.frozen? p = false) :
    CallsD Tryz.prog 27 #[.pointer (some p)] .returning w fun e u' w' => e = .returned (.tuple #[]) ∧ u' = .returning ∧ w' = w.setCell p (.int .i64 0) := by
  refine callsD_of_wpS Tryz.func27 rfl fun c₀ cs' hu => ?_
  change Code.wpS _ _ _ { tmps := #[.pointer (some p), undef, undef], defers := [] } _ _
  apply wpS_region
  simp [wpOpsS, go_sem, recoverD, hu]
  refine (c_mtold0 _).mono ?_
  rintro e w' ⟨rfl, rfl⟩
  simp [go_sem, hz, hc, bodyPostS, results, Tryz.results27]
  cases c₀
  simp_all
end Go.Proofs.YtlniakcoikhilaaGreatDoor
