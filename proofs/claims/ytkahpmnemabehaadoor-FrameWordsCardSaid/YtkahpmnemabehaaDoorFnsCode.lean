/- What each function of layer 13 (fns) returns: one function, and a row of them. -/
import Derived.Test.YtkahpmnemabehaaDoorFnsRows
import Derived.Test.YtkahpmnemabehaaDoorBitCodeD
import Derived.Test.YtkahpmnemabehaaDoorTabDB
import Derived.Lib.MinMax
import Derived.Deep.RegionHeld3
import Derived.Deep.RegionLaw
import Derived.Deep.Cut
import Derived.Deep.CutRange
namespace Go.Proofs.YtkahpmnemabehaaDoor
open Go.RowKit
set_option linter.unusedVariables false

theorem belF_al {W X : World} (h : Below W.heap.size W X) (o : Obj) : Below W.heap.size W (X.alloc o) := h.alloc h.size o
theorem belF_dr {W X : World} (h : Below W.heap.size W X) : Below W.heap.size W X.drew := h.drew
theorem belF_tr {W X Y : World} (h : Below W.heap.size W X) (k : Below X.heap.size X Y) : Below W.heap.size W Y := h.trans (k.mono h.size)
theorem new2 (w : World) (a b : Value) (t : TypeId) : (w.alloc (.cells #[a, b] t)).cell? ⟨w.heap.size, 0, none⟩ = some a ∧ (w.alloc (.cells #[a, b] t)).cell? ⟨w.heap.size, 1, none⟩ = some b := by
  constructor <;> simp [go_sem]
/-- A block of two cells. -/
def C2 (W : World) (b : Nat) (x y : Value) : Prop := W.cell? ⟨b, 0, none⟩ = some x ∧ W.cell? ⟨b, 1, none⟩ = some y
theorem C2.lt {W : World} {b : Nat} {x y : Value} (h : C2 W b x y) : b < W.heap.size := lt_of_cell h.1
theorem C2.below {W W' : World} {b : Nat} {x y : Value} (h : C2 W b x y) (hb : Below W.heap.size W W') : C2 W' b x y :=
  ⟨(hb.cell (p := ⟨b, 0, none⟩) h.lt).trans h.1, (hb.cell (p := ⟨b, 1, none⟩) h.lt).trans h.2⟩

set_option maxHeartbeats 1000000 in
theorem code_fmay (y : FnV) (lo : Nat) (w : World) (hy : FvOk w lo w.heap.size y) (hn : y.n ≤ 1000) :
    Calls Tryd.prog 42 #[.agg #[.int .i64 y.sz, .slice y.A y.n y.c]] w fun e w' => e = .returned (.bool (fMay y.sz y.ws)) ∧ Below w.heap.size w w' := by
  obtain ⟨s, A, n, c, ws⟩ := y
  have hin : in64 s := hy.inn
  unfold in64 at hin
  simp only at hn
  obtain ⟨W0, hW0⟩ : ∃ W0, W0 = w.alloc (.cells #[.int .i64 s, .slice A n c] 69) := ⟨_, rfl⟩
  have HB0 : Hid (Below w.heap.size w W0) := hidb (by rw [hW0]; exact (Below.refl _ _).alloc (Nat.le_refl _) _)
  have hzz : W0.heap.size = w.heap.size + 1 := by rw [hW0]; simp
  have hC0 : C2 W0 w.heap.size (.int .i64 s) (.slice A n c) := by rw [hW0]; exact new2 _ _ _ _
  have HX : Hid (∀ W, Below W0.heap.size W0 W → W.cell? ⟨w.heap.size, 0, none⟩ = some (.int .i64 s) ∧ W.cell? ⟨w.heap.size, 1, none⟩ = some (.slice A n c)) := hidb (fun W hb => hC0.below hb)
  have hok0 := hy.below HB0.out
  have HW0 := hidb hW0
  have HZZ := hidb hzz
  clear hW0 hC0 hy hzz
  show Calls _ _ #[.agg #[.int .i64 s, .slice A n c]] w _
  by_cases h0 : 0 ≤ s
  · by_cases h1 : s ≤ 1000
    · have hl : ws.length = n := hok0.len
      have E : Hid ((((bBits ws (64 * n)).length : Int) == ((bBits ws (min s.toNat (64 * n))).length : Int)) = fMay s ws) := hidb (by
        rw [fMay_in s ws ⟨h0, h1⟩, ← bIn_count ws s h0, hl])
      have CT : ∀ m : Int, in64 m → ∀ W, Below W0.heap.size W0 W → Calls Tryd.prog 47 #[.slice A n c, .int .i64 m] W fun e w' => e = .returned (.int .i64 ((bBits ws (min m.toNat (64 * n))).length : Nat)) ∧ Below W0.heap.size W0 w' := fun m hm W hb => by
        have hz := HZZ.out
        have hbz := hb.size
        refine (code_bcount A n c ws m W ((hok0.sl.more (by omega)).below hb |>.more (by omega)) (by omega) hok0.nc hok0.cm hok0.na hok0.wd hm.1 hm.2).mono ?_
        rintro e w' ⟨rfl, h⟩
        exact ⟨rfl, belF_tr hb h⟩
      have C1 := CT 9223372036854775807 ⟨by omega, by omega⟩
      rw [show min (9223372036854775807 : Int).toNat (64 * n) = 64 * n by rw [show (9223372036854775807 : Int).toNat = 9223372036854775807 from rfl]; omega] at C1
      have HC1 := hidb C1
      have HC2 := hidb (CT s hin)
      have d0 : decide (0 ≤ s) = true := decide_eq_true h0
      have d1 : decide (s ≤ 1000) = true := decide_eq_true h1
      clear C1 CT hok0 hl
      generalize (bBits ws (64 * n)).length = a1 at *
      generalize (bBits ws (min s.toNat (64 * n))).length = a2 at *
      go_enter Tryd.func42, Tryd.ntmps42
      go_wp2
      rw [← HW0.out]
      obtain ⟨c0, c1⟩ := HX.out W0 (Below.refl _ _)
      go_region_held3 (fun W => W.cell? ⟨w.heap.size, 0, none⟩ = some (.int .i64 s) ∧ W.cell? ⟨w.heap.size, 1, none⟩ = some (.slice A n c))
        (with_reducible exact HX.out _ (by repeat (first | with_reducible exact Below.refl _ _ | with_reducible exact Hid.out (by assumption) | with_reducible apply belF_al | with_reducible apply belF_dr)))
        (first
          | (go_at_call 47; ((with_reducible refine (HC1.out _ (by repeat (first | with_reducible exact Below.refl _ _ | with_reducible exact Hid.out (by assumption) | with_reducible apply belF_al | with_reducible apply belF_dr))).mono ?_); rintro e w1 ⟨rfl, hb1⟩; have HB1 := hidb hb1; clear hb1))
          | (go_at_call 47; ((with_reducible refine (HC2.out _ (by repeat (first | with_reducible exact Below.refl _ _ | with_reducible exact Hid.out (by assumption) | with_reducible apply belF_al | with_reducible apply belF_dr))).mono ?_); rintro e w2 ⟨rfl, hb2⟩; have HB2 := hidb hb2; clear hb2)))
      all_goals go_wp2
      all_goals go_ret
      all_goals first
        | exact ⟨congrArg (fun b => Ending.returned (.bool b)) E.out, HB0.out.trans (HB2.out.mono HB0.out.size)⟩
        | exact ⟨congrArg (fun b => Ending.returned (.bool b)) E.out, HB0.out.trans (HB1.out.mono HB0.out.size)⟩
    · have HE := hidb (fMay_no s ws (by omega))
      have d0 : decide (0 ≤ s) = true := decide_eq_true h0
      have d1 : decide (s ≤ 1000) = false := decide_eq_false h1
      obtain ⟨c0, c1⟩ := HX.out W0 (Below.refl _ _)
      clear hok0
      go_enter Tryd.func42, Tryd.ntmps42
      go_wp2
      rw [← HW0.out]
      go_quiet (fail)
      go_wp2
      go_ret
      exact ⟨by rw [HE.out]; rfl, belowN HB0.out _⟩
  · have HE := hidb (fMay_no s ws (by omega))
    have d0 : decide (0 ≤ s) = false := decide_eq_false h0
    obtain ⟨c0, c1⟩ := HX.out W0 (Below.refl _ _)
    clear hok0
    go_enter Tryd.func42, Tryd.ntmps42
    go_wp2
    rw [← HW0.out]
    go_quiet (fail)
    go_wp2
    go_ret
    exact ⟨by rw [HE.out]; rfl, belowN HB0.out _⟩

theorem code_fwords (y : FnV) (w : World) (h0 : 0 ≤ y.sz) (h1 : y.sz ≤ 1000) :
    Calls Tryd.prog 39 #[.agg #[.int .i64 y.sz, .slice y.A y.n y.c]] w fun e w' => e = .returned (.int .i64 (y.sz + 2)) ∧ Below w.heap.size w w' := by
  obtain ⟨s, A, n, c, ws⟩ := y
  simp only at h0 h1
  show Calls _ _ #[.agg #[.int .i64 s, .slice A n c]] w _
  go_enter Tryd.func39, Tryd.ntmps39
  go_wp2
  go_ret
  exact ⟨congrArg (fun z => Ending.returned (.int .i64 z)) (by omega), (Below.refl _ _).alloc (Nat.le_refl _) _⟩

/-- What the closure that May hands on answers. -/
theorem code_fmayfn (y : FnV) (lo : Nat) (w : World) (hy : FvOk w lo w.heap.size y) (hn : y.n ≤ 1000) :
    Calls Tryd.prog 41 #[.agg #[.int .i64 y.sz, .slice y.A y.n y.c]] w fun e w' => e = .returned (.bool (!fMay y.sz y.ws)) ∧ Below w.heap.size w w' := by
  obtain ⟨W0, hW0⟩ : ∃ W0, W0 = w.alloc (.cells #[.int .i64 y.sz, .slice y.A y.n y.c] 47) := ⟨_, rfl⟩
  have HB0 : Hid (Below w.heap.size w W0) := hidb (by rw [hW0]; exact (Below.refl _ _).alloc (Nat.le_refl _) _)
  have cm := code_fmay y lo W0 ((hy.below HB0.out).more (Nat.le_refl _) HB0.out.size) hn
  rw [hW0] at cm
  obtain ⟨s, A, n, c, ws⟩ := y
  have HZ := hidb HB0.out.size
  rw [hW0] at HB0 HZ
  clear hW0 hy
  simp only at cm HB0 HZ ⊢
  generalize fMay s ws = b at *
  go_enter Tryd.func41, Tryd.ntmps41
  go_wp2_with (go_at_call 42; (with_reducible refine cm.mono ?_); rintro e w1 ⟨rfl, hb1⟩)
  go_ret
  exact ⟨by first | rfl | simp, HB0.out.trans (hb1.mono HZ.out)⟩

theorem code_findex (A : Option Addr) (n c : Nat) (ys : List FnV) (lo : Nat) (w : World) (hs : FnRow w lo w.heap.size A n ys) (hn : n ≤ 1000) (hw : ∀ y ∈ ys, y.n ≤ 1000) :
    Calls Tryd.prog 46 #[.slice A n c, .func (.func 41) #[] #[]] w fun e w' => (∃ r : Int, e = .returned (.int .i64 r) ∧ -1 ≤ r ∧ r ≤ 9223372036854775807 ∧ decide (0 ≤ r) = !fAll (vals ys)) ∧ Below w.heap.size w w' := by
  have HL := hidb hs.len
  have HW := hidb hw
  have HS := hidb hs
  clear hs hw
  go_enter Tryd.func46, Tryd.ntmps46
  go_wp2
  go_loopw [8] (fun k wr => ∃ j : Nat, j ≤ n ∧ Hid (∀ i y, i < j → ys[i]? = some y → fMay y.sz y.ws = true) ∧ Below w.heap.size w wr ∧ k = .int .i64 j) (fun k _ => (n - intOf k).toNat)
  case atStart => exact ⟨0, by omega, hidb (fun i y h => absurd h (Nat.not_lt_zero _)), Below.refl _ _, rfl⟩
  case round =>
    obtain ⟨j, hj, HA, hbel, rfl⟩ := hrel
    by_cases hlt : j < n
    · obtain ⟨b, off, y, rfl, _, hy, hc0, hc1, hok⟩ := (HS.out.below hbel).at_ hlt
      have HY := hidb hy
      have cm := code_fmayfn y lo wr (hok.more (Nat.le_refl _) hbel.size) (HW.out y (List.mem_of_getElem? hy))
      have hsz := hbel.size
      have HB := hidb hbel
      clear hy hok hbel
      cases hM : fMay y.sz y.ws with
      | true =>
        rw [hM] at cm
        have HM := hidb hM
        clear hM
        go_wp2_with (go_at_call 41; (with_reducible refine cm.mono ?_); rintro e w' ⟨rfl, hb1⟩)
        have HB1 := hidb (HB.out.trans (hb1.mono hsz))
        clear hb1
        go_roundw
        case rel =>
          refine ⟨j + 1, by omega, hidb (fun i z hi hz => ?_), HB1.out, by go_num⟩
          by_cases e : i = j
          · subst e
            rw [HY.out] at hz
            obtain rfl := Option.some.inj hz
            exact HM.out
          · exact HA.out i z (by omega) hz
        case measure => simp [intOf]; omega
      | false =>
        rw [hM] at cm
        have HF : Hid (fAll (vals ys) = false) := hidb (fAll_bad (vals_at HY.out) hM)
        clear hM
        go_wp2_with (go_at_call 41; (with_reducible refine cm.mono ?_); rintro e w' ⟨rfl, hb1⟩)
        go_ret
        exact ⟨⟨(j : Int), rfl, by omega, by omega, by rw [HF.out]; exact decide_eq_true (by omega)⟩, HB.out.trans (hb1.mono hsz)⟩
    · have HB := hidb hbel
      have HF : Hid (fAll (vals ys) = true) := hidb (by
        unfold fAll; rw [List.all_eq_true]
        intro f hf
        obtain ⟨y, hy, rfl⟩ := List.mem_map.1 hf
        obtain ⟨i, hi, rfl⟩ := List.getElem_of_mem hy
        exact HA.out i _ (by have := HL.out; omega) (List.getElem?_eq_getElem hi))
      clear hbel
      go_wp2
      go_ret
      exact ⟨⟨-1, rfl, by omega, by omega, by rw [HF.out]; exact decide_eq_false (by omega)⟩, HB.out⟩
theorem code_fcontains (A : Option Addr) (n c : Nat) (ys : List FnV) (lo : Nat) (w : World) (hs : FnRow w lo w.heap.size A n ys) (hn : n ≤ 1000) (hw : ∀ y ∈ ys, y.n ≤ 1000) :
    Calls Tryd.prog 40 #[.slice A n c, .func (.func 41) #[] #[]] w fun e w' => e = .returned (.bool (!fAll (vals ys))) ∧ Below w.heap.size w w' := by
  have hcon := code_findex A n c ys lo w hs hn hw
  clear hs hw
  generalize (!fAll (vals ys)) = r at hcon ⊢
  go_enter Tryd.func40, Tryd.ntmps40
  go_wp2_with (go_at_call 46; (with_reducible refine hcon.mono ?_); rintro e w' ⟨⟨k, rfl, hk0, hk1, hk2⟩, hb⟩)
  go_ret
  exact ⟨congrArg Ending.returned (congrArg Value.bool (by first | rfl | assumption)), hb⟩
theorem code_fMay (A : Option Addr) (n c : Nat) (ys : List FnV) (lo : Nat) (w : World) (hs : FnRow w lo w.heap.size A n ys) (hn : n ≤ 1000) (hw : ∀ y ∈ ys, y.n ≤ 1000) :
    Calls Tryd.prog 28 #[.slice A n c] w fun e w' => e = .returned (.bool (fAll (vals ys))) ∧ Below w.heap.size w w' := by
  have hcon := code_fcontains A n c ys lo w hs hn hw
  clear hs hw
  generalize fAll (vals ys) = r at hcon ⊢
  go_enter Tryd.func28, Tryd.ntmps28
  go_wp2_with (go_at_call 40; (with_reducible refine hcon.mono ?_); rintro e w' ⟨rfl, hb⟩)
  go_ret
  exact ⟨by first | rfl | simp, hb⟩

end Go.Proofs.YtkahpmnemabehaaDoor
