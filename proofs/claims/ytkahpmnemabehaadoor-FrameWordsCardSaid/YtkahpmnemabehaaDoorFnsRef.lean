/- What the document's own answers to layer 13 (fns) return. -/
import Derived.Test.YtkahpmnemabehaaDoorFnsRows
import Derived.Test.YtkahpmnemabehaaDoorBitRefD
import Derived.Lib.MinMax
namespace Go.Proofs.YtkahpmnemabehaaDoor
open Go.RowKit
set_option linter.unusedVariables false

theorem ref_fgreat (A : Option Addr) (n c : Nat) (ys : List FnV) (lo hi : Nat) (w : World) (hs : FnRow w lo hi A n ys) (hn : n ≤ 9223372036854775807) :
    Calls Tryd.prog 6 #[.slice A n c] w fun e w' => e = .returned (.bool (fGreat (vals ys))) ∧ w = w' := by
  have hl := hs.len
  by_cases hbig : 120 < n
  · have E : fGreat (vals ys) = true := by unfold fGreat; rw [vals_length, hl, decide_eq_true hbig]; rfl
    rw [E]
    clear hs E hl
    go_enter Tryd.func6, Tryd.ntmps6
    go_wp2
    go_ret
    exact ⟨rfl, rfl⟩
  · have E0 : fGreat (vals ys) = (vals ys).any fun f => decide (40 < f.2.length) := by unfold fGreat; rw [vals_length, hl, decide_eq_false hbig]; rfl
    have HE := hidb E0
    have HS := hidb hs
    have HL := hidb hl
    clear hs E0 hl
    go_enter Tryd.func6, Tryd.ntmps6
    go_wp2
    go_loop [9] (fun k => ∃ j : Nat, j ≤ n ∧ Hid (∀ i y, i < j → ys[i]? = some y → ¬ 40 < y.ws.length) ∧ k = .int .i64 j) (fun k => (n - intOf k).toNat)
    case atStart => exact ⟨0, by omega, hidb (fun i y h => absurd h (Nat.not_lt_zero _)), rfl⟩
    case round =>
      obtain ⟨j, hj, HA, rfl⟩ := hrel
      by_cases hlt : j < n
      · obtain ⟨b, off, y, rfl, _, hy, hc0, hc1, hok⟩ := HS.out.at_ hlt
        have HY := hidb hy
        have hyl := hok.len
        have hsm := hok.small
        have HYL := hidb hyl
        clear hy hok hyl
        by_cases hb : 40 < y.n
        · have HF : Hid (fGreat (vals ys) = true) := hidb (by
            rw [HE.out, List.any_eq_true]
            exact ⟨_, List.mem_of_getElem? (vals_at HY.out), decide_eq_true (by show 40 < y.ws.length; rw [HYL.out]; exact hb)⟩)
          go_wp2
          go_ret
          exact ⟨by rw [HF.out]; rfl, rfl⟩
        · go_wp2
          go_round
          case rel =>
            refine ⟨j + 1, by omega, hidb (fun i z hi hz => ?_), by go_num⟩
            by_cases e : i = j
            · subst e
              rw [HY.out] at hz
              obtain rfl := Option.some.inj hz
              rw [HYL.out]; exact hb
            · exact HA.out i z (by omega) hz
          case measure => simp [intOf]; omega
      · have HF : Hid (fGreat (vals ys) = false) := hidb (by
          rw [HE.out, List.any_eq_false]
          intro f hf
          obtain ⟨y, hy, rfl⟩ := List.mem_map.1 hf
          obtain ⟨i, hi, rfl⟩ := List.getElem_of_mem hy
          have := HA.out i _ (by have := HL.out; omega) (List.getElem?_eq_getElem hi)
          exact fun c => this (of_decide_eq_true c))
        go_wp2
        go_ret
        exact ⟨by rw [HF.out]; rfl, rfl⟩

theorem ref_fmay (y : FnV) (lo hi : Nat) (w : World) (hy : FvOk w lo hi y) (hhi : hi ≤ w.heap.size) (hn : y.n ≤ 1000) :
    Calls Tryd.prog 22 #[.agg #[.int .i64 y.sz, .slice y.A y.n y.c]] w fun e w' => e = .returned (.bool (fMay y.sz y.ws)) ∧ w' = w.alloc (.cells #[.int .i64 y.sz, .slice y.A y.n y.c] 47) := by
  obtain ⟨s, A, n, c, ws⟩ := y
  have hin : in64 s := hy.inn
  unfold in64 at hin
  simp only at hn
  by_cases h0 : 0 ≤ s
  · by_cases h1 : s ≤ 1000
    · have hl : ws.length = n := hy.len
      have HE := hidb (fMay_in s ws ⟨h0, h1⟩)
      have hsl : Sl w hi A n (ws.map wv) := hy.sl
      have hwd : Wd ws := hy.wd
      have cb := fun (i : Int) a b => ref_bhas A n c ws i (w.alloc (.cells #[.int .i64 s, .slice A n c] 47)) hi (hsl.alloc hhi _) (by omega) hwd a b
      have HL := hidb hl
      clear hy hsl hwd hl
      show Calls _ _ #[.agg #[.int .i64 s, .slice A n c]] w _
      go_enter Tryd.func22, Tryd.ntmps22
      go_wp2
      go_loop [3] (fun k => ∃ i : Int, s ≤ i ∧ (i ≤ 64 * n ∨ i = s) ∧ Hid (∀ j : Nat, s ≤ (j : Int) → (j : Int) < i → bHas ws (j : Int) = false) ∧ k = .int .i64 i) (fun k => (64 * (n : Int) - intOf k).toNat)
      case atStart => exact ⟨s, by omega, Or.inr rfl, hidb (fun j a b => by omega), rfl⟩
      case round =>
        obtain ⟨i, hi1, hi2, HA, rfl⟩ := hrel
        by_cases hlt : i < 64 * n
        · have hc := cb i (by omega) (by omega)
          cases hB : bHas ws i with
          | true =>
            rw [hB] at hc
            have HF : Hid (fMay s ws = false) := hidb (by
              rw [HE.out]
              exact bIn_false ws s i.toNat (by rw [Int.toNat_of_nonneg (by omega)]; exact hB) (by omega))
            clear hB cb hi2
            go_wp2_with (go_at_call 37; (with_reducible refine hc.mono ?_); rintro e w' ⟨rfl, rfl⟩)
            go_ret
            exact ⟨by show _ = Ending.returned (.bool (fMay s ws)); rw [HF.out]; rfl, rfl⟩
          | false =>
            rw [hB] at hc
            have HB := hidb hB
            clear hB cb hi2
            go_wp2_with (go_at_call 37; (with_reducible refine hc.mono ?_); rintro e w' ⟨rfl, rfl⟩)
            go_round
            case rel =>
              refine ⟨i + 1, by omega, Or.inl (by omega), hidb (fun j a b => ?_), rfl⟩
              by_cases e : (j : Int) = i
              · rw [e]; exact HB.out
              · exact HA.out j a (by omega)
            case measure => simp [intOf]; omega
        · have HF : Hid (fMay s ws = true) := hidb (by
            rw [HE.out]
            exact bIn_true ws s (fun j hj hs => HA.out j hs (by rw [HL.out] at hj; omega)))
          clear cb hi2
          go_wp2
          go_ret
          exact ⟨by show _ = Ending.returned (.bool (fMay s ws)); rw [HF.out]; rfl, rfl⟩
    · have HE := hidb (fMay_no s ws (by omega))
      clear hy
      show Calls _ _ #[.agg #[.int .i64 s, .slice A n c]] w _
      go_enter Tryd.func22, Tryd.ntmps22
      go_wp2
      go_ret
      exact ⟨by show _ = Ending.returned (.bool (fMay s ws)); rw [HE.out]; rfl, rfl⟩
  · have HE := hidb (fMay_no s ws (by omega))
    clear hy
    show Calls _ _ #[.agg #[.int .i64 s, .slice A n c]] w _
    go_enter Tryd.func22, Tryd.ntmps22
    go_wp2
    go_ret
    exact ⟨by show _ = Ending.returned (.bool (fMay s ws)); rw [HE.out]; rfl, rfl⟩

theorem ref_fmayB (y : FnV) (lo hi : Nat) (w : World) (hy : FvOk w lo hi y) (hhi : hi ≤ w.heap.size) (hn : y.n ≤ 1000) :
    Calls Tryd.prog 22 #[.agg #[.int .i64 y.sz, .slice y.A y.n y.c]] w fun e w' => e = .returned (.bool (fMay y.sz y.ws)) ∧ Below w.heap.size w w' :=
  (ref_fmay y lo hi w hy hhi hn).mono fun e w' ⟨h1, h2⟩ => ⟨h1, by rw [h2]; exact (Below.refl _ _).alloc (Nat.le_refl _) _⟩

theorem ref_fall (A : Option Addr) (n c : Nat) (ys : List FnV) (lo : Nat) (w : World) (hs : FnRow w lo w.heap.size A n ys) (hn : n ≤ 1000) (hw : ∀ y ∈ ys, y.n ≤ 1000) :
    Calls Tryd.prog 9 #[.slice A n c] w fun e w' => e = .returned (.bool (fTab (vals ys))) ∧ Below w.heap.size w w' := by
  have HL := hidb hs.len
  have HW := hidb hw
  have HS := hidb hs
  clear hs hw
  go_enter Tryd.func9, Tryd.ntmps9
  go_wp2
  go_loopw [6] (fun k wr => ∃ j : Nat, j ≤ n ∧ Hid (∀ i y, i < j → ys[i]? = some y → fMay y.sz y.ws = true) ∧ Below w.heap.size w wr ∧ k = .int .i64 j) (fun k _ => (n - intOf k).toNat)
  case atStart => exact ⟨0, by omega, hidb (fun i y h => absurd h (Nat.not_lt_zero _)), Below.refl _ _, rfl⟩
  case round =>
    obtain ⟨j, hj, HA, hbel, rfl⟩ := hrel
    by_cases hlt : j < n
    · obtain ⟨b, off, y, rfl, _, hy, hc0, hc1, hok⟩ := (HS.out.below hbel).at_ hlt
      have HY := hidb hy
      have cm := ref_fmayB y lo _ wr hok hbel.size (HW.out y (List.mem_of_getElem? hy))
      have hsz := hbel.size
      have HB := hidb hbel
      clear hy hok hbel
      cases hM : fMay y.sz y.ws with
      | true =>
        rw [hM] at cm
        have HM := hidb hM
        clear hM
        go_wp2_with (go_at_call 22; (with_reducible refine cm.mono ?_); rintro e w' ⟨rfl, hb1⟩)
        have HB1 := hidb (HB.out.trans (hb1.mono hsz))
        clear hb1
        go_roundw
        case rel =>
          refine ⟨j + 1, by omega, hidb (fun i z hi hz => ?_), HB1.out, by go_num⟩
          by_cases e : i = j
          · subst e
            rw [HY.out] at hz
            obtain rfl := Option.some.inj hz
            exact HM.out
          · exact HA.out i z (by omega) hz
        case measure => simp [intOf]; omega
      | false =>
        rw [hM] at cm
        have HF : Hid (fTab (vals ys) = false) := hidb (by unfold fTab; rw [fAll_bad (vals_at HY.out) hM]; rfl)
        clear hM
        go_wp2_with (go_at_call 22; (with_reducible refine cm.mono ?_); rintro e w' ⟨rfl, hb1⟩)
        go_ret
        exact ⟨by rw [HF.out]; rfl, HB.out.trans (hb1.mono hsz)⟩
    · have HB := hidb hbel
      have HF : Hid (fTab (vals ys) = decide (1 ≤ n ∧ n ≤ 100)) := hidb (by
        have : fAll (vals ys) = true := by
          unfold fAll; rw [List.all_eq_true]
          intro f hf
          obtain ⟨y, hy, rfl⟩ := List.mem_map.1 hf
          obtain ⟨i, hi, rfl⟩ := List.getElem_of_mem hy
          exact HA.out i _ (by have := HL.out; omega) (List.getElem?_eq_getElem hi)
        unfold fTab; rw [this, Bool.true_and, vals_length, HL.out])
      clear hbel
      by_cases g1 : 1 ≤ n
      · have g1' : (1 : Int) ≤ (n : Int) := by omega
        by_cases g2 : n ≤ 100
        · have HG : Hid (fTab (vals ys) = true) := hidb (by rw [HF.out]; exact decide_eq_true ⟨g1, g2⟩)
          have g2' : decide ((n : Int) ≤ 100) = true := decide_eq_true (by omega)
          go_wp2
          go_ret
          exact ⟨by rw [HG.out]; rfl, HB.out⟩
        · have HG : Hid (fTab (vals ys) = false) := hidb (by rw [HF.out]; exact decide_eq_false (by omega))
          have g2' : decide ((n : Int) ≤ 100) = false := decide_eq_false (by omega)
          go_wp2
          go_ret
          exact ⟨by rw [HG.out]; rfl, HB.out⟩
      · have HG : Hid (fTab (vals ys) = false) := hidb (by rw [HF.out]; exact decide_eq_false (by omega))
        obtain rfl : n = 0 := by omega
        go_wp2
        go_ret
        exact ⟨by rw [HG.out]; rfl, HB.out⟩

end Go.Proofs.YtkahpmnemabehaaDoor
