/- What the document's own answers to layer 13 (fns) return. -/
import Derived.Test.YtieknifbmamdaaaDoorFnsRows
import Derived.Test.YtieknifbmamdaaaDoorBitRefD
import Derived.Lib.MinMax
namespace Go.Proofs.YtieknifbmamdaaaDoor
open Go.RowKit
set_option linter.unusedVariables false

theorem ref_fgreat (A : Option Addr) (n c : Nat) (ys : List FnV) (lo hi : Nat) (w : World) (hs : FnRow w lo hi A n ys) (hn : n ≤ 9223372036854775807) :
    Calls Tryd.prog 7 #[.slice A n c] w fun e w' => e = .returned (.bool (fGreat (vals ys))) ∧ w = w' := by
  have hl := hs.len
  by_cases hbig : 120 < n
  · have E : fGreat (vals ys) = true := by unfold fGreat; rw [vals_length, hl, decide_eq_true hbig]; rfl
    rw [E]
    clear hs E hl
    go_enter Tryd.func7, Tryd.ntmps7
    go_wp2
    go_ret
    exact ⟨rfl, rfl⟩
  · have E0 : fGreat (vals ys) = (vals ys).any fun f => decide (40 < f.2.length) := by unfold fGreat; rw [vals_length, hl, decide_eq_false hbig]; rfl
    have HE := hidb E0
    have HS := hidb hs
    have HL := hidb hl
    clear hs E0 hl
    go_enter Tryd.func7, Tryd.ntmps7
    go_wp2
    go_loop [9] (fun k => ∃ j : Nat, j ≤ n ∧ Hid (∀ i y, i < j → ys[i]? = some y → ¬ 40 < y.ws.length) ∧ k = .int .i64 j) (fun k => (n - intOf k).toNat)
    case atStart => exact ⟨0, by omega, hidb (fun i y h => absurd h (Nat.not_lt_zero _)), rfl⟩
    case round =>
      obtain ⟨j, hj, HA, rfl⟩ := hrel
      by_cases hlt : j < n
      · obtain ⟨b, off, y, rfl, _, hy, hc0, hc1, hok⟩ := HS.out.at_ hlt
        have HY := hidb hy
        have hyl := hok.len
        have hsm := hok.small
        have HYL := hidb hyl
        clear hy hok hyl
        by_cases hb : 40 < y.n
        · have HF : Hid (fGreat (vals ys) = true) := hidb (by
            rw [HE.out, List.any_eq_true]
            exact ⟨_, List.mem_of_getElem? (vals_at HY.out), decide_eq_true (by show 40 < y.ws.length; rw [HYL.out]; exact hb)⟩)
          go_wp2
          go_ret
          exact ⟨by rw [HF.out]; rfl, rfl⟩
        · go_wp2
          go_round
          case rel =>
            refine ⟨j + 1, by omega, hidb (fun i z hi hz => ?_), by go_num⟩
            by_cases e : i = j
            · subst e
              rw [HY.out] at hz
              obtain rfl := Option.some.inj hz
              rw [HYL.out]; exact hb
            · exact HA.out i z (by omega) hz
          case measure => simp [intOf]; omega
      · have HF : Hid (fGreat (vals ys) = false) := hidb (by
          rw [HE.out, List.any_eq_false]
          intro f hf
          obtain ⟨y, hy, rfl⟩ := List.mem_map.1 hf
          obtain ⟨i, hi, rfl⟩ := List.getElem_of_mem hy
          have := HA.out i _ (by have := HL.out; omega) (List.getElem?_eq_getElem hi)
          exact fun c => this (of_decide_eq_true c))
        go_wp2
        go_ret
        exact ⟨by rw [HF.out]; rfl, rfl⟩

theorem ref_fmay (y : FnV) (lo hi : Nat) (w : World) (hy : FvOk w lo hi y) (hhi : hi ≤ w.heap.size) (hn : y.n ≤ 1000) :
    Calls Tryd.prog 9 #[.agg #[.int .i64 y.sz, .slice y.A y.n y.c]] w fun e w' => e = .returned (.bool (fMay y.sz y.ws)) ∧ w' = w.alloc (.cells #[.int .i64 y.sz, .slice y.A y.n y.c] 28) := by
  obtain ⟨s, A, n, c, ws⟩ := y
  have hin : in64 s := hy.inn
  unfold in64 at hin
  simp only at hn
  by_cases h0 : 0 ≤ s
  · by_cases h1 : s ≤ 1000
    · have hl : ws.length = n := hy.len
      have HE := hidb (fMay_in s ws ⟨h0, h1⟩)
      have hsl : Sl w hi A n (ws.map wv) := hy.sl
      have hwd : Wd ws := hy.wd
      have cb := fun (i : Int) a b => ref_bhas A n c ws i (w.alloc (.cells #[.int .i64 s, .slice A n c] 28)) hi (hsl.alloc hhi _) (by omega) hwd a b
      have HL := hidb hl
      clear hy hsl hwd hl
      show Calls _ _ #[.agg #[.int .i64 s, .slice A n c]] w _
      go_enter Tryd.func9, Tryd.ntmps9
      go_wp2
      go_loop [3] (fun k => ∃ i : Int, s ≤ i ∧ (i ≤ 64 * n ∨ i = s) ∧ Hid (∀ j : Nat, s ≤ (j : Int) → (j : Int) < i → bHas ws (j : Int) = false) ∧ k = .int .i64 i) (fun k => (64 * (n : Int) - intOf k).toNat)
      case atStart => exact ⟨s, by omega, Or.inr rfl, hidb (fun j a b => by omega), rfl⟩
      case round =>
        obtain ⟨i, hi1, hi2, HA, rfl⟩ := hrel
        by_cases hlt : i < 64 * n
        · have hc := cb i (by omega) (by omega)
          cases hB : bHas ws i with
          | true =>
            rw [hB] at hc
            have HF : Hid (fMay s ws = false) := hidb (by
              rw [HE.out]
              exact bIn_false ws s i.toNat (by rw [Int.toNat_of_nonneg (by omega)]; exact hB) (by omega))
            clear hB cb hi2
            go_wp2_with (go_at_call 26; (with_reducible refine hc.mono ?_); rintro e w' ⟨rfl, rfl⟩)
            go_ret
            exact ⟨by show _ = Ending.returned (.bool (fMay s ws)); rw [HF.out]; rfl, rfl⟩
          | false =>
            rw [hB] at hc
            have HB := hidb hB
            clear hB cb hi2
            go_wp2_with (go_at_call 26; (with_reducible refine hc.mono ?_); rintro e w' ⟨rfl, rfl⟩)
            go_round
            case rel =>
              refine ⟨i + 1, by omega, Or.inl (by omega), hidb (fun j a b => ?_), rfl⟩
              by_cases e : (j : Int) = i
              · rw [e]; exact HB.out
              · exact HA.out j a (by omega)
            case measure => simp [intOf]; omega
        · have HF : Hid (fMay s ws = true) := hidb (by
            rw [HE.out]
            exact bIn_true ws s (fun j hj hs => HA.out j hs (by rw [HL.out] at hj; omega)))
          clear cb hi2
          go_wp2
          go_ret
          exact ⟨by show _ = Ending.returned (.bool (fMay s ws)); rw [HF.out]; rfl, rfl⟩
    · have HE := hidb (fMay_no s ws (by omega))
      clear hy
      show Calls _ _ #[.agg #[.int .i64 s, .slice A n c]] w _
      go_enter Tryd.func9, Tryd.ntmps9
      go_wp2
      go_ret
      exact ⟨by show _ = Ending.returned (.bool (fMay s ws)); rw [HE.out]; rfl, rfl⟩
  · have HE := hidb (fMay_no s ws (by omega))
    clear hy
    show Calls _ _ #[.agg #[.int .i64 s, .slice A n c]] w _
    go_enter Tryd.func9, Tryd.ntmps9
    go_wp2
    go_ret
    exact ⟨by show _ = Ending.returned (.bool (fMay s ws)); rw [HE.out]; rfl, rfl⟩

theorem ref_fmayB (y : FnV) (lo hi : Nat) (w : World) (hy : FvOk w lo hi y) (hhi : hi ≤ w.heap.size) (hn : y.n ≤ 1000) :
    Calls Tryd.prog 9 #[.agg #[.int .i64 y.sz, .slice y.A y.n y.c]] w fun e w' => e = .returned (.bool (fMay y.sz y.ws)) ∧ Below w.heap.size w w' :=
  (ref_fmay y lo hi w hy hhi hn).mono fun e w' ⟨h1, h2⟩ => ⟨h1, by rw [h2]; exact (Below.refl _ _).alloc (Nat.le_refl _) _⟩

theorem ref_fall (A : Option Addr) (n c : Nat) (ys : List FnV) (lo : Nat) (w : World) (hs : FnRow w lo w.heap.size A n ys) (hn : n ≤ 1000) (hw : ∀ y ∈ ys, y.n ≤ 1000) :
    Calls Tryd.prog 13 #[.slice A n c] w fun e w' => e = .returned (.bool (fTab (vals ys))) ∧ Below w.heap.size w w' := by
  have HL := hidb hs.len
  have HW := hidb hw
  have HS := hidb hs
  clear hs hw
  go_enter Tryd.func13, Tryd.ntmps13
  go_wp2
  go_loopw [6] (fun k wr => ∃ j : Nat, j ≤ n ∧ Hid (∀ i y, i < j → ys[i]? = some y → fMay y.sz y.ws = true) ∧ Below w.heap.size w wr ∧ k = .int .i64 j) (fun k _ => (n - intOf k).toNat)
  case atStart => exact ⟨0, by omega, hidb (fun i y h => absurd h (Nat.not_lt_zero _)), Below.refl _ _, rfl⟩
  case round =>
    obtain ⟨j, hj, HA, hbel, rfl⟩ := hrel
    by_cases hlt : j < n
    · obtain ⟨b, off, y, rfl, _, hy, hc0, hc1, hok⟩ := (HS.out.below hbel).at_ hlt
      have HY := hidb hy
      have cm := ref_fmayB y lo _ wr hok hbel.size (HW.out y (List.mem_of_getElem? hy))
      have hsz := hbel.size
      have HB := hidb hbel
      clear hy hok hbel
      cases hM : fMay y.sz y.ws with
      | true =>
        rw [hM] at cm
        have HM := hidb hM
        clear hM
        go_wp2_with (go_at_call 9; (with_reducible refine cm.mono ?_); rintro e w' ⟨rfl, hb1⟩)
        have HB1 := hidb (HB.out.trans (hb1.mono hsz))
        clear hb1
        go_roundw
        case rel =>
          refine ⟨j + 1, by omega, hidb (fun i z hi hz => ?_), HB1.out, by go_num⟩
          by_cases e : i = j
          · subst e
            rw [HY.out] at hz
            obtain rfl := Option.some.inj hz
            exact HM.out
          · exact HA.out i z (by omega) hz
        case measure => simp [intOf]; omega
      | false =>
        rw [hM] at cm
        have HF : Hid (fTab (vals ys) = false) := hidb (by unfold fTab; rw [fAll_bad (vals_at HY.out) hM]; rfl)
        clear hM
        go_wp2_with (go_at_call 9; (with_reducible refine cm.mono ?_); rintro e w' ⟨rfl, hb1⟩)
        go_ret
        exact ⟨by rw [HF.out]; rfl, HB.out.trans (hb1.mono hsz)⟩
    · have HB := hidb hbel
      have HF : Hid (fTab (vals ys) = decide (1 ≤ n ∧ n ≤ 100)) := hidb (by
        have : fAll (vals ys) = true := by
          unfold fAll; rw [List.all_eq_true]
          intro f hf
          obtain ⟨y, hy, rfl⟩ := List.mem_map.1 hf
          obtain ⟨i, hi, rfl⟩ := List.getElem_of_mem hy
          exact HA.out i _ (by have := HL.out; omega) (List.getElem?_eq_getElem hi)
        unfold fTab; rw [this, Bool.true_and, vals_length, HL.out])
      clear hbel
      by_cases g1 : 1 ≤ n
      · have g1' : (1 : Int) ≤ (n : Int) := by omega
        by_cases g2 : n ≤ 100
        · have HG : Hid (fTab (vals ys) = true) := hidb (by rw [HF.out]; exact decide_eq_true ⟨g1, g2⟩)
          have g2' : decide ((n : Int) ≤ 100) = true := decide_eq_true (by omega)
          go_wp2
          go_ret
          exact ⟨by rw [HG.out]; rfl, HB.out⟩
        · have HG : Hid (fTab (vals ys) = false) := hidb (by rw [HF.out]; exact decide_eq_false (by omega))
          have g2' : decide ((n : Int) ≤ 100) = false := decide_eq_false (by omega)
          go_wp2
          go_ret
          exact ⟨by rw [HG.out]; rfl, HB.out⟩
      · have HG : Hid (fTab (vals ys) = false) := hidb (by rw [HF.out]; exact decide_eq_false (by omega))
        obtain rfl : n = 0 := by omega
        go_wp2
        go_ret
        exact ⟨by rw [HG.out]; rfl, HB.out⟩

theorem ref_fsame (A A2 : Option Addr) (n c m d : Nat) (xs ys : List FnV) (w : World) (l1 h1 l2 h2 : Nat) (hs : FnRow w l1 h1 A n xs) (hs2 : FnRow w l2 h2 A2 m ys) (hn : n ≤ 9223372036854775806) (hm : m ≤ 9223372036854775806)
    (hx : ∀ y ∈ xs, y.n ≤ 1000) (hy : ∀ y ∈ ys, y.n ≤ 1000) (ht : fSame (vals xs) (vals ys) = true) :
    Calls Tryd.prog 15 #[.slice A n c, .slice A2 m d] w fun e w' => e = .returned (.bool true) ∧ ∃ q, w' = w.drewN q := by
  have e1 := hs.len
  have e2 := hs2.len
  have hnm : n = m := by
    unfold fSame at ht
    rw [Bool.and_eq_true, decide_eq_true_iff, vals_length, vals_length] at ht
    rw [← e1, ← e2]; exact ht.1
  subst hnm
  have HT : Hid (∀ (i : Nat) (x y : FnV), xs[i]? = some x → ys[i]? = some y → x.sz = y.sz ∧ bSame x.ws y.ws = true) := hidb (fun i x y hx hy => by
    unfold fSame at ht
    rw [Bool.and_eq_true, List.all_eq_true] at ht
    have h := ht.2 i (List.mem_range.2 (by rw [vals_length]; exact (List.getElem?_eq_some_iff.1 hx).1))
    rw [getD_at _ _ _ _ (vals_at hx), getD_at _ _ _ _ (vals_at hy), Bool.and_eq_true, decide_eq_true_iff] at h
    exact h)
  have HS := hidb hs
  have HS2 := hidb hs2
  have HX := hidb hx
  have HY := hidb hy
  clear hs hs2 e1 e2 ht hx hy
  go_enter Tryd.func15, Tryd.ntmps15
  go_wp2
  go_loopw [13] (fun k wr => ∃ j q : Nat, j ≤ n ∧ k = .int .i64 j ∧ wr = w.drewN q) (fun k _ => (n - intOf k).toNat)
  case atStart => exact ⟨0, 0, by omega, rfl, rfl⟩
  case round =>
    obtain ⟨j, q, hj, rfl, hwr⟩ := hrel
    have HWR := hidb hwr
    clear hwr
    have g1 : FnRow wr l1 h1 A n xs := by rw [HWR.out]; exact HS.out.drewN q
    have g2 : FnRow wr l2 h2 A2 n ys := by rw [HWR.out]; exact HS2.out.drewN q
    by_cases hlt : j < n
    · obtain ⟨b, off, x, rfl, _, hx, hc0, hc1, hok⟩ := g1.at_ hlt
      obtain ⟨b2, off2, y, rfl, _, hy, hd0, hd1, hok2⟩ := g2.at_ hlt
      obtain ⟨hsz, hb⟩ := HT.out j x y hx hy
      have hxn := HX.out x (List.mem_of_getElem? hx)
      have hyn := HY.out y (List.mem_of_getElem? hy)
      have cs : ∀ q', Calls Tryd.prog 32 #[.slice x.A x.n x.c, .slice y.A y.n y.c] (wr.drewN q') fun e w'' => e = .returned (.bool true) ∧ ∃ m, w'' = wr.drewN m := fun q' => by
        have := ref_bsame x.A y.A x.n x.c y.n y.c x.ws y.ws (wr.drewN q') h1 h2 (hok.drewN q').sl (hok2.drewN q').sl (by omega) (by omega)
        rw [hb] at this
        exact this.mono fun e w' ⟨h1, h2⟩ => ⟨h1, q', h2.symm⟩
      have hi0 : (0 : Int) ≤ (j : Int) := by omega
      have hi1 : (j : Int) < (n : Int) := by omega
      have eb : (x.sz != y.sz) = false := by rw [hsz]; simp
      clear hx hy hok hok2 hsz hb g1 g2
      go_wp2
      go_quiet ((go_at_call 32; (with_reducible exact cs _)))
      go_wp2
      go_roundw
      case rel => exact ⟨j + 1, _, by omega, by go_num, by rw [HWR.out]; exact World.drewN_drewN _ _ _⟩
      case measure => simp [intOf]; omega
    · clear g1 g2
      go_wp2
      go_ret
      exact ⟨rfl, q, HWR.out⟩
end Go.Proofs.YtieknifbmamdaaaDoor
