/- What 'first' of the document's own pool returns. -/
import Derived.Test.YtcgfmpegakpddaaGreatZPoolRows
namespace Go.Proofs.YtcgfmpegakpddaaGreat
open Go.RowKit
set_option linter.unusedVariables false

/-- The best of the first j places. -/
def pFst (l : List ((Int × Int × Int × Int) × List Int)) (order from' : Int) (some' : Bool) (j : Nat) : Option Nat := (List.range j).foldl (pStep order from' some' l) none
theorem pFst_succ (l : List ((Int × Int × Int × Int) × List Int)) (order from' : Int) (some' : Bool) (j : Nat) : pFst l order from' some' (j + 1) = pStep order from' some' l (pFst l order from' some' j) j := by
  unfold pFst; rw [List.range_succ, List.foldl_append]; rfl
theorem pFst_lt (l : List ((Int × Int × Int × Int) × List Int)) (order from' : Int) (some' : Bool) : ∀ j b, pFst l order from' some' j = some b → b < j
  | 0, b, h => by cases h
  | j + 1, b, h => by
    rw [pFst_succ] at h
    have ih := pFst_lt l order from' some' j
    unfold pStep at h
    split at h
    · have := ih b h; omega
    · split at h
      · cases e : pFst l order from' some' j with
        | none => rw [e] at h; obtain rfl := Option.some.inj h; omega
        | some d =>
          rw [e] at h
          have h1 := ih d e
          simp only at h
          split at h
          · obtain rfl := Option.some.inj h; omega
          · split at h
            · obtain rfl := Option.some.inj h; omega
            · obtain rfl := Option.some.inj h; omega
      · have := ih b h; omega

theorem pStep_no {l : List ((Int × Int × Int × Int) × List Int)} {order from' : Int} {some' : Bool} {o : Option Nat} {j : Nat} {c : (Int × Int × Int × Int) × List Int} (hc : l[j]? = some c) (h : pFits order from' some' c = false) : pStep order from' some' l o j = o := by
  unfold pStep; rw [hc]; simp only; rw [if_neg (by rw [h]; decide)]
theorem pStep_new {l : List ((Int × Int × Int × Int) × List Int)} {order from' : Int} {some' : Bool} {j : Nat} {c : (Int × Int × Int × Int) × List Int} (hc : l[j]? = some c) (h : pFits order from' some' c = true) : pStep order from' some' l none j = some j := by
  unfold pStep; rw [hc]; simp only; rw [if_pos h]
theorem pStep_two {l : List ((Int × Int × Int × Int) × List Int)} {order from' : Int} {some' : Bool} {j b : Nat} {c d : (Int × Int × Int × Int) × List Int} (hc : l[j]? = some c) (h : pFits order from' some' c = true) (hd : l[b]? = some d) : pStep order from' some' l (some b) j = if c.1.2.1 < d.1.2.1 then some j else some b := by
  unfold pStep; rw [hc]; simp only; rw [if_pos h, hd]

set_option maxRecDepth 100000 in
set_option maxHeartbeats 2000000 in
theorem ref_pfirst (P : Nat → Prop) (pg la : Int) (A A2 A3 : Option Addr) (n c n2 c2 n3 c3 : Nat) (held : Bool) (ys : List CV) (order from' : Int) (some' : Bool) (w : World) (hs : Cn w P A3 n3 ys) (hn : n3 ≤ 65536) (ho : in64 order) (hf : in64 from') :
    Calls Tryz.prog 59 #[pval pg A n c A2 n2 c2 la A3 n3 c3 held, .int .i64 order, .int .i64 from', .bool some'] w fun e w' => e = .returned (.int .i64 (idxInt (pFirst (ys.map CV.plain) order from' some'))) ∧ Below w.heap.size w w' := by
  have l3 : ys.length = n3 := hs.row.1
  obtain ⟨W0, hW0⟩ : ∃ W0, W0 = w.alloc (.cells #[.int .i64 pg, .slice A n c, .slice A2 n2 c2, .int .i64 la, .slice A3 n3 c3, .bool held] 35) := ⟨_, rfl⟩
  have hz : W0.heap.size = w.heap.size + 1 := by rw [hW0]; simp
  have HB0 : Hid (Below w.heap.size w W0) := hidb (by rw [hW0]; exact (Below.refl _ _).alloc (Nat.le_refl _) _)
  have q4 : W0.cell? ⟨w.heap.size, 4, none⟩ = some (.slice A3 n3 c3) := by rw [hW0]; simp
  have HQ : Hid (∀ W, Below W0.heap.size W0 W → W.cell? ⟨w.heap.size, 4, none⟩ = some (.slice A3 n3 c3)) := hidb (fun W hb => by
    rw [hb.cell (p := ⟨w.heap.size, 4, none⟩) (by show w.heap.size < _; omega)]; exact q4)
  have HS : Hid (∀ W, Below W0.heap.size W0 W → Cn W P A3 n3 ys) := hidb (fun W hb => (hs.below HB0.out).below hb)
  have HE : Hid (∀ W, Below W0.heap.size W0 W → Below w.heap.size w W) := hidb (fun W hb => HB0.out.trans (hb.mono HB0.out.size))
  have HF : Hid (pFirst (ys.map CV.plain) order from' some' = pFst (ys.map CV.plain) order from' some' n3) := hidb (by unfold pFirst pFst; rw [List.length_map, l3])
  have L3 := hidb l3
  obtain ⟨l, hll⟩ : ∃ l, ys.map CV.plain = l := ⟨_, rfl⟩
  have HLY : Hid (∀ (i : Nat) (y : CV), ys[i]? = some y → l[i]? = some (y.s, y.l)) := hidb (fun i y h => by rw [← hll, List.getElem?_map, h]; rfl)
  rw [hll] at HF ⊢
  clear hll
  unfold pval
  have ho0 := ho.1
  have ho1 := ho.2
  have hf0 := hf.1
  have hf1 := hf.2
  clear hs q4 ho hf l3
  go_enter Tryz.func59, Tryz.ntmps59
  go_wp2
  rw [← hW0]
  clear hW0
  go_loopw [9, 15] (fun v k wr => ∃ (j : Nat) (bv : Int), j ≤ n3 ∧ k = .int .i64 j ∧ v = .int .i64 bv ∧ Hid (bv = idxInt (pFst l order from' some' j)) ∧ Hid (Below W0.heap.size W0 wr)) (fun _ k _ => (n3 - intOf k).toNat)
  case atStart => exact ⟨0, -1, Nat.zero_le _, rfl, rfl, hidb rfl, hidb (Below.refl _ _)⟩
  case round =>
    obtain ⟨j, bv, hj, rfl, rfl, HBV, HB⟩ := hrel
    have hj0 : (0 : Int) ≤ (j : Int) := by omega
    by_cases hlt : j < n3
    · have hj1 : (j : Int) < (n3 : Int) := by omega
      have q4 := HQ.out _ HB.out
      have hcn := HS.out _ HB.out
      obtain ⟨b, off, y, rfl, hy, hb, c0, c1, c2, c3', c4⟩ := hcn.at_ hlt
      obtain ⟨⟨yid, yst, yln, yo⟩, yA, yn, yc, yl⟩ := y
      simp only at c0 c1 c2 c3' c4
      obtain ⟨o1, o2, o3, o4, o5⟩ := hcn.ok _ (List.mem_of_getElem? hy)
      obtain ⟨hsl, _, _, _, _, hyn⟩ := hcn.lists _ (List.mem_of_getElem? hy)
      have hyl : yl.length = yn := by have := hsl.1; simpa using this
      simp only at o1 o2 o3 o4 o5 hyn
      have hsz := HB.out.size
      obtain ⟨wa, hwa⟩ : ∃ wa, wa = wr.alloc (.cells #[.int .i64 yid, .int .i64 yst, .int .i64 yln, .int .i64 yo] 49) := ⟨_, rfl⟩
      have HWA : Hid (Below W0.heap.size W0 wa) := hidb (by rw [hwa]; exact HB.out.alloc hsz _)
      have d1 : wa.cell? ⟨wr.heap.size, 1, none⟩ = some (.int .i64 yst) := by rw [hwa]; simp
      have d3 : wa.cell? ⟨wr.heap.size, 3, none⟩ = some (.int .i64 yo) := by rw [hwa]; simp
      have hy2 := HLY.out j _ hy
      have HY := hidb hy2
      have HCA : Hid (∀ i, i < n3 → ∃ z : CV, ys[i]? = some z ∧ wa.cell? ⟨b, off + i * 5 + 1, none⟩ = some (.int .i64 z.s.2.1) ∧ wa.cell? ⟨b, off + i * 5 + 4, none⟩ = some (.slice z.A z.n z.c)) := hidb (fun i hi => by
        obtain ⟨b', off', z, e, hz', _, _, e1, _, _, e4⟩ := (HS.out _ HWA.out).at_ hi
        obtain ⟨rfl, rfl⟩ : b = b' ∧ off = off' := by simpa using e
        exact ⟨z, hz', e1, e4⟩)
      have HY0 := hidb hy
      clear hcn hy hy2 hb hsl
      go_wp2
      rw [← hwa]
      clear hwa q4 c0 c1 c2 c3' c4
      have q4 := HQ.out _ HWA.out
      have e4 : wa.cell? ⟨b, off + j * 5 + 4, none⟩ = some (.slice yA yn yc) := by
        obtain ⟨z, hz', _, e4⟩ := HCA.out j hlt
        rw [HY0.out] at hz'
        obtain rfl := Option.some.inj hz'
        exact e4
      have NO : Hid (pFits order from' some' ((yid, yst, yln, yo), yl) = false → pFst l order from' some' (j + 1) = pFst l order from' some' j) := hidb (fun h => by rw [pFst_succ, pStep_no HY.out h])
      by_cases g1 : yo = order
      · have hd1 : (yo == order) = true := by simpa using g1
        by_cases g2 : from' ≤ yst
        · have hd2 : decide (from' ≤ yst) = true := decide_eq_true g2
          have hfit : decide (yo = order ∧ from' ≤ yst) = true := decide_eq_true ⟨g1, g2⟩
          cases some' with
          | false =>
            have FIT : Hid (pFits order from' false ((yid, yst, yln, yo), yl) = true) := hidb (by unfold pFits; simp only; rw [hfit]; rfl)
            clear g1 g2 hfit
            cases hO : pFst l order from' false j with
            | none =>
              obtain rfl : bv = -1 := by rw [HBV.out, hO]; rfl
              have HST : Hid (pFst l order from' false (j + 1) = some j) := hidb (by rw [pFst_succ, hO, pStep_new HY.out FIT.out])
              clear hO NO
              go_quiet (fail)
              go_wp2
              go_roundw
              case rel => exact ⟨j + 1, (j : Int), by omega, by go_num, rfl, hidb (by rw [HST.out]; rfl), (by first | exact hidb (belowN HWA.out _) | exact HWA)⟩
              case measure => simp [intOf]; omega
            | some bi =>
              obtain rfl : bv = (bi : Int) := by rw [HBV.out, hO]; rfl
              have hbi : bi < n3 := by have := pFst_lt _ _ _ _ _ _ hO; omega
              obtain ⟨z, hz', z1, _⟩ := HCA.out bi hbi
              have HZ := hidb (HLY.out bi z hz')
              obtain ⟨zst, hzst⟩ : ∃ zst, z.s.2.1 = zst := ⟨_, rfl⟩
              rw [hzst] at z1
              have hb0 : (0 : Int) ≤ (bi : Int) := by omega
              have hb1 : (bi : Int) < (n3 : Int) := by omega
              have hd4 : decide ((bi : Int) < 0) = false := decide_eq_false (by omega)
              by_cases g5 : yst < zst
              · have hd5 : decide (yst < zst) = true := decide_eq_true g5
                have HST : Hid (pFst l order from' false (j + 1) = some j) := hidb (by rw [pFst_succ, hO, pStep_two HY.out FIT.out HZ.out]; simp only; rw [hzst, if_pos g5])
                clear hO NO hz' g5
                go_quiet (fail)
                go_wp2
                go_roundw
                case rel => exact ⟨j + 1, (j : Int), by omega, by go_num, rfl, hidb (by rw [HST.out]; rfl), (by first | exact hidb (belowN HWA.out _) | exact HWA)⟩
                case measure => simp [intOf]; omega
              · have hd5 : decide (yst < zst) = false := decide_eq_false g5
                have HST : Hid (pFst l order from' false (j + 1) = pFst l order from' false j) := hidb (by rw [pFst_succ, hO, pStep_two HY.out FIT.out HZ.out]; simp only; rw [hzst, if_neg g5])
                clear hO NO hz' g5
                go_quiet (fail)
                go_wp2
                go_roundw
                case rel => exact ⟨j + 1, (bi : Int), by omega, by go_num, rfl, hidb (by rw [HST.out]; exact HBV.out), (by first | exact hidb (belowN HWA.out _) | exact HWA)⟩
                case measure => simp [intOf]; omega
          | true =>
            by_cases g3 : yn = 0
            · have hd3 : decide (0 < yn) = false := decide_eq_false (by omega)
              have HST := hidb (NO.out (by unfold pFits; simp only; rw [hfit, decide_eq_false (p := 0 < yl.length) (by omega)]; rfl))
              clear g1 g2 g3 NO hfit
              go_quiet (fail)
              go_wp2
              go_roundw
              case rel => exact ⟨j + 1, bv, by omega, by go_num, rfl, hidb (by rw [HST.out]; exact HBV.out), (by first | exact hidb (belowN HWA.out _) | exact HWA)⟩
              case measure => simp [intOf]; omega
            · have hd3 : decide (0 < yn) = true := decide_eq_true (by omega)
              have FIT : Hid (pFits order from' true ((yid, yst, yln, yo), yl) = true) := hidb (by unfold pFits; simp only; rw [hfit, decide_eq_true (p := 0 < yl.length) (by omega)]; rfl)
              clear g1 g2 g3 hfit
              cases hO : pFst l order from' true j with
              | none =>
                obtain rfl : bv = -1 := by rw [HBV.out, hO]; rfl
                have HST : Hid (pFst l order from' true (j + 1) = some j) := hidb (by rw [pFst_succ, hO, pStep_new HY.out FIT.out])
                clear hO NO
                go_quiet (fail)
                go_wp2
                go_roundw
                case rel => exact ⟨j + 1, (j : Int), by omega, by go_num, rfl, hidb (by rw [HST.out]; rfl), (by first | exact hidb (belowN HWA.out _) | exact HWA)⟩
                case measure => simp [intOf]; omega
              | some bi =>
                obtain rfl : bv = (bi : Int) := by rw [HBV.out, hO]; rfl
                have hbi : bi < n3 := by have := pFst_lt _ _ _ _ _ _ hO; omega
                obtain ⟨z, hz', z1, _⟩ := HCA.out bi hbi
                have HZ := hidb (HLY.out bi z hz')
                obtain ⟨zst, hzst⟩ : ∃ zst, z.s.2.1 = zst := ⟨_, rfl⟩
                rw [hzst] at z1
                have hb0 : (0 : Int) ≤ (bi : Int) := by omega
                have hb1 : (bi : Int) < (n3 : Int) := by omega
                have hd4 : decide ((bi : Int) < 0) = false := decide_eq_false (by omega)
                by_cases g5 : yst < zst
                · have hd5 : decide (yst < zst) = true := decide_eq_true g5
                  have HST : Hid (pFst l order from' true (j + 1) = some j) := hidb (by rw [pFst_succ, hO, pStep_two HY.out FIT.out HZ.out]; simp only; rw [hzst, if_pos g5])
                  clear hO NO hz' g5
                  go_quiet (fail)
                  go_wp2
                  go_roundw
                  case rel => exact ⟨j + 1, (j : Int), by omega, by go_num, rfl, hidb (by rw [HST.out]; rfl), (by first | exact hidb (belowN HWA.out _) | exact HWA)⟩
                  case measure => simp [intOf]; omega
                · have hd5 : decide (yst < zst) = false := decide_eq_false g5
                  have HST : Hid (pFst l order from' true (j + 1) = pFst l order from' true j) := hidb (by rw [pFst_succ, hO, pStep_two HY.out FIT.out HZ.out]; simp only; rw [hzst, if_neg g5])
                  clear hO NO hz' g5
                  go_quiet (fail)
                  go_wp2
                  go_roundw
                  case rel => exact ⟨j + 1, (bi : Int), by omega, by go_num, rfl, hidb (by rw [HST.out]; exact HBV.out), (by first | exact hidb (belowN HWA.out _) | exact HWA)⟩
                  case measure => simp [intOf]; omega
        · have hd2 : decide (from' ≤ yst) = false := decide_eq_false g2
          have HST := hidb (NO.out (by unfold pFits; simp only; rw [decide_eq_false (fun h => g2 h.2)]; rfl))
          clear g1 g2 NO
          go_quiet (fail)
          go_wp2
          go_roundw
          case rel => exact ⟨j + 1, bv, by omega, by go_num, rfl, hidb (by rw [HST.out]; exact HBV.out), (by first | exact hidb (belowN HWA.out _) | exact HWA)⟩
          case measure => simp [intOf]; omega
      · have hd1 : (yo == order) = false := by simpa using g1
        have HST := hidb (NO.out (by unfold pFits; simp only; rw [decide_eq_false (fun h => g1 h.1)]; rfl))
        clear g1 NO
        go_quiet (fail)
        go_wp2
        go_roundw
        case rel => exact ⟨j + 1, bv, by omega, by go_num, rfl, hidb (by rw [HST.out]; exact HBV.out), (by first | exact hidb (belowN HWA.out _) | exact HWA)⟩
        case measure => simp [intOf]; omega
    · obtain rfl : n3 = j := by omega
      go_wp2
      go_ret
      exact ⟨by rw [HF.out, ← HBV.out]; rfl, HE.out _ HB.out⟩

end Go.Proofs.YtcgfmpegakpddaaGreat
