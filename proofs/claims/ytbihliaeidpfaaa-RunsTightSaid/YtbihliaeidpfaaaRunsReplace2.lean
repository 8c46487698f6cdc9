/- slices.Replace of one struct of a row of the call's own by two. -/
import Derived.Test.YtbihliaeidpfaaaRunsReplace
namespace Go.Proofs.Ytbihliaeidpfaaa
open Go.RowKit
set_option linter.unusedVariables false

theorem blk_off {g g2 off2 : Nat} (h : g ≠ g2) : ∀ ad : Addr, some (⟨g2, off2, none⟩ : Addr) = some ad → some ad.block ≠ some g := fun ad e hq => by
  injection e with e
  subst e
  injection hq with hq
  exact h hq.symm

set_option maxRecDepth 100000 in
set_option maxHeartbeats 4000000 in
/-- One in front of others is replaced by two, for which there is room. -/
theorem code_rep_2 (g i j c d g2 off2 : Nat) (xs vs L2 : List Value) (w : World) (base : Nat) (hown : w.ownsRow base 34 2 (.slice (some ⟨g, 0, none⟩) (i + 1 + j) c) (i + 1 + j) xs) (hj : 0 < j) (hn : i + 1 + j ≤ 65536) (hx1 : ∀ v ∈ xs, v.oneCell' = true)
    (hv : vs.length = 4) (hvs : CellsAt w (some ⟨g2, off2, none⟩) vs) (hone : ∀ u ∈ vs, u.oneCell' = true) (hne : g ≠ g2) (hL2 : Rw w g2 34 L2) (hl2 : L2.length ≠ 0) (hroom : i + 2 + j ≤ c) :
    Calls Try.prog 33 #[.slice (some ⟨g, 0, none⟩) (i + 1 + j) c, .int .i64 (i : Int), .int .i64 ((i : Int) + 1), .slice (some ⟨g2, off2, none⟩) 2 d] w (Replaced w base g (i + 2 + j) (xs.take (i * 2) ++ vs ++ xs.drop ((i + 1) * 2))) := by
  obtain ⟨L, hL, hbg, hnc, hcm, hLl, rfl⟩ := own_whole hown
  obtain ⟨n, hnn⟩ : ∃ n, n = i + 1 + j := ⟨_, rfl⟩
  have fin := rep_fin (w := w) (V := vs) (m := 2) (j := j) hbg (by omega) hcm hLl hnn (by omega)
  rw [← hnn]
  unfold maxLen at hcm
  obtain ⟨D, hD⟩ : ∃ D, D = (L.take (n * 2)).drop ((i + 1) * 2) := ⟨_, rfl⟩
  have hDl : D.length = j * 2 := by rw [hD, List.length_drop, List.length_take]; omega
  have hD1 : ∀ v ∈ D, v.oneCell' = true := fun v hv => hx1 v (by rw [hD] at hv; rw [← hnn]; exact List.mem_of_mem_drop hv)
  rw [← hD] at fin ⊢
  have FIN := hidb fin
  have HL := hidb hL
  have HLl := hidb hLl
  have HD := hidb hD
  have HDl := hidb hDl
  have HD1 := hidb hD1
  have HV := hidb hv
  have HVS := hidb hvs
  have HONE := hidb hone
  have hcn : ¬ c = i := by omega
  have hcn1 : ¬ c = i + 1 := by omega
  have hcn2 : ¬ c = i + 2 := by omega
  have q0 : IntKind.i64.wrap ((i : Int) + 2) = (i : Int) + 2 := IntWalk.i64_in _ (by omega)
  have q2 : IntKind.i64.wrap ((i : Int) + 2 + (j : Int)) = (i : Int) + 2 + (j : Int) := IntWalk.i64_in _ (by omega)
  have q3 : (0 : Int) ≤ (i : Int) + 2 + (j : Int) := by omega
  have q4 : ((i : Int) + 2 + (j : Int)).toNat = i + 2 + j := by omega
  have q5 : (i : Int) ≤ (i : Int) + 2 + (j : Int) := by omega
  have q6 : (i : Int) + 1 ≤ (i : Int) + 1 + (j : Int) := by omega
  have q7 : (0 : Int) ≤ (i : Int) + 1 := by omega
  have q8 : ((i : Int) + 1).toNat = i + 1 := by omega
  have q9 : (i : Int) + 2 + (j : Int) ≤ (c : Int) := by omega
  have q10 : (i : Int) + 2 ≤ (i : Int) + 2 + (j : Int) := by omega
  have q11 : (0 : Int) ≤ (i : Int) + 2 := by omega
  have q12 : ((i : Int) + 2).toNat = i + 2 := by omega
  have HN := hidb hnn
  subst hnn
  clear hown hx1 hv hvs hone fin hD hDl hD1
  have hov : ∀ q, (callFunc 47 #[.slice (some ⟨g, (i + 2) * 2, none⟩) j (c - (i + 2)), .slice (some ⟨g2, off2, none⟩) 2 d]).run Try.prog (w.drewN q) = .ok (.value (.bool false)) (w.drewN q) := fun q => by
    rw [run_callFunc_extern Try.func47 (by kernel_rfl) (by kernel_rfl) (by kernel_rfl) (e := Extern.SlicesOverlaps.overlaps #[22, 22] #[4]) (by kernel_rfl),
      run_overlaps_own (w.drewN q) 22 4 34 Try.underlying22 2 Try.sizeOf34 g ((i + 2) * 2) g2 off2 j (c - (i + 2)) 2 d hne L L2 _ _ hL.drewN hL2.drewN hl2]
    rfl
  clear hL hLl hL2 hl2
  have hsl : Hid ((splice L (i * 2 + 4) D).length = L.length) := hidb (length_splice _ _ _ (by have := HLl.out; have := HDl.out; omega))
  go_enter Try.func33, Try.ntmps33
  go_wp2
  go_quiet (fail)
  go_wp2
  have HS : Hid (CellsAt (w.drewN nq) (some ⟨g, (i + 1) * 2, none⟩) D) := hidb (by
    rw [HD.out]
    exact drop_cells (n := i + 1 + j) (fun k hk1 _ => by exact HL.out.cell k))
  go_region_law (refine step_copyK rfl (.tmp 126) (.tmp 129) 22 22 rfl 34 2 (by decide) Try.underlying22 run_size2 (some ⟨g, (i + 2) * 2, none⟩) (some ⟨g, (i + 1) * 2, none⟩) j (c - (i + 2)) j (c - (i + 1)) (by simp [Act.eval, Act.put]) (by simp [Act.eval, Act.put]) g (i * 2 + 4) _ 34 (show Rw _ _ _ L from HL.out) D (by rw [HDl.out]; congr 1; exact (Nat.min_self j).symm) (fun _ => ⟨by rw [Nat.add_mul], _, rfl, HS.out⟩) (by have := HLl.out; have := HDl.out; omega) HD1.out ?_; intro w2 hw2 hb2)
  have HV2 : Hid (CellsAt w2 (some ⟨g2, off2, none⟩) vs) := hidb (HVS.out.grownBy (grownTrans (grownDrew (grownDrewN (grownSelf (some g) w) nq)) hb2.out) (blk_off hne))
  go_wp2_with (first
    | (refine wpList_copyK rfl (.tmp 133) (.tmp 134) 22 22 rfl 34 2 (by decide) Try.underlying22 run_size2 _ _ _ _ _ _ rfl rfl g (i * 2) _ 34 hw2.out vs (by rw [HV.out]; first | (simp [Nat.min_def]; done) | (simp [Nat.min_def]; omega) | (simp only [Nat.min_def]; split <;> omega)) (fun _ => ⟨rfl, _, rfl, HV2.out⟩) (by have := HLl.out; have := HV.out; have := hsl.out; omega) HONE.out ?_; intro w3 hw3 hb3))
  go_ret
  have hsp := splice_back L vs D (i * 2) (by have := HLl.out; have := HDl.out; have := HV.out; omega)
  rw [HV.out, HDl.out] at hsp
  refine FIN.out w3 _ hw3.out hsp.2 ?_ (grownTrans (grownTrans (grownDrew (grownDrewN (grownSelf _ _) _)) hb2.out) hb3.out)
  rw [← hsp.1]
  congr 1
  omega

set_option maxRecDepth 100000 in
set_option maxHeartbeats 4000000 in
/-- One in front of others is replaced by two, for which there is no room. -/
theorem code_rep_grow (g i j c d g2 off2 : Nat) (xs vs : List Value) (w : World) (base : Nat) (hown : w.ownsRow base 34 2 (.slice (some ⟨g, 0, none⟩) (i + 1 + j) c) (i + 1 + j) xs) (hj : 0 < j) (hn : i + 1 + j ≤ 65536) (hx1 : ∀ v ∈ xs, v.oneCell' = true) (hbase : base ≤ w.heap.size)
    (hv : vs.length = 4) (hvs : CellsAt w (some ⟨g2, off2, none⟩) vs) (hone : ∀ u ∈ vs, u.oneCell' = true) (hg2 : g2 < w.heap.size) (hroom : c < i + 2 + j) :
    Calls Try.prog 33 #[.slice (some ⟨g, 0, none⟩) (i + 1 + j) c, .int .i64 (i : Int), .int .i64 ((i : Int) + 1), .slice (some ⟨g2, off2, none⟩) 2 d] w (Replaced w base g (i + 2 + j) (xs.take (i * 2) ++ vs ++ xs.drop ((i + 1) * 2))) := by
  obtain ⟨i0, hi, hz0, hz1, hz2⟩ := info_parts info_run
  obtain ⟨L, hL, hbg, hnc, hcm, hLl, rfl⟩ := own_whole hown
  have hglt := hL.lt
  obtain ⟨n, hnn⟩ : ∃ n, n = i + 1 + j := ⟨_, rfl⟩
  rw [← hnn]
  unfold maxLen at hcm
  obtain ⟨D, hD⟩ : ∃ D, D = (L.take (n * 2)).drop ((i + 1) * 2) := ⟨_, rfl⟩
  have hDl : D.length = j * 2 := by rw [hD, List.length_drop, List.length_take]; omega
  have hD1 : ∀ v ∈ D, v.oneCell' = true := fun v hv => hx1 v (by rw [hD] at hv; rw [← hnn]; exact List.mem_of_mem_drop hv)
  rw [← hD]
  have HX : Hid ((L.take (n * 2)).take (i * 2) = L.take (i * 2)) := hidb (by rw [List.take_take, Nat.min_eq_left (by omega)])
  rw [HX.out]
  have HL := hidb hL
  have HLl := hidb hLl
  have HD := hidb hD
  have HDl := hidb hDl
  have HD1 := hidb hD1
  have HV := hidb hv
  have HVS := hidb hvs
  have HONE := hidb hone
  have hcn : ¬ c = i := by omega
  have hcn1 : ¬ c = i + 1 := by omega
  have q0 : IntKind.i64.wrap ((i : Int) + 2) = (i : Int) + 2 := IntWalk.i64_in _ (by omega)
  have q2 : IntKind.i64.wrap ((i : Int) + 2 + (j : Int)) = (i : Int) + 2 + (j : Int) := IntWalk.i64_in _ (by omega)
  have q5 : (i : Int) ≤ (i : Int) + (2 + (j : Int)) := by omega
  have q6 : (i : Int) + 1 ≤ (i : Int) + 1 + (j : Int) := by omega
  have q7 : (0 : Int) ≤ (i : Int) + 1 := by omega
  have q8 : ((i : Int) + 1).toNat = i + 1 := by omega
  have q9 : (c : Int) < (i : Int) + 2 + (j : Int) := by omega
  have q10 : (i : Int) + 2 ≤ (i : Int) + (2 + (j : Int)) := by omega
  have q11 : (0 : Int) ≤ (i : Int) + 2 := by omega
  have q12 : ((i : Int) + 2).toNat = i + 2 := by omega
  have HN := hidb hnn
  subst hnn
  have HOLD : Hid (∀ q, CellsAt (w.drewN q) (some ⟨g, 0, none⟩) (L.take (i * 2))) := hidb (fun q => hL.drewN.cells 0 _ (fun k u hk => by
    rw [List.getElem?_take] at hk
    split at hk
    · rw [Nat.zero_add]; exact hk
    · cases hk))
  obtain ⟨R, hR⟩ : ∃ R, L.take (i * 2) ++ vs ++ D = R := ⟨_, rfl⟩
  rw [hR]
  have HR := hidb hR
  clear hown hx1 hv hvs hone hD hDl hD1 hL hLl HX hR
  go_enter Try.func33, Try.ntmps33
  go_wp2
  go_quiet (fail)
  go_wp2_with (first
    | (at_builtin; refine wpList_append_zeros rfl (.tmp 63) (.tmp 66) 22 3 rfl 34 i0 (.agg #[.int .i64 0, .int .i64 0]) 2 16 Try.underlying22 Try.underlying3 hi hz0 hz1 hz2 rfl (by decide) g i c rfl (L.take (i * 2)) (by have := HLl.out; rw [List.length_take]; omega) (HOLD.out _) (2 + j) _ (by omega) rfl (by omega) (by omega) (by omega) (by omega) ?_; intro w1 G L1 h1 hb1; obtain ⟨hg1, hg2, hg3⟩ : i + 2 + j ≤ G ∧ ¬ G = i ∧ ¬ G = i + 2 := (by have := h1.out.2.1; omega); have hg4 : G ≤ 9223372036854775807 := (by have := h1.out.2.2.1; unfold maxLen at this; omega); have HL1 : Hid (Rw w1 w.heap.size 34 L1) := (hidb h1.out.1); have HL1l : Hid (L1.length = G * 2) := (hidb h1.out.2.2.2.1); have HG : Hid (g ≠ w.heap.size) := (hidb (by omega)); have HB1 : Hid (w.grownBy w1 none) := (hidb (grownTrans (grownDrewN (grownSelf _ _) _) hb1.out)); have HV1 : Hid (CellsAt w1 (some ⟨g2, off2, none⟩) vs) := (hidb (HVS.out.grownBy HB1.out (fun ad e h => by cases h))))
    | (refine wpList_copyK rfl (.tmp 70) (.tmp 71) 22 22 rfl 34 2 (by decide) Try.underlying22 run_size2 _ _ _ _ _ _ rfl rfl w.heap.size (i * 2) _ 34 HL1.out vs (by rw [HV.out]; first | (simp [Nat.min_def]; done) | (simp [Nat.min_def]; omega) | (simp only [Nat.min_def]; split <;> omega)) (fun _ => ⟨rfl, _, rfl, HV1.out⟩) (by have := HL1l.out; have := HV.out; omega) HONE.out ?_; intro w2 hw2 hb2))
  have hsl : Hid ((splice L1 (i * 2) vs).length = L1.length) := hidb (length_splice _ _ _ (by have := HL1l.out; have := HV.out; omega))
  have HB2 : Hid (w.grownBy w2 none) := hidb (grownNew HB1.out (Nat.le_refl _) hb2.out)
  have HS : Hid (CellsAt w2 (some ⟨g, (i + 1) * 2, none⟩) D) := hidb (by
    rw [HD.out]
    refine drop_cells (n := i + 1 + j) (fun k hk1 _ => ?_)
    have h := HL.out.grown (r := none) HB2.out (by simp)
    exact h.cell k)
  go_region_law (refine step_copyK rfl (.tmp 78) (.tmp 81) 22 22 rfl 34 2 (by decide) Try.underlying22 run_size2 (some ⟨w.heap.size, (i + 2) * 2, none⟩) (some ⟨g, (i + 1) * 2, none⟩) j (G - (i + 2)) j (c - (i + 1)) (by simp [Act.eval, Act.put]; omega) (by simp [Act.eval, Act.put]) w.heap.size (i * 2 + 4) _ 34 hw2.out.drew D (by rw [HDl.out]; congr 1; exact (Nat.min_self j).symm) (fun _ => ⟨by rw [Nat.add_mul], _, rfl, HS.out⟩) (by have := HL1l.out; have := hsl.out; have := HDl.out; omega) HD1.out ?_; intro w3 hw3 hb3)
  go_wp2
  go_ret
  have hsp := splice_fore L1 vs D (i * 2) (by have := HL1l.out; have := HDl.out; have := HV.out; omega)
  rw [HV.out, HDl.out, h1.out.2.2.2.2] at hsp
  refine ⟨some ⟨w.heap.size, 0, none⟩, G, by rw [show i + 2 + j = i + (2 + j) by omega]; rfl, ?_, fun b e => Or.inr (by injection e with e; rw [← e]; exact Nat.le_refl _), grownNone (grownNew HB2.out (Nat.le_refl _) (grownTrans (grownDrew (grownSelf _ _)) hb3.out))⟩
  have := own_of_whole (base := base) (s := 2) (n := i + 2 + j) (c := G) hw3.out hbase hg1 h1.out.2.2.1 (by rw [hsp.2]; exact HL1l.out)
  rw [show (i + 2 + j) * 2 = i * 2 + 4 + j * 2 by omega, hsp.1, HR.out] at this
  exact this

end Go.Proofs.Ytbihliaeidpfaaa
