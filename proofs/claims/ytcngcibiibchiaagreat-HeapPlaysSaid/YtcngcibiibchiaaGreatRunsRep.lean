/- Several texts in one: RunsReplace, RunsReplace2, RunsReplace3. -/
import Derived.Test.YtcngcibiibchiaaGreatRows7
import Derived.WalkKit
import Derived.ProofKit
import Derived.WalkLawsBesides
import Derived.WalkSpells
import Derived.IntWalk
import Derived.Deep.QuietTactic
import Derived.BigQuiet
import Derived.Deep.RegionLaw
import Derived.Laws.OwnMore
/- slices.Replace of one struct of a row of the call's own by none, one or two. -/
namespace Go.Proofs.YtcngcibiibchiaaGreat
open Go.RowKit
set_option linter.unusedVariables false

theorem splice_fore {α : Type} (L V D : List α) (k : Nat) (h : k + V.length + D.length ≤ L.length) :
    (splice (splice L k V) (k + V.length) D).take (k + V.length + D.length) = L.take k ++ V ++ D ∧ (splice (splice L k V) (k + V.length) D).length = L.length := by
  have hk : (L.take k).length = k := by rw [List.length_take]; omega
  have h1 : splice L k V = (L.take k ++ V) ++ (L.drop k).drop V.length := by
    have := splice_at (L.take k) (L.drop k) V (by rw [List.length_drop]; omega)
    rw [List.take_append_drop, hk] at this
    rw [this, List.append_assoc]
  have hkv : (L.take k ++ V).length = k + V.length := by rw [List.length_append, hk]
  have h2 := splice_at (L.take k ++ V) ((L.drop k).drop V.length) D (by simp; omega)
  rw [hkv, ← h1] at h2
  rw [h2]
  constructor
  · rw [← List.append_assoc]
    exact List.take_left' (by simp; omega)
  · simp; omega
theorem splice_back {α : Type} (L V D : List α) (k : Nat) (h : k + V.length + D.length ≤ L.length) :
    (splice (splice L (k + V.length) D) k V).take (k + V.length + D.length) = L.take k ++ V ++ D ∧ (splice (splice L (k + V.length) D) k V).length = L.length := by
  have hk : (L.take k).length = k := by rw [List.length_take]; omega
  have hkv : (L.take (k + V.length)).length = k + V.length := by rw [List.length_take]; omega
  have h1 := splice_at (L.take (k + V.length)) (L.drop (k + V.length)) D (by rw [List.length_drop]; omega)
  rw [List.take_append_drop, hkv] at h1
  have h3 : L.take (k + V.length) = L.take k ++ (L.drop k).take V.length := by rw [List.take_add]
  rw [h3, List.append_assoc] at h1
  have h2 := splice_at (L.take k) ((L.drop k).take V.length ++ (D ++ (L.drop (k + V.length)).drop D.length)) V (by simp; omega)
  rw [hk, ← h1] at h2
  rw [h2, List.drop_left' (by simp; omega)]
  constructor
  · rw [← List.append_assoc, ← List.append_assoc]
    exact List.take_left' (by simp; omega)
  · simp; omega

theorem run_size2 : (Tryz.prog.info? 41).map (·.size) = some 2 := by kernel_rfl
theorem run_noughts (n : Nat) : ∀ v ∈ (Builtin.zeroCells (Value.agg #[.int .i64 0, .int .i64 0]).cells n).toList, v.oneCell' = true := by
  intro v hv
  simp only [Builtin.zeroCells, Value.cells, Array.toList_map, List.mem_map] at hv
  obtain ⟨i, _, rfl⟩ := hv
  have : i % 2 = 0 ∨ i % 2 = 1 := by omega
  rcases this with h | h <;> (show Value.oneCell' (#[Value.int .i64 0, Value.int .i64 0][i % 2]!) = true) <;> rw [h] <;> rfl
theorem run_zero (w : World) : (zeroValue 41).run Tryz.prog w = .ok (.agg #[.int .i64 0, .int .i64 0]) w := by kernel_rfl
theorem noughts_size (n : Nat) : (Builtin.zeroCells (Value.agg #[.int .i64 0, .int .i64 0]).cells n).size = n * 2 := size_zeroCells _ _

/-- What Replace answers: a row of the call's own, in the same block, or in a new one. -/
def Replaced (w : World) (base g k : Nat) (xs : List Value) (e : Ending) (w' : World) : Prop :=
  ∃ A c, e = .returned (.slice A k c) ∧ w'.ownsRow base 41 2 (.slice A k c) k xs ∧ (∀ b, A = some b → b.block = g ∨ w.heap.size ≤ b.block) ∧ w.grownBy w' (some g)

set_option maxRecDepth 100000 in
set_option maxHeartbeats 2000000 in
/-- The last one goes. -/
theorem code_rep_last0 (g n c d : Nat) (A2 : Option Addr) (xs : List Value) (w : World) (base : Nat) (hown : w.ownsRow base 41 2 (.slice (some ⟨g, 0, none⟩) (n + 1) c) (n + 1) xs) (hn : n ≤ 65536) :
    Calls Tryz.prog 74 #[.slice (some ⟨g, 0, none⟩) (n + 1) c, .int .i64 (n : Int), .int .i64 ((n : Int) + 1), .slice A2 0 d] w (Replaced w base g n (xs.take (n * 2))) := by
  obtain ⟨i0, hi, hz0, hz1, hz2⟩ := info_parts info_run
  obtain ⟨L, hL, hbg, hnc, hcm, hLl, rfl⟩ := own_whole hown
  unfold maxLen at hcm
  have hcn : ¬ c = n := by omega
  have FIN : Hid (∀ w' L', Rw w' g 41 L' ∧ L'.length = L.length ∧ L'.take (n * 2) = L.take (n * 2) → w.grownBy w' (some g) → Replaced w base g n ((L.take ((n + 1) * 2)).take (n * 2)) (.returned (.slice (some ⟨g, 0, none⟩) n c)) w') := hidb (fun w' L' ⟨h1, h2, h3⟩ h4 => by
    refine ⟨some ⟨g, 0, none⟩, c, rfl, ?_, fun b e => Or.inl (by injection e with e; rw [← e]), h4⟩
    have := own_of_whole (base := base) (s := 2) (n := n) (c := c) h1 hbg (by omega) (by unfold maxLen; omega) (by omega)
    rw [List.take_take, Nat.min_eq_left (by omega), ← h3]
    exact this)
  have HL := hidb hL
  have HLl := hidb hLl
  clear hown hL hLl
  go_enter Tryz.func74, Tryz.ntmps74
  go_wp2_with (first
    | (at_builtin; refine wpList_append_nothing rfl (.tmp 32) (.tmp 33) 54 rfl 41 i0 Tryz.underlying54 hi g 0 n c rfl (by omega) A2 d rfl ?_)
    | (refine wpList_clearK rfl (.tmp 43) 54 rfl 41 _ Tryz.underlying54 run_zero _ g (n * 2) _ _ rfl L _ HL.out (run_noughts _) (by intro _; exact ⟨rfl, by have := HLl.out; rw [noughts_size]; omega⟩) ?_; intro w1 L1 hL1 hb1))
  go_ret
  exact FIN.out w1 L1 hL1.out hb1.out

set_option maxRecDepth 100000 in
set_option maxHeartbeats 2000000 in
/-- The last one is replaced. -/
theorem code_rep_last (g n c m d : Nat) (ad : Addr) (xs vs : List Value) (w : World) (base : Nat) (hown : w.ownsRow base 41 2 (.slice (some ⟨g, 0, none⟩) (n + 1) c) (n + 1) xs) (hn : n ≤ 65536)
    (hm : 1 ≤ m) (hm2 : m ≤ 2) (hv : vs.length = m * 2) (hvs : CellsAt w (some ad) vs) (hone : ∀ u ∈ vs, u.oneCell' = true) :
    Calls Tryz.prog 74 #[.slice (some ⟨g, 0, none⟩) (n + 1) c, .int .i64 (n : Int), .int .i64 ((n : Int) + 1), .slice (some ad) m d] w (Replaced w base g (n + m) (xs.take (n * 2) ++ vs)) := by
  obtain ⟨i0, hi, hz0, hz1, hz2⟩ := info_parts info_run
  obtain ⟨L, hL, hbg, hnc, hcm, hLl, rfl⟩ := own_whole hown
  have hcn : ¬ c = n := by omega
  have HE : Hid ((L.take ((n + 1) * 2)).take (n * 2) = L.take (n * 2)) := hidb (by rw [List.take_take, Nat.min_eq_left (by omega)])
  have HL := hidb hL
  have HLl := hidb hLl
  have HV := hidb hv
  have HVS := hidb hvs
  have HONE := hidb hone
  have HCM := hidb hcm
  unfold maxLen at hcm
  clear hown hL hLl hv hvs hone
  rw [HE.out]
  go_enter Tryz.func74, Tryz.ntmps74
  go_wp2_with (first
    | (at_builtin; refine wpList_append_whole rfl (.tmp 32) (.tmp 33) 54 rfl base 41 i0 (.agg #[.int .i64 0, .int .i64 0]) 2 16 Tryz.underlying54 hi hz0 hz1 hz2 rfl (by decide) g n c rfl L HL.out hbg (by omega) HCM.out HLl.out ad m d rfl vs HV.out HVS.out HONE.out (by unfold maxLen; omega) (by omega) ?_; intro A1 c1 w1 hown1 hA1 hb1))
  go_ret
  exact ⟨A1, c1, rfl, hown1.out, hA1.out, hb1.out⟩

/-- The end of a replacement in place. -/
theorem rep_fin {w : World} {base g n c i j m : Nat} {L V : List Value} (hbg : base ≤ g) (hk : i + m + j ≤ c) (hcm : c ≤ maxLen) (hLl : L.length = c * 2) (hn : n = i + 1 + j) (hnc : n ≤ c) :
    ∀ w' L', Rw w' g 41 L' → L'.length = L.length → L'.take ((i + m + j) * 2) = L.take (i * 2) ++ V ++ (L.take (n * 2)).drop ((i + 1) * 2) → w.grownBy w' (some g) →
      Replaced w base g (i + m + j) ((L.take (n * 2)).take (i * 2) ++ V ++ (L.take (n * 2)).drop ((i + 1) * 2)) (.returned (.slice (some ⟨g, 0, none⟩) (i + m + j) c)) w' := fun w' L' h1 h2 h3 h4 => by
  refine ⟨some ⟨g, 0, none⟩, c, rfl, ?_, fun b e => Or.inl (by injection e with e; rw [← e]), h4⟩
  have := own_of_whole (base := base) (s := 2) (n := i + m + j) (c := c) h1 hbg hk hcm (by omega)
  rw [h3] at this
  rw [List.take_take, Nat.min_eq_left (by omega)]
  exact this
theorem drop_cells {w : World} {g n i : Nat} {L : List Value} (h : ∀ k, (i + 1) * 2 ≤ k → k < n * 2 → w.cell? ⟨g, k, none⟩ = L[k]?) : CellsAt w (some ⟨g, (i + 1) * 2, none⟩) ((L.take (n * 2)).drop ((i + 1) * 2)) := fun ad ea k u hj => by
  injection ea with ea
  subst ea
  rw [List.getElem?_drop, List.getElem?_take] at hj
  split at hj
  · rw [Go.WideShapes.add_plain, h _ (by omega) (by omega)]; exact hj
  · cases hj
theorem splice_past {α : Type} (L V : List α) (k p : Nat) (h : k + V.length ≤ p) (hL : k ≤ L.length) : (splice L k V)[p]? = L[p]? := by
  unfold splice
  rw [List.getElem?_append_right (by rw [List.length_take]; omega), List.length_take, Nat.min_eq_left hL, List.getElem?_append_right (by omega), List.getElem?_drop]
  congr 1; omega

set_option maxRecDepth 100000 in
set_option maxHeartbeats 4000000 in
/-- One in front of others goes. -/
theorem code_rep_0 (g i j c d : Nat) (A2 : Option Addr) (xs : List Value) (w : World) (base : Nat) (hown : w.ownsRow base 41 2 (.slice (some ⟨g, 0, none⟩) (i + 1 + j) c) (i + 1 + j) xs) (hj : 0 < j) (hn : i + 1 + j ≤ 65536) (hx1 : ∀ v ∈ xs, v.oneCell' = true) :
    Calls Tryz.prog 74 #[.slice (some ⟨g, 0, none⟩) (i + 1 + j) c, .int .i64 (i : Int), .int .i64 ((i : Int) + 1), .slice A2 0 d] w (Replaced w base g (i + 0 + j) (xs.take (i * 2) ++ [] ++ xs.drop ((i + 1) * 2))) := by
  obtain ⟨L, hL, hbg, hnc, hcm, hLl, rfl⟩ := own_whole hown
  obtain ⟨n, hnn⟩ : ∃ n, n = i + 1 + j := ⟨_, rfl⟩
  have fin := rep_fin (w := w) (V := []) (m := 0) (j := j) hbg (by omega) hcm hLl hnn (by omega)
  rw [← hnn]
  unfold maxLen at hcm
  obtain ⟨D, hD⟩ : ∃ D, D = (L.take (n * 2)).drop ((i + 1) * 2) := ⟨_, rfl⟩
  have hDl : D.length = j * 2 := by rw [hD, List.length_drop, List.length_take]; omega
  have hD1 : ∀ v ∈ D, v.oneCell' = true := fun v hv => hx1 v (by rw [hD] at hv; rw [← hnn]; exact List.mem_of_mem_drop hv)
  rw [← hD] at fin ⊢
  have FIN := hidb fin
  have HL := hidb hL
  have HLl := hidb hLl
  have HD := hidb hD
  have HDl := hidb hDl
  have HD1 := hidb hD1
  have hcn : ¬ c = i := by omega
  have hcn1 : ¬ c = i + 1 := by omega
  have hcn2 : ¬ c = i + j := by omega
  have q1 : IntKind.i64.wrap ((i : Int) + (j : Int)) = (i : Int) + (j : Int) := IntWalk.i64_in _ (by omega)
  have q2 : (0 : Int) ≤ (i : Int) + (j : Int) := by omega
  have q3 : ((i : Int) + (j : Int)).toNat = i + j := by omega
  have q4 : IntKind.i64.wrap (i : Int) = (i : Int) := IntWalk.i64_in _ (by omega)
  have q5 : (i : Int) ≤ (i : Int) + (j : Int) := by omega
  have q6 : (i : Int) + 1 ≤ (i : Int) + 1 + (j : Int) := by omega
  have q7 : (0 : Int) ≤ (i : Int) + 1 := by omega
  have q8 : ((i : Int) + 1).toNat = i + 1 := by omega
  have HN := hidb hnn
  subst hnn
  clear hown hL hLl hD hDl hD1 hx1 fin
  go_enter Tryz.func74, Tryz.ntmps74
  go_wp2
  go_quiet (fail)
  go_wp2_with (first
    | (refine wpList_copyK rfl (.tmp 95) (.tmp 96) 54 54 rfl 41 2 (by decide) Tryz.underlying54 run_size2 _ _ _ _ _ _ rfl rfl g (i * 2) L 41 HL.out.drewN [] (by simp) (by simp) (by have := HLl.out; simp; omega) (by simp) ?_; intro w1 hw1 hb1))
  have HS : Hid (CellsAt w1 (some ⟨g, (i + 1) * 2, none⟩) D) := hidb (by
    rw [HD.out]
    exact drop_cells (n := i + 1 + j) (fun k hk1 _ => by rw [hw1.out.cell, splice_past _ _ _ _ (by simp; omega) (by have := HLl.out; omega)]))
  have hsl : Hid ((splice L (i * 2) []).length = L.length) := hidb (length_splice _ _ _ (by have := HLl.out; simp; omega))
  go_region_law (refine step_copyK rfl (.tmp 103) (.tmp 106) 54 54 rfl 41 2 (by decide) Tryz.underlying54 run_size2 (some ⟨g, i * 2, none⟩) (some ⟨g, (i + 1) * 2, none⟩) j (c - i) j (c - (i + 1)) (by simp [Act.eval, Act.put]) (by simp [Act.eval, Act.put]) g (i * 2) _ 41 hw1.out.drew D (by rw [HDl.out]; congr 1; exact (Nat.min_self j).symm) (fun _ => ⟨rfl, _, rfl, HS.out⟩) (by have := HLl.out; have := hsl.out; have := HDl.out; omega) HD1.out ?_; intro w2 hw2 hb2)
  have hs2 : Hid ((splice (splice L (i * 2) []) (i * 2) D).length = L.length) := hidb (by rw [length_splice _ _ _ (by have := HLl.out; have := hsl.out; have := HDl.out; omega)]; exact hsl.out)
  go_wp2_with (first
    | (refine wpList_clearK rfl (.tmp 110) 54 rfl 41 _ Tryz.underlying54 run_zero _ g ((i + j) * 2) _ _ rfl _ _ hw2.out (run_noughts _) (by intro _; exact ⟨rfl, by have := HLl.out; have := hs2.out; rw [noughts_size]; omega⟩) ?_; intro w3 L3 hw3 hb3))
  go_ret
  obtain ⟨r1, r2, r3⟩ := hw3.out
  have hsp := splice_fore L [] D (i * 2) (by have := HLl.out; have := HDl.out; simp; omega)
  refine FIN.out w3 L3 r1 (by rw [r2]; exact hsp.2) ?_ (grownTrans (grownTrans (grownTrans (grownDrewN (grownSelf _ _) _) hb1.out) (grownTrans (grownDrew (grownSelf _ _)) hb2.out)) hb3.out)
  have e := hsp.1
  rw [HDl.out] at e
  rw [← e]
  have e2 : (i + 0 + j) * 2 = (i + j) * 2 := by omega
  rw [e2, r3]
  congr 1
  simp; omega

set_option maxRecDepth 100000 in
set_option maxHeartbeats 4000000 in
/-- One in front of others is replaced by one. -/
theorem code_rep_1 (g i j c d g2 off2 : Nat) (xs vs : List Value) (w : World) (base : Nat) (hown : w.ownsRow base 41 2 (.slice (some ⟨g, 0, none⟩) (i + 1 + j) c) (i + 1 + j) xs) (hj : 0 < j) (hn : i + 1 + j ≤ 65536) (hx1 : ∀ v ∈ xs, v.oneCell' = true)
    (hv : vs.length = 2) (hvs : CellsAt w (some ⟨g2, off2, none⟩) vs) (hone : ∀ u ∈ vs, u.oneCell' = true) :
    Calls Tryz.prog 74 #[.slice (some ⟨g, 0, none⟩) (i + 1 + j) c, .int .i64 (i : Int), .int .i64 ((i : Int) + 1), .slice (some ⟨g2, off2, none⟩) 1 d] w (Replaced w base g (i + 1 + j) (xs.take (i * 2) ++ vs ++ xs.drop ((i + 1) * 2))) := by
  obtain ⟨L, hL, hbg, hnc, hcm, hLl, rfl⟩ := own_whole hown
  obtain ⟨n, hnn⟩ : ∃ n, n = i + 1 + j := ⟨_, rfl⟩
  have fin := rep_fin (w := w) (V := vs) (m := 1) (j := j) hbg (by omega) hcm hLl hnn (by omega)
  rw [← hnn]
  unfold maxLen at hcm
  obtain ⟨D, hD⟩ : ∃ D, D = (L.take (n * 2)).drop ((i + 1) * 2) := ⟨_, rfl⟩
  have hDl : D.length = j * 2 := by rw [hD, List.length_drop, List.length_take]; omega
  have hD1 : ∀ v ∈ D, v.oneCell' = true := fun v hv => hx1 v (by rw [hD] at hv; rw [← hnn]; exact List.mem_of_mem_drop hv)
  rw [← hD] at fin ⊢
  have FIN := hidb fin
  have HL := hidb hL
  have HLl := hidb hLl
  have HD := hidb hD
  have HDl := hidb hDl
  have HD1 := hidb hD1
  have HV := hidb hv
  have HVS := hidb hvs
  have HONE := hidb hone
  have hcn : ¬ c = i := by omega
  have hcn1 : ¬ c = i + 1 := by omega
  have q1 : IntKind.i64.wrap ((i : Int) + 1) = (i : Int) + 1 := IntWalk.i64_in _ (by omega)
  have q2 : IntKind.i64.wrap ((i : Int) + 1 + (j : Int)) = (i : Int) + 1 + (j : Int) := IntWalk.i64_in _ (by omega)
  have q3 : (0 : Int) ≤ (i : Int) + 1 + (j : Int) := by omega
  have q4 : ((i : Int) + 1 + (j : Int)).toNat = i + 1 + j := by omega
  have q5 : (i : Int) ≤ (i : Int) + 1 + (j : Int) := by omega
  have q6 : (i : Int) + 1 ≤ (i : Int) + 1 + (j : Int) := by omega
  have q7 : (0 : Int) ≤ (i : Int) + 1 := by omega
  have q8 : ((i : Int) + 1).toNat = i + 1 := by omega
  have q9 : (i : Int) + 1 + (j : Int) ≤ (c : Int) := by omega
  have HN := hidb hnn
  subst hnn
  clear hown hL hLl hD hDl hD1 hx1 hv hvs hone fin
  have hsl : Hid ((splice L (i * 2) vs).length = L.length) := hidb (length_splice _ _ _ (by have := HLl.out; have := HV.out; omega))
  have hs2 : Hid ((splice (splice L (i * 2) vs) ((i + 1) * 2) D).length = L.length) := hidb (by rw [length_splice _ _ _ (by have := HLl.out; have := hsl.out; have := HDl.out; omega)]; exact hsl.out)
  obtain ⟨X, hX⟩ : ∃ X, (if c = i + 1 + j then some (⟨g, 0, none⟩ : Addr) else some ⟨g, (i + 1 + j) * 2, none⟩) = X := ⟨_, rfl⟩
  go_enter Tryz.func74, Tryz.ntmps74
  go_wp2
  go_quiet (fail)
  go_wp2_with (first
    | (refine wpList_copyK rfl (.tmp 95) (.tmp 96) 54 54 rfl 41 2 (by decide) Tryz.underlying54 run_size2 _ _ _ _ _ _ rfl rfl g (i * 2) L 41 HL.out.drewN vs (by rw [HV.out]; first | (simp [Nat.min_def]; done) | (simp [Nat.min_def]; omega) | (simp only [Nat.min_def]; split <;> omega)) (fun _ => ⟨rfl, _, rfl, HVS.out⟩) (by have := HLl.out; have := HV.out; omega) HONE.out ?_; intro w1 hw1 hb1))
  have HS : Hid (CellsAt w1 (some ⟨g, (i + 1) * 2, none⟩) D) := hidb (by
    rw [HD.out]
    exact drop_cells (n := i + 1 + j) (fun k hk1 _ => by rw [hw1.out.cell, splice_past _ _ _ _ (by have := HV.out; omega) (by have := HLl.out; omega)]))
  go_region_law (refine step_copyK rfl (.tmp 103) (.tmp 106) 54 54 rfl 41 2 (by decide) Tryz.underlying54 run_size2 (some ⟨g, (i + 1) * 2, none⟩) (some ⟨g, (i + 1) * 2, none⟩) j (c - (i + 1)) j (c - (i + 1)) (by simp [Act.eval, Act.put]) (by simp [Act.eval, Act.put]) g ((i + 1) * 2) _ 41 hw1.out.drew D (by rw [HDl.out]; congr 1; exact (Nat.min_self j).symm) (fun _ => ⟨rfl, _, rfl, HS.out⟩) (by have := HLl.out; have := hsl.out; have := HDl.out; omega) HD1.out ?_; intro w2 hw2 hb2)
  go_wp2_with (first
    | (refine wpList_clearK rfl (.tmp 110) 54 rfl 41 _ Tryz.underlying54 run_zero _ g ((i + 1 + j) * 2) 0 _ rfl _ _ hw2.out (run_noughts _) (by intro h; exact absurd h (Nat.lt_irrefl 0)) ?_; intro w3 L3 hw3 hb3))
  go_ret
  obtain ⟨r1, r2, r3⟩ := hw3.out
  have hsp := splice_fore L vs D (i * 2) (by have := HLl.out; have := HDl.out; have := HV.out; omega)
  rw [HV.out, HDl.out, show i * 2 + 2 = (i + 1) * 2 by omega] at hsp
  refine FIN.out w3 L3 r1 (by rw [r2]; exact hsp.2) ?_ (grownTrans (grownTrans (grownTrans (grownDrewN (grownSelf _ _) _) hb1.out) (grownTrans (grownDrew (grownSelf _ _)) hb2.out)) hb3.out)
  rw [r3, ← hsp.1]
  congr 1
  omega

end Go.Proofs.YtcngcibiibchiaaGreat

/- slices.Replace of one struct of a row of the call's own by two. -/
namespace Go.Proofs.YtcngcibiibchiaaGreat
open Go.RowKit
set_option linter.unusedVariables false

theorem blk_off {g g2 off2 : Nat} (h : g ≠ g2) : ∀ ad : Addr, some (⟨g2, off2, none⟩ : Addr) = some ad → some ad.block ≠ some g := fun ad e hq => by
  injection e with e
  subst e
  injection hq with hq
  exact h hq.symm

set_option maxRecDepth 100000 in
set_option maxHeartbeats 4000000 in
/-- One in front of others is replaced by two, for which there is room. -/
theorem code_rep_2 (g i j c d g2 off2 : Nat) (xs vs L2 : List Value) (w : World) (base : Nat) (hown : w.ownsRow base 41 2 (.slice (some ⟨g, 0, none⟩) (i + 1 + j) c) (i + 1 + j) xs) (hj : 0 < j) (hn : i + 1 + j ≤ 65536) (hx1 : ∀ v ∈ xs, v.oneCell' = true)
    (hv : vs.length = 4) (hvs : CellsAt w (some ⟨g2, off2, none⟩) vs) (hone : ∀ u ∈ vs, u.oneCell' = true) (hne : g ≠ g2) (hL2 : Rw w g2 41 L2) (hl2 : L2.length ≠ 0) (hroom : i + 2 + j ≤ c) :
    Calls Tryz.prog 74 #[.slice (some ⟨g, 0, none⟩) (i + 1 + j) c, .int .i64 (i : Int), .int .i64 ((i : Int) + 1), .slice (some ⟨g2, off2, none⟩) 2 d] w (Replaced w base g (i + 2 + j) (xs.take (i * 2) ++ vs ++ xs.drop ((i + 1) * 2))) := by
  obtain ⟨L, hL, hbg, hnc, hcm, hLl, rfl⟩ := own_whole hown
  obtain ⟨n, hnn⟩ : ∃ n, n = i + 1 + j := ⟨_, rfl⟩
  have fin := rep_fin (w := w) (V := vs) (m := 2) (j := j) hbg (by omega) hcm hLl hnn (by omega)
  rw [← hnn]
  unfold maxLen at hcm
  obtain ⟨D, hD⟩ : ∃ D, D = (L.take (n * 2)).drop ((i + 1) * 2) := ⟨_, rfl⟩
  have hDl : D.length = j * 2 := by rw [hD, List.length_drop, List.length_take]; omega
  have hD1 : ∀ v ∈ D, v.oneCell' = true := fun v hv => hx1 v (by rw [hD] at hv; rw [← hnn]; exact List.mem_of_mem_drop hv)
  rw [← hD] at fin ⊢
  have FIN := hidb fin
  have HL := hidb hL
  have HLl := hidb hLl
  have HD := hidb hD
  have HDl := hidb hDl
  have HD1 := hidb hD1
  have HV := hidb hv
  have HVS := hidb hvs
  have HONE := hidb hone
  have hcn : ¬ c = i := by omega
  have hcn1 : ¬ c = i + 1 := by omega
  have hcn2 : ¬ c = i + 2 := by omega
  have q0 : IntKind.i64.wrap ((i : Int) + 2) = (i : Int) + 2 := IntWalk.i64_in _ (by omega)
  have q2 : IntKind.i64.wrap ((i : Int) + 2 + (j : Int)) = (i : Int) + 2 + (j : Int) := IntWalk.i64_in _ (by omega)
  have q3 : (0 : Int) ≤ (i : Int) + 2 + (j : Int) := by omega
  have q4 : ((i : Int) + 2 + (j : Int)).toNat = i + 2 + j := by omega
  have q5 : (i : Int) ≤ (i : Int) + 2 + (j : Int) := by omega
  have q6 : (i : Int) + 1 ≤ (i : Int) + 1 + (j : Int) := by omega
  have q7 : (0 : Int) ≤ (i : Int) + 1 := by omega
  have q8 : ((i : Int) + 1).toNat = i + 1 := by omega
  have q9 : (i : Int) + 2 + (j : Int) ≤ (c : Int) := by omega
  have q10 : (i : Int) + 2 ≤ (i : Int) + 2 + (j : Int) := by omega
  have q11 : (0 : Int) ≤ (i : Int) + 2 := by omega
  have q12 : ((i : Int) + 2).toNat = i + 2 := by omega
  have HN := hidb hnn
  subst hnn
  clear hown hx1 hv hvs hone fin hD hDl hD1
  have hov : ∀ q, (callFunc 91 #[.slice (some ⟨g, (i + 2) * 2, none⟩) j (c - (i + 2)), .slice (some ⟨g2, off2, none⟩) 2 d]).run Tryz.prog (w.drewN q) = .ok (.value (.bool false)) (w.drewN q) := fun q => by
    rw [run_callFunc_extern Tryz.func91 (by kernel_rfl) (by kernel_rfl) (by kernel_rfl) (e := Extern.SlicesOverlaps.overlaps #[54, 54] #[4]) (by kernel_rfl),
      run_overlaps_own (w.drewN q) 54 4 41 Tryz.underlying54 2 Tryz.sizeOf41 g ((i + 2) * 2) g2 off2 j (c - (i + 2)) 2 d hne L L2 _ _ hL.drewN hL2.drewN hl2]
    rfl
  clear hL hLl hL2 hl2
  have hsl : Hid ((splice L (i * 2 + 4) D).length = L.length) := hidb (length_splice _ _ _ (by have := HLl.out; have := HDl.out; omega))
  go_enter Tryz.func74, Tryz.ntmps74
  go_wp2
  go_quiet (fail)
  go_wp2
  have HS : Hid (CellsAt (w.drewN nq) (some ⟨g, (i + 1) * 2, none⟩) D) := hidb (by
    rw [HD.out]
    exact drop_cells (n := i + 1 + j) (fun k hk1 _ => by exact HL.out.cell k))
  go_region_law (refine step_copyK rfl (.tmp 126) (.tmp 129) 54 54 rfl 41 2 (by decide) Tryz.underlying54 run_size2 (some ⟨g, (i + 2) * 2, none⟩) (some ⟨g, (i + 1) * 2, none⟩) j (c - (i + 2)) j (c - (i + 1)) (by simp [Act.eval, Act.put]) (by simp [Act.eval, Act.put]) g (i * 2 + 4) _ 41 (show Rw _ _ _ L from HL.out) D (by rw [HDl.out]; congr 1; exact (Nat.min_self j).symm) (fun _ => ⟨by rw [Nat.add_mul], _, rfl, HS.out⟩) (by have := HLl.out; have := HDl.out; omega) HD1.out ?_; intro w2 hw2 hb2)
  have HV2 : Hid (CellsAt w2 (some ⟨g2, off2, none⟩) vs) := hidb (HVS.out.grownBy (grownTrans (grownDrew (grownDrewN (grownSelf (some g) w) nq)) hb2.out) (blk_off hne))
  go_wp2_with (first
    | (refine wpList_copyK rfl (.tmp 133) (.tmp 134) 54 54 rfl 41 2 (by decide) Tryz.underlying54 run_size2 _ _ _ _ _ _ rfl rfl g (i * 2) _ 41 hw2.out vs (by rw [HV.out]; first | (simp [Nat.min_def]; done) | (simp [Nat.min_def]; omega) | (simp only [Nat.min_def]; split <;> omega)) (fun _ => ⟨rfl, _, rfl, HV2.out⟩) (by have := HLl.out; have := HV.out; have := hsl.out; omega) HONE.out ?_; intro w3 hw3 hb3))
  go_ret
  have hsp := splice_back L vs D (i * 2) (by have := HLl.out; have := HDl.out; have := HV.out; omega)
  rw [HV.out, HDl.out] at hsp
  refine FIN.out w3 _ hw3.out hsp.2 ?_ (grownTrans (grownTrans (grownDrew (grownDrewN (grownSelf _ _) _)) hb2.out) hb3.out)
  rw [← hsp.1]
  congr 1
  omega

set_option maxRecDepth 100000 in
set_option maxHeartbeats 4000000 in
/-- One in front of others is replaced by two, for which there is no room. -/
theorem code_rep_grow (g i j c d g2 off2 : Nat) (xs vs : List Value) (w : World) (base : Nat) (hown : w.ownsRow base 41 2 (.slice (some ⟨g, 0, none⟩) (i + 1 + j) c) (i + 1 + j) xs) (hj : 0 < j) (hn : i + 1 + j ≤ 65536) (hx1 : ∀ v ∈ xs, v.oneCell' = true) (hbase : base ≤ w.heap.size)
    (hv : vs.length = 4) (hvs : CellsAt w (some ⟨g2, off2, none⟩) vs) (hone : ∀ u ∈ vs, u.oneCell' = true) (hg2 : g2 < w.heap.size) (hroom : c < i + 2 + j) :
    Calls Tryz.prog 74 #[.slice (some ⟨g, 0, none⟩) (i + 1 + j) c, .int .i64 (i : Int), .int .i64 ((i : Int) + 1), .slice (some ⟨g2, off2, none⟩) 2 d] w (Replaced w base g (i + 2 + j) (xs.take (i * 2) ++ vs ++ xs.drop ((i + 1) * 2))) := by
  obtain ⟨i0, hi, hz0, hz1, hz2⟩ := info_parts info_run
  obtain ⟨L, hL, hbg, hnc, hcm, hLl, rfl⟩ := own_whole hown
  have hglt := hL.lt
  obtain ⟨n, hnn⟩ : ∃ n, n = i + 1 + j := ⟨_, rfl⟩
  rw [← hnn]
  unfold maxLen at hcm
  obtain ⟨D, hD⟩ : ∃ D, D = (L.take (n * 2)).drop ((i + 1) * 2) := ⟨_, rfl⟩
  have hDl : D.length = j * 2 := by rw [hD, List.length_drop, List.length_take]; omega
  have hD1 : ∀ v ∈ D, v.oneCell' = true := fun v hv => hx1 v (by rw [hD] at hv; rw [← hnn]; exact List.mem_of_mem_drop hv)
  rw [← hD]
  have HX : Hid ((L.take (n * 2)).take (i * 2) = L.take (i * 2)) := hidb (by rw [List.take_take, Nat.min_eq_left (by omega)])
  rw [HX.out]
  have HL := hidb hL
  have HLl := hidb hLl
  have HD := hidb hD
  have HDl := hidb hDl
  have HD1 := hidb hD1
  have HV := hidb hv
  have HVS := hidb hvs
  have HONE := hidb hone
  have hcn : ¬ c = i := by omega
  have hcn1 : ¬ c = i + 1 := by omega
  have q0 : IntKind.i64.wrap ((i : Int) + 2) = (i : Int) + 2 := IntWalk.i64_in _ (by omega)
  have q2 : IntKind.i64.wrap ((i : Int) + 2 + (j : Int)) = (i : Int) + 2 + (j : Int) := IntWalk.i64_in _ (by omega)
  have q5 : (i : Int) ≤ (i : Int) + (2 + (j : Int)) := by omega
  have q6 : (i : Int) + 1 ≤ (i : Int) + 1 + (j : Int) := by omega
  have q7 : (0 : Int) ≤ (i : Int) + 1 := by omega
  have q8 : ((i : Int) + 1).toNat = i + 1 := by omega
  have q9 : (c : Int) < (i : Int) + 2 + (j : Int) := by omega
  have q10 : (i : Int) + 2 ≤ (i : Int) + (2 + (j : Int)) := by omega
  have q11 : (0 : Int) ≤ (i : Int) + 2 := by omega
  have q12 : ((i : Int) + 2).toNat = i + 2 := by omega
  have HN := hidb hnn
  subst hnn
  have HOLD : Hid (∀ q, CellsAt (w.drewN q) (some ⟨g, 0, none⟩) (L.take (i * 2))) := hidb (fun q => hL.drewN.cells 0 _ (fun k u hk => by
    rw [List.getElem?_take] at hk
    split at hk
    · rw [Nat.zero_add]; exact hk
    · cases hk))
  obtain ⟨R, hR⟩ : ∃ R, L.take (i * 2) ++ vs ++ D = R := ⟨_, rfl⟩
  rw [hR]
  have HR := hidb hR
  clear hown hx1 hv hvs hone hD hDl hD1 hL hLl HX hR
  go_enter Tryz.func74, Tryz.ntmps74
  go_wp2
  go_quiet (fail)
  go_wp2_with (first
    | (at_builtin; refine wpList_append_zeros rfl (.tmp 63) (.tmp 66) 54 3 rfl 41 i0 (.agg #[.int .i64 0, .int .i64 0]) 2 16 Tryz.underlying54 Tryz.underlying3 hi hz0 hz1 hz2 rfl (by decide) g i c rfl (L.take (i * 2)) (by have := HLl.out; rw [List.length_take]; omega) (HOLD.out _) (2 + j) _ (by omega) rfl (by omega) (by omega) (by omega) (by omega) ?_; intro w1 G L1 h1 hb1; obtain ⟨hg1, hg2, hg3⟩ : i + 2 + j ≤ G ∧ ¬ G = i ∧ ¬ G = i + 2 := (by have := h1.out.2.1; omega); have hg4 : G ≤ 9223372036854775807 := (by have := h1.out.2.2.1; unfold maxLen at this; omega); have HL1 : Hid (Rw w1 w.heap.size 41 L1) := (hidb h1.out.1); have HL1l : Hid (L1.length = G * 2) := (hidb h1.out.2.2.2.1); have HG : Hid (g ≠ w.heap.size) := (hidb (by omega)); have HB1 : Hid (w.grownBy w1 none) := (hidb (grownTrans (grownDrewN (grownSelf _ _) _) hb1.out)); have HV1 : Hid (CellsAt w1 (some ⟨g2, off2, none⟩) vs) := (hidb (HVS.out.grownBy HB1.out (fun ad e h => by cases h))))
    | (refine wpList_copyK rfl (.tmp 70) (.tmp 71) 54 54 rfl 41 2 (by decide) Tryz.underlying54 run_size2 _ _ _ _ _ _ rfl rfl w.heap.size (i * 2) _ 41 HL1.out vs (by rw [HV.out]; first | (simp [Nat.min_def]; done) | (simp [Nat.min_def]; omega) | (simp only [Nat.min_def]; split <;> omega)) (fun _ => ⟨rfl, _, rfl, HV1.out⟩) (by have := HL1l.out; have := HV.out; omega) HONE.out ?_; intro w2 hw2 hb2))
  have hsl : Hid ((splice L1 (i * 2) vs).length = L1.length) := hidb (length_splice _ _ _ (by have := HL1l.out; have := HV.out; omega))
  have HB2 : Hid (w.grownBy w2 none) := hidb (grownNew HB1.out (Nat.le_refl _) hb2.out)
  have HS : Hid (CellsAt w2 (some ⟨g, (i + 1) * 2, none⟩) D) := hidb (by
    rw [HD.out]
    refine drop_cells (n := i + 1 + j) (fun k hk1 _ => ?_)
    have h := HL.out.grown (r := none) HB2.out (by simp)
    exact h.cell k)
  go_region_law (refine step_copyK rfl (.tmp 78) (.tmp 81) 54 54 rfl 41 2 (by decide) Tryz.underlying54 run_size2 (some ⟨w.heap.size, (i + 2) * 2, none⟩) (some ⟨g, (i + 1) * 2, none⟩) j (G - (i + 2)) j (c - (i + 1)) (by simp [Act.eval, Act.put]; omega) (by simp [Act.eval, Act.put]) w.heap.size (i * 2 + 4) _ 41 hw2.out.drew D (by rw [HDl.out]; congr 1; exact (Nat.min_self j).symm) (fun _ => ⟨by rw [Nat.add_mul], _, rfl, HS.out⟩) (by have := HL1l.out; have := hsl.out; have := HDl.out; omega) HD1.out ?_; intro w3 hw3 hb3)
  go_wp2
  go_ret
  have hsp := splice_fore L1 vs D (i * 2) (by have := HL1l.out; have := HDl.out; have := HV.out; omega)
  rw [HV.out, HDl.out, h1.out.2.2.2.2] at hsp
  refine ⟨some ⟨w.heap.size, 0, none⟩, G, by rw [show i + 2 + j = i + (2 + j) by omega]; rfl, ?_, fun b e => Or.inr (by injection e with e; rw [← e]; exact Nat.le_refl _), grownNone (grownNew HB2.out (Nat.le_refl _) (grownTrans (grownDrew (grownSelf _ _)) hb3.out))⟩
  have := own_of_whole (base := base) (s := 2) (n := i + 2 + j) (c := G) hw3.out hbase hg1 h1.out.2.2.1 (by rw [hsp.2]; exact HL1l.out)
  rw [show (i + 2 + j) * 2 = i * 2 + 4 + j * 2 by omega, hsp.1, HR.out] at this
  exact this

end Go.Proofs.YtcngcibiibchiaaGreat

/- slices.Replace of one struct of a row of the call's own by none, one or two: all cases. -/
namespace Go.Proofs.YtcngcibiibchiaaGreat
open Go.RowKit
set_option linter.unusedVariables false

theorem code_replace (g i n c m d : Nat) (A2 : Option Addr) (xs vs : List Value) (w : World) (base base2 : Nat) (hown : w.ownsRow base 41 2 (.slice (some ⟨g, 0, none⟩) n c) n xs) (hi : i < n) (hn : n ≤ 65536) (hx1 : ∀ v ∈ xs, v.oneCell' = true) (hbase : base ≤ w.heap.size)
    (hv : w.ownsRow base2 41 2 (.slice A2 m d) m vs) (hm : m ≤ 2) (hone : ∀ u ∈ vs, u.oneCell' = true) (hne : ∀ b, (Value.slice A2 m d).ownBlock = some b → b ≠ g) :
    Calls Tryz.prog 74 #[.slice (some ⟨g, 0, none⟩) n c, .int .i64 (i : Int), .int .i64 ((i : Int) + 1), .slice A2 m d] w (Replaced w base g (n - 1 + m) (xs.take (i * 2) ++ vs ++ xs.drop ((i + 1) * 2))) := by
  have hvl : vs.length = m * 2 := hv.1
  have hxl : xs.length = n * 2 := hown.1
  have src : 0 < m → ∃ g2 L2, A2 = some ⟨g2, 0, none⟩ ∧ CellsAt w (some ⟨g2, 0, none⟩) vs ∧ Rw w g2 41 L2 ∧ L2.length ≠ 0 ∧ g ≠ g2 ∧ g2 < w.heap.size := fun h => by
    have hA : ∃ g2, A2 = some ⟨g2, 0, none⟩ := by
      rcases hv.2 with ⟨_, h0⟩ | ⟨g2, cap, cur, h1, _⟩
      · omega
      · injection h1 with e1; exact ⟨g2, e1⟩
    obtain ⟨g2, rfl⟩ := hA
    obtain ⟨L2, h1, _, h3, _, h5, h6⟩ := own_whole hv
    refine ⟨g2, L2, rfl, ?_, h1, by omega, fun e => hne g2 rfl e.symm, h1.lt⟩
    have := h1.cells 0 vs (fun j u hj => by
      rw [h6, List.getElem?_take] at hj
      split at hj
      · rw [Nat.zero_add]; exact hj
      · cases hj)
    exact this
  have SRC := hidb src
  clear src
  by_cases hl : i + 1 = n
  · subst hl
    have hd : xs.drop ((i + 1) * 2) = [] := List.drop_of_length_le (by omega)
    rw [hd, List.append_nil, show i + 1 - 1 + m = i + m by omega]
    by_cases hm0 : m = 0
    · subst hm0
      obtain rfl : vs = [] := List.eq_nil_of_length_eq_zero (by omega)
      rw [List.append_nil]
      exact code_rep_last0 g i c d A2 xs w base hown (by omega)
    · obtain ⟨g2, L2, rfl, h1, _⟩ := SRC.out (by omega)
      exact code_rep_last g i c m d _ xs vs w base hown (by omega) (by omega) hm hvl h1 hone
  · obtain ⟨j, rfl⟩ : ∃ j, n = i + 1 + j := ⟨n - i - 1, by omega⟩
    rw [show i + 1 + j - 1 + m = i + m + j by omega]
    have h012 : m = 0 ∨ m = 1 ∨ m = 2 := by omega
    rcases h012 with rfl | rfl | rfl
    · obtain rfl : vs = [] := List.eq_nil_of_length_eq_zero (by omega)
      exact code_rep_0 g i j c d A2 xs w base hown (by omega) hn hx1
    · obtain ⟨g2, L2, rfl, h1, h2, h3, h4, h5⟩ := SRC.out (by omega)
      exact code_rep_1 g i j c d g2 0 xs vs w base hown (by omega) hn hx1 (by omega) h1 hone
    · obtain ⟨g2, L2, rfl, h1, h2, h3, h4, h5⟩ := SRC.out (by omega)
      by_cases hr : i + 2 + j ≤ c
      · exact code_rep_2 g i j c d g2 0 xs vs L2 w base hown (by omega) hn hx1 (by omega) h1 hone h4 h2 h3 hr
      · exact code_rep_grow g i j c d g2 0 xs vs w base hown (by omega) hn hx1 hbase (by omega) h1 hone h5 (by omega)

end Go.Proofs.YtcngcibiibchiaaGreat
