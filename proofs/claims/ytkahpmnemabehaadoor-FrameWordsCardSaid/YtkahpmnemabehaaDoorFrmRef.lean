/- What the document's own Read of layer 14 (frame) returns. -/
import Derived.Test.YtkahpmnemabehaaDoorFrmMath
namespace Go.Proofs.YtkahpmnemabehaaDoor
open Go.RowKit
set_option linter.unusedVariables false

theorem sl_getD {w : World} {B n : Nat} {A : Option Addr} {xs : List Nat} {j : Nat} (h : Sl w B A n (xs.map wv)) (hj : j < n) : ∃ b off, A = some ⟨b, off, none⟩ ∧ b < B ∧ w.cell? ⟨b, off + j, none⟩ = some (.int .u64 (xs.getD j 0 : Nat)) := by
  obtain ⟨b, off, u, e, hb, hu, hcell⟩ := h.at_ hj
  rw [List.getElem?_map] at hu
  cases hx : xs[j]? with
  | none => rw [hx] at hu; cases hu
  | some x =>
    rw [hx] at hu
    obtain rfl : u = wv x := by simpa using hu.symm
    exact ⟨b, off, e, hb, by rw [hcell, List.getD_eq_getElem?_getD, hx]; rfl⟩

set_option maxRecDepth 100000 in
set_option maxHeartbeats 2000000 in
theorem ref_frread {w : World} {A A2 : Option Addr} {n c n2 c2 lo hi : Nat} {xs : List Nat} {ys : List FnV} (hs : Sl w w.heap.size A n (xs.map wv)) (hn : n ≤ 65536) (hx : Wd xs) (hr : FnRow w lo hi A2 n2 ys) (hhi : hi ≤ w.heap.size) (hn2 : n2 ≤ 1000) (hl : ∀ x ∈ vals ys, 0 ≤ x.1 ∧ x.1 ≤ 1000) (a : Int) (h0 : in64 a) :
    Calls Tryd.prog 12 #[.slice A n c, .slice A2 n2 c2, .int .i64 a] w fun e w' => e = .returned (.tuple #[frC (frRead xs (vals ys) a).1, .int .i64 (frRead xs (vals ys) a).2]) ∧ Below w.heap.size w w' := by
  have hlen : xs.length = n := by have := hs.1; simpa using this
  have hl2 : (vals ys).length = n2 := by rw [vals_length]; exact hr.len
  have hb0 := belF_al (Below.refl w.heap.size w) (.cells #[.int .i64 0, .int .i64 0, .int .i64 0] 33)
  have HE : Hid (∀ m v0 v1 v2, frRead xs (vals ys) a = (⟨v0, v1, v2⟩, m) → ∀ W, Below w.heap.size w W → Ending.returned (.tuple #[.agg #[.int .i64 v0, .int .i64 v1, .int .i64 v2], .int .i64 m]) = Ending.returned (.tuple #[frC (frRead xs (vals ys) a).1, .int .i64 (frRead xs (vals ys) a).2]) ∧ Below w.heap.size w W) := hidb (fun m v0 v1 v2 h W hb => ⟨by rw [h]; rfl, hb⟩)
  by_cases hin : aIn n a 2 = false
  · have PN := hidb (HE.out 2 0 0 0 (frRead_out (by rw [hlen]; exact hin)))
    obtain ⟨i0, i1⟩ := h0
    have hno := of_decide_eq_false hin
    clear hs hr hl hx HE hin hl2 hlen
    by_cases c1 : a < 0
    · clear hno
      --@a1
      go_enter Tryd.func12, Tryd.ntmps12
      go_wp2
      exact bodyPost_ret (v := .tuple #[.agg #[.int .i64 0, .int .i64 0, .int .i64 0], .int .i64 2]) (by simp [results, Tryd.results12, go_sem]) rfl (PN.out _ (belF_al (Below.refl _ _) _))
    by_cases c2 : (n : Int) ≤ a
    · clear hno
      --@a2
      go_enter Tryd.func12, Tryd.ntmps12
      go_wp2
      exact bodyPost_ret (v := .tuple #[.agg #[.int .i64 0, .int .i64 0, .int .i64 0], .int .i64 2]) (by simp [results, Tryd.results12, go_sem]) rfl (PN.out _ (belF_al (Below.refl _ _) _))
    have c3 : (n : Int) < a + 2 := by omega
    have hw : wrap64 (a + 2) = a + 2 := by unfold wrap64; omega
    clear hno
    --@a3
    go_enter Tryd.func12, Tryd.ntmps12
    go_wp2
    exact bodyPost_ret (v := .tuple #[.agg #[.int .i64 0, .int .i64 0, .int .i64 0], .int .i64 2]) (by simp [results, Tryd.results12, go_sem]) rfl (PN.out _ (belF_al (Below.refl _ _) _))
  have hin' : aIn n a 2 = true := by simpa using hin
  have hA := of_decide_eq_true hin'
  obtain ⟨i, rfl⟩ : ∃ i : Nat, a = (i : Int) := ⟨a.toNat, by omega⟩
  have hi2 : i + 2 ≤ n := by omega
  rw [← hlen] at hin'
  obtain ⟨k, hk⟩ : ∃ k, xs.getD i 0 = k := ⟨_, rfl⟩
  obtain ⟨f, hf⟩ : ∃ f, xs.getD (i + 1) 0 = f := ⟨_, rfl⟩
  obtain ⟨b, off, rfl, hbl, ck⟩ := sl_getD hs (j := i) (by omega)
  obtain ⟨b', off', e1, _, cf⟩ := sl_getD hs (j := i + 1) (by omega)
  injection e1 with e1
  injection e1 with e1 e2
  subst e1 e2
  rw [hk] at ck
  rw [hf] at cf
  have hget : ∀ i, i < xs.length → xs.getD i 0 < 18446744073709551616 := fun i hi => by
    rw [List.getD_eq_getElem?_getD, List.getElem?_eq_getElem hi]; exact hx _ (List.getElem_mem hi)
  have hf2 : f < 18446744073709551616 := hf ▸ hget (i + 1) (by rw [hlen]; exact hi2)
  have hk2 : k < 18446744073709551616 := hk ▸ hget i (by rw [hlen]; exact Nat.lt_of_succ_lt hi2)
  have hK : frOk xs (vals ys) i = decide (k ≤ n ∧ 1 ≤ f ∧ f ≤ n2 ∧ (i : Int) + fWords (vals ys) ((f : Nat) - 1 : Int) ≤ n) := by unfold frOk; rw [hk, hf, hlen, hl2]
  have HN : Hid (frOk xs (vals ys) i = false → frRead xs (vals ys) (i : Int) = (fr0, 9)) := hidb (fun h => frRead_no hin' h)
  have HY : Hid (frOk xs (vals ys) i = true → frRead xs (vals ys) (i : Int) = (⟨i, (f : Int) - 1, (k : Int) - 1⟩, 0)) := hidb (fun h => by have h2 := frRead_yes hin' h; rw [hk, hf] at h2; exact h2)
  have HC : Hid (∀ W, Below w.heap.size w W → W.cell? ⟨b, off + i, none⟩ = some (.int .u64 (k : Int)) ∧ W.cell? ⟨b, off + (i + 1), none⟩ = some (.int .u64 (f : Int))) := hidb (fun W hb => ⟨(hb.cell (p := ⟨b, off + i, none⟩) hbl).trans ck, (hb.cell (p := ⟨b, off + (i + 1), none⟩) hbl).trans cf⟩)
  have hwr := fun W (hb : Below w.heap.size w W) (g : Int) => ref_fwordsR A2 n2 c2 ys lo hi W g (hr.below (hb.mono hhi)) hn2 (by have := fSize_range hl g; omega) (by have := fSize_range hl g; omega)
  have HW := hidb hwr
  have HFW : Hid (∀ g, -1 ≤ fWords (vals ys) g ∧ fWords (vals ys) g ≤ 1002) := hidb (fun g => by have := fWords_cases (vals ys) hl g; omega)
  clear hs hr hl hx hin hin' hl2 hlen hget hA hwr hk hf h0
  by_cases g0 : f = 0
  · have PN := hidb (HE.out 9 0 0 0 (HN.out (by rw [hK]; exact decide_eq_false (by omega))))
    subst g0
    obtain ⟨d0, d1⟩ := HC.out _ (belF_al (Below.refl _ _) (.cells #[.int .i64 0, .int .i64 0, .int .i64 0] 33))
    clear HE HN HY hK HW HC HFW ck cf
    have n1 : ((i : Int) + 1).toNat = i + 1 := rfl
    --@1
    go_enter Tryd.func12, Tryd.ntmps12
    go_wp2
    exact bodyPost_ret (v := .tuple #[.agg #[.int .i64 0, .int .i64 0, .int .i64 0], .int .i64 9]) (by simp [results, Tryd.results12, go_sem]) rfl (PN.out _ (belF_al (Below.refl _ _) _))
  have g0' : ((f : Int) == 0) = false := by simpa using g0
  by_cases g1 : n2 < f
  · have PN := hidb (HE.out 9 0 0 0 (HN.out (by rw [hK]; exact decide_eq_false (by omega))))
    obtain ⟨d0, d1⟩ := HC.out _ (belF_al (Below.refl _ _) (.cells #[.int .i64 0, .int .i64 0, .int .i64 0] 33))
    clear HE HN HY hK HW HC HFW ck cf
    have n1 : ((i : Int) + 1).toNat = i + 1 := rfl
    --@2
    go_enter Tryd.func12, Tryd.ntmps12
    go_wp2
    exact bodyPost_ret (v := .tuple #[.agg #[.int .i64 0, .int .i64 0, .int .i64 0], .int .i64 9]) (by simp [results, Tryd.results12, go_sem]) rfl (PN.out _ (belF_al (Below.refl _ _) _))
  by_cases g2 : n < k
  · have PN := hidb (HE.out 9 0 0 0 (HN.out (by rw [hK]; exact decide_eq_false (by omega))))
    obtain ⟨d0, d1⟩ := HC.out _ (belF_al (Below.refl _ _) (.cells #[.int .i64 0, .int .i64 0, .int .i64 0] 33))
    clear HE HN HY hK HW HC HFW ck cf
    have n1 : ((i : Int) + 1).toNat = i + 1 := rfl
    --@3
    go_enter Tryd.func12, Tryd.ntmps12
    go_wp2
    exact bodyPost_ret (v := .tuple #[.agg #[.int .i64 0, .int .i64 0, .int .i64 0], .int .i64 9]) (by simp [results, Tryd.results12, go_sem]) rfl (PN.out _ (belF_al (Below.refl _ _) _))
  have hfb : f ≤ 65536 := by omega
  have hkb : k ≤ 65536 := by omega
  obtain ⟨d0, d1⟩ := HC.out _ (belF_al (Below.refl _ _) (.cells #[.int .i64 0, .int .i64 0, .int .i64 0] 33))
  have HWX := hidb (HW.out _ (belF_al (belF_al (Below.refl _ _) (.cells #[.int .i64 0, .int .i64 0, .int .i64 0] 33)) (.cells #[.int .i64 (i : Int), .int .i64 ((f : Int) - 1), .int .i64 ((k : Int) - 1)] 33)) ((f : Int) - 1))
  obtain ⟨r0, r1⟩ := HFW.out ((f : Int) - 1)
  obtain ⟨z, hz⟩ : ∃ z, fWords (vals ys) ((f : Int) - 1) = z := ⟨_, rfl⟩
  rw [hz] at HWX r0 r1 hK
  have hz5 : -1000000 ≤ (i : Int) + z ∧ (i : Int) + z ≤ 1000000 := by omega
  by_cases g3 : (n : Int) < (i : Int) + z
  · have PN := hidb (HE.out 9 0 0 0 (HN.out (by rw [hK]; exact decide_eq_false (by omega))))
    clear HE HN HY hK HW HC HFW ck cf hz
    have n1 : ((i : Int) + 1).toNat = i + 1 := rfl
    have hf1 : 1 ≤ f := Nat.pos_of_ne_zero g0
    --@4
    go_enter Tryd.func12, Tryd.ntmps12
    go_wp2_with (go_at_call 17; (with_reducible refine HWX.out.mono ?_); rintro e w' ⟨rfl, rfl⟩)
    exact bodyPost_ret (v := .tuple #[.agg #[.int .i64 0, .int .i64 0, .int .i64 0], .int .i64 9]) (by simp [results, Tryd.results12, go_sem]) rfl (PN.out _ (belF_al (belF_al (Below.refl _ _) _) _))
  · have PN := hidb (HE.out 0 (i : Int) ((f : Int) - 1) ((k : Int) - 1) (HY.out (by rw [hK]; exact decide_eq_true (by omega))))
    clear HE HN HY hK HW HC HFW ck cf hz
    have n1 : ((i : Int) + 1).toNat = i + 1 := rfl
    have hf1 : 1 ≤ f := Nat.pos_of_ne_zero g0
    --@5
    go_enter Tryd.func12, Tryd.ntmps12
    go_wp2_with (go_at_call 17; (with_reducible refine HWX.out.mono ?_); rintro e w' ⟨rfl, rfl⟩)
    exact bodyPost_ret (v := .tuple #[.agg #[.int .i64 (i : Int), .int .i64 ((f : Int) - 1), .int .i64 ((k : Int) - 1)], .int .i64 0]) (by simp [results, Tryd.results12, go_sem]) rfl (PN.out _ (belF_al (belF_al (Below.refl _ _) _) _))
end Go.Proofs.YtkahpmnemabehaaDoor
