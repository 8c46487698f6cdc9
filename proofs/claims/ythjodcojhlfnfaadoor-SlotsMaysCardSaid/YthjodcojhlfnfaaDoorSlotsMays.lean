/- Layer 16's statement SlotsMays. -/
import Derived.Test.YthjodcojhlfnfaaDoorSltLaws
namespace Go.Proofs.YthjodcojhlfnfaaDoor
open Go.RowKit Go.ChangeShapes Go.WideShapes
set_option linter.unusedVariables false

set_option maxRecDepth 100000 in
set_option maxHeartbeats 4000000 in
theorem slotsMays_any (A : Option Addr) (n c : Nat) (vs : List VlV) (w : World) (hr : VlRow w w.heap.size A n vs) (hm : n ≤ maxLen) (hv : ∀ v ∈ vs, VlOk v) (ht : TabDB w) :
    Calls Tryd.prog 4 #[.slice A n c] w fun e w' => e = .returned (.bool true) ∧ Below w.heap.size w w' := by
  unfold maxLen at hm
  have HT := hidb ht
  have KA := fun W (s : Hid (Below w.heap.size w W)) => (awake16 W (TabDB.below HT.out s.out)).mono fun e w' h => (⟨h.1, hidb (belF_tr s.out h.2)⟩ : e = _ ∧ Hid (Below w.heap.size w w'))
  have HB0 := hidb (Below.refl w.heap.size w)
  by_cases hbig : 50 < n
  · have g1 : (50 : Int) < (n : Int) := by omega
    clear hr hv ht hbig
    --@1
    go_enter Tryd.func4, Tryd.ntmps4
    go_wp2_with (first | (go_at_call 8; (with_reducible refine (KA _ HB0).mono ?_); rintro e w1 ⟨rfl, hb1⟩))
    go_ret
    exact ⟨rfl, hb1.out⟩
  have g1 : ¬ ((50 : Int) < (n : Int)) := by omega
  have hn : n ≤ 50 := by omega
  have HR := hidb hr
  have HV := hidb hv
  have KM : Hid (∀ W b, Hid (Below w.heap.size w W) → vs.all vMay = b → Calls Tryd.prog 14 #[.slice A n c] W fun e w' => e = .returned (.bool b) ∧ Hid (Below w.heap.size w w')) := hidb (fun W b s hb => by
    refine (code_vmay A n c vs W w.heap.size (HR.out.below s.out) s.out.size (by omega) (fun v hv => (HV.out v hv).2.2) b hb).mono ?_
    rintro e w' ⟨rfl, h⟩
    exact ⟨rfl, hidb (belF_tr s.out h)⟩)
  have KR : Hid (∀ W v b, v ∈ vs → vMay v = b → Hid (Below w.heap.size w W) → Calls Tryd.prog 13 #[.agg #[.int .u8 v.kind, .int .u64 v.bits, .int .i64 v.depth, .int .i64 v.slot]] W fun e w' => e = .returned (.bool b) ∧ Hid (Below w.heap.size w w')) := hidb (fun W v b hm hb s => by
    refine (ref_slmay v (HV.out v hm).1 (HV.out v hm).2.1 W b hb).mono ?_
    rintro e w' ⟨rfl, h⟩
    exact ⟨rfl, hidb (belF_tr s.out h)⟩)
  clear hr hv ht hbig
  go_enter Tryd.func4, Tryd.ntmps4
  go_wp2
  go_loopw [4, 3] (fun k v wr => ∃ j : Nat, j ≤ n ∧ k = .int .i64 j ∧ (∃ b, v = .bool b ∧ Hid ((vs.take j).all vMay = b)) ∧ Hid (Below w.heap.size w wr)) (fun k _ _ => (n - intOf k).toNat)
  case atStart => exact ⟨0, by omega, rfl, ⟨true, rfl, hidb (by simp)⟩, hidb (Below.refl _ _)⟩
  case round =>
    obtain ⟨j, hj, rfl, ⟨b, rfl, HA⟩, HB⟩ := hrel
    by_cases hlt : j < n
    · obtain ⟨bk, off, v, rfl, hbl, hv, hc0, hc1, hc2, hc3⟩ := HR.out.at_ hlt
      have d0 := (HB.out.cell (p := ⟨bk, off + j * 4, none⟩) hbl).trans hc0
      have d1 := (HB.out.cell (p := ⟨bk, off + j * 4 + 1, none⟩) hbl).trans hc1
      have d2 := (HB.out.cell (p := ⟨bk, off + j * 4 + 2, none⟩) hbl).trans hc2
      have d3 := (HB.out.cell (p := ⟨bk, off + j * 4 + 3, none⟩) hbl).trans hc3
      have hmem : v ∈ vs := List.mem_of_getElem? hv
      obtain ⟨u, hu⟩ : ∃ u, vMay v = u := ⟨_, rfl⟩
      have kr := KR.out wr v u hmem hu HB
      have hstep : (vs.take (j + 1)).all vMay = ((vs.take j).all vMay && vMay v) := by rw [List.take_add_one, hv]; simp
      have g0 : (0 : Int) ≤ (j : Int) := by omega
      have g2 : (j : Int) < (n : Int) := by omega
      cases b with
      | false =>
        have HN : Hid ((vs.take (j + 1)).all vMay = false) := hidb (by rw [hstep, HA.out]; rfl)
        clear hstep hu hv hmem hc0 hc1 hc2 hc3
        --@2
        go_wp2
        go_roundw
        case rel => exact ⟨j + 1, by omega, by go_num, ⟨false, rfl, HN⟩, HB⟩
        case measure => simp [intOf]; omega
      | true =>
        have HN : Hid ((vs.take (j + 1)).all vMay = u) := hidb (by rw [hstep, HA.out, hu]; rfl)
        clear hstep hu hv hmem hc0 hc1 hc2 hc3
        --@3
        go_wp2_with (first | (go_at_call 13; (with_reducible refine kr.mono ?_); rintro e w1 ⟨rfl, hb1⟩))
        go_roundw
        case rel => exact ⟨j + 1, by omega, by go_num, ⟨u, rfl, HN⟩, hb1⟩
        case measure => simp [intOf]; omega
    · have hall : vs.all vMay = b := by rw [← HA.out, List.take_of_length_le (by rw [HR.out.len]; omega)]
      have km := KM.out wr b HB hall
      have e0 : (b == b) = true := by simp
      clear hall
      --@4
      go_wp2_with (first
        | (go_at_call 14; (with_reducible refine km.mono ?_); rintro e w1 ⟨rfl, hb1⟩)
        | (go_at_call 8; (with_reducible refine (KA _ hb1).mono ?_); rintro e w2 ⟨rfl, hb2⟩))
      go_ret
      exact ⟨rfl, hb2.out⟩
end Go.Proofs.YthjodcojhlfnfaaDoor
