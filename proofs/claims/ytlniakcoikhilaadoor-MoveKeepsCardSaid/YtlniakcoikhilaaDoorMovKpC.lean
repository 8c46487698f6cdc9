/- Layer 17's statement MoveKeeps: inside, Slot, and the document's own Same of rows of values. -/
import Derived.Test.YtlniakcoikhilaaDoorMovLaws
namespace Go.Proofs.YtlniakcoikhilaaDoor
open Go.RowKit Go.ChangeShapes Go.WideShapes
set_option linter.unusedVariables false

theorem c_inside (s : StV) (v : Nat) (h0 : 0 ≤ s.lo ∧ s.lo ≤ 65536) (h1 : 0 ≤ s.size ∧ s.size ≤ 65536) (hv : v < 18446744073709551616) (b : Bool) (hb : decide (s.lo ≤ (v : Int) ∧ (v : Int) < s.lo + s.size) = b) (w : World) :
    Calls Tryd.prog 17 #[stC s, .int .u64 (v : Int)] w fun e w' => e = .returned (.bool b) ∧ Below w.heap.size w w' := by
  obtain ⟨lo, size, sp⟩ := s
  simp only at *
  obtain ⟨a, rfl⟩ : ∃ a : Nat, lo = (a : Int) := ⟨lo.toNat, by omega⟩
  obtain ⟨z, rfl⟩ : ∃ z : Nat, size = (z : Int) := ⟨size.toNat, by omega⟩
  have ha : a ≤ 65536 := by omega
  have hz : z ≤ 65536 := by omega
  unfold stC
  simp only
  have HRES := hidb hb
  by_cases c : a ≤ v
  · have hd : decide (a ≤ v) = true := decide_eq_true c
    have hd2 : decide ((a : Int) ≤ (v : Int)) = true := decide_eq_true (by omega)
    have HR2 : Hid (decide ((v : Int) < (a : Int) + (z : Int)) = b) := hidb (by rw [← HRES.out, decide_eq_decide]; omega)
    have HR3 : Hid (decide (v < a + z) = b) := hidb (by rw [← HRES.out, decide_eq_decide]; omega)
    clear hb h0 h1
    --@1
    go_enter Tryd.func17, Tryd.ntmps17
    go_wp2
    go_ret
    exact ⟨by first | (rw [← HR3.out]; rfl) | (rw [← HR2.out]; rfl) | (rw [← HR3.out]; simp), belF_al (Below.refl _ _) _⟩
  · have hd : decide (a ≤ v) = false := decide_eq_false c
    have HR2 : Hid (b = false) := hidb (by rw [← HRES.out]; exact decide_eq_false (by omega))
    clear hb h0 h1
    --@2
    go_enter Tryd.func17, Tryd.ntmps17
    go_wp2
    go_ret
    exact ⟨by first | (rw [HR2.out]; rfl) | (rw [HR2.out]; simp [c]), belF_al (Below.refl _ _) _⟩
theorem c_slot17 (x : FrV) (i : Int) (h : 0 ≤ x.at_ ∧ x.at_ ≤ 65536) (hi : 0 ≤ i ∧ i ≤ 65536) (w : World) :
    Calls Tryd.prog 20 #[.agg #[.int .i64 x.at_, .int .i64 x.fn, .int .i64 x.link], .int .i64 i] w fun e w' => e = .returned (.int .i64 (x.at_ + 2 + i)) ∧ Below w.heap.size w w' := by
  obtain ⟨a, f, l⟩ := x
  simp only at *
  obtain ⟨h2, h3⟩ := h
  obtain ⟨h4, h5⟩ := hi
  go_enter Tryd.func20, Tryd.ntmps20
  go_wp2
  go_ret
  exact ⟨rfl, belF_al (Below.refl _ _) _⟩
set_option maxHeartbeats 4000000 in
/-- Rows of values that are the same. -/
theorem ref_vsame {A A2 : Option Addr} {n c m d : Nat} {w : World} {B B2 : Nat} {zs zs2 : List VlS} (hs : VvRow w B A n zs) (hs2 : VvRow w B2 A2 n zs2) (hv : vvals zs = vvals zs2) (hn : n ≤ 1000000) (hk : ∀ z ∈ zs, z.n ≤ 1000000) :
    Calls Tryd.prog 14 #[.slice A n c, .slice A2 n d] w fun e w' => e = .returned (.bool true) ∧ ∃ q, w' = w.drewN q := by
  have HS := hidb hs
  have HS2 := hidb hs2
  have HV := hidb hv
  have HK := hidb hk
  clear hs hs2 hv hk
  go_enter Tryd.func14, Tryd.ntmps14
  go_wp2
  go_loopw [14, 5, 6] (fun k _ _ wr => ∃ j q : Nat, j ≤ n ∧ k = .int .i64 j ∧ wr = w.drewN q) (fun k _ _ _ => (n - intOf k).toNat)
  case atStart => exact ⟨0, 0, by omega, rfl, rfl⟩
  case round =>
    obtain ⟨j, q, hj, rfl, rfl⟩ := hrel
    by_cases hlt : j < n
    · obtain ⟨b, off, z, rfl, hbl, hz, hc, hrow⟩ := HS.out.at_ hlt
      obtain ⟨b2, off2, z2, rfl, hbl2, hz2, hc2, hrow2⟩ := HS2.out.at_ hlt
      have hvz : z.vs = z2.vs := by
        have e1 := congrArg (fun l => l[j]?) HV.out
        unfold vvals at e1
        simp only [List.getElem?_map, hz, hz2, Option.map_some] at e1
        exact Option.some.inj e1
      have hnn : z2.n = z.n := by rw [← hrow.len, ← hrow2.len, hvz]
      have hzn := HK.out z (List.mem_of_getElem? hz)
      obtain ⟨zA, zn, zc, zv⟩ := z
      obtain ⟨zA2, zn2, zc2, zv2⟩ := z2
      simp only at *
      subst hvz hnn
      have HR := hidb hrow
      have HR2 := hidb hrow2
      have g0 : (0 : Int) ≤ (j : Int) := by omega
      have g1 : (j : Int) < (n : Int) := by omega
      have e0 : ((zn2 : Int) != (zn2 : Int)) = false := by simp
      clear hz hz2 hrow hrow2
      --@3
      go_wp2
      go_quiet (fail)
      go_wp2
      go_loopw [33, 6] (fun k _ wr => ∃ i q2 : Nat, i ≤ zn2 ∧ k = .int .i64 i ∧ wr = w.drewN q2) (fun k _ _ => (zn2 - intOf k).toNat)
      case atStart => exact ⟨0, _, by omega, rfl, by first | rfl | exact World.drewN_drewN _ _ _⟩
      case round =>
        obtain ⟨i, q2, hi, rfl, rfl⟩ := hrel
        by_cases hlti : i < zn2
        · obtain ⟨bv, ov, v, rfl, _, hvx, v0, v1, v2, v3⟩ := HR.out.at_ hlti
          obtain ⟨bv2, ov2, v', rfl, _, hvx2, u0, u1, u2, u3⟩ := HR2.out.at_ hlti
          obtain rfl : v = v' := by rw [hvx] at hvx2; exact Option.some.inj hvx2
          have h0 : (0 : Int) ≤ (i : Int) := by omega
          have h1 : (i : Int) < (zn2 : Int) := by omega
          have hq := fun W => neq_valS v v W
          rw [show (!decide (v = v)) = false by simp] at hq
          clear hvx hvx2
          --@4
          go_wp2
          go_quiet (fail)
          go_wp2
          go_roundw
          case rel => exact ⟨i + 1, _, by omega, by go_num, by first | rfl | exact World.drewN_drewN _ _ _⟩
          case measure => simp [intOf]; omega
        · obtain rfl : i = zn2 := by omega
          --@5
          go_wp2
          go_roundw
          case rel => exact ⟨j + 1, _, by omega, by go_num, by first | rfl | exact World.drewN_drewN _ _ _⟩
          case measure => simp [intOf]; omega
    · obtain rfl : j = n := by omega
      go_wp2
      go_ret
      exact ⟨rfl, q, rfl⟩
end Go.Proofs.YtlniakcoikhilaaDoor
