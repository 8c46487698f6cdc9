/- What Pages and Has of the document's own answers to layer 6 (runs) return. -/
import Derived.Test.YtbihliaeidpfaaaRunsRef
namespace Go.Proofs.Ytbihliaeidpfaaa
open Go.RowKit
set_option linter.unusedVariables false

theorem ref_fpages (A : Option Addr) (n c : Nat) (f : List Bool) (w : World) (B : Nat) (hs : Sl w B A n (f.map bv)) (hn : n ≤ 65536) :
    Calls Try.prog 23 #[.slice A n c] w fun e w' => e = .returned (.int .i64 (fPages f : Nat)) ∧ w = w' := by
  have l1 : f.length = n := by have := hs.1; simpa using this
  have L1 := hidb l1
  have HS := hidb hs
  clear hs l1
  go_enter Try.func23, Try.ntmps23
  go_wp2
  go_loop [3, 7] (fun v k => ∃ j p : Nat, j ≤ n ∧ p ≤ j ∧ Hid (fPages (f.take j) = p) ∧ v = .int .i64 (p : Int) ∧ k = .int .i64 j) (fun _ k => (n - intOf k).toNat)
  case atStart => exact ⟨0, 0, by omega, by omega, hidb rfl, rfl, rfl⟩
  case round =>
    obtain ⟨j, p, hj, hp, HP, rfl, rfl⟩ := hrel
    by_cases hlt : j < n
    · obtain ⟨b, off, y, rfl, hy, hc⟩ := HS.out.bool_ hlt
      have hi0 : (0 : Int) ≤ (j : Int) := by omega
      have hi1 : (j : Int) < (n : Int) := by omega
      cases y with
      | true =>
        have H2 : Hid (fPages (f.take (j + 1)) = p + 1) := hidb (by
          rw [List.take_add_one, hy]
          show fPages (f.take j ++ [true]) = _
          rw [fPages_snoc, HP.out]; rfl)
        clear hy
        go_wp2
        go_round
        case rel => exact ⟨j + 1, p + 1, by omega, by omega, H2, by go_num, by go_num⟩
        case measure => simp [intOf]; omega
      | false =>
        have H2 : Hid (fPages (f.take (j + 1)) = p) := hidb (by
          rw [List.take_add_one, hy]
          show fPages (f.take j ++ [false]) = _
          rw [fPages_snoc, HP.out]; rfl)
        clear hy
        go_wp2
        go_round
        case rel => exact ⟨j + 1, p, by omega, by omega, H2, rfl, by go_num⟩
        case measure => simp [intOf]; omega
    · have hpp : Hid (p = fPages f) := hidb (by
        rw [← HP.out, List.take_of_length_le (by rw [L1.out]; omega)])
      go_wp2
      go_ret
      exact ⟨by rw [← hpp.out]; rfl, rfl⟩

theorem ref_fhas (A : Option Addr) (n c : Nat) (f : List Bool) (r : Int × Int) (w : World) (hs : Sl w w.heap.size A n (f.map bv)) (hn : n = 1024) (hr : in64 r.1 ∧ in64 r.2) :
    Calls Try.prog 21 #[.slice A n c, .agg #[.int .i64 r.1, .int .i64 r.2]] w fun e w' => e = .returned (.bool (fHas f r)) ∧ Below w.heap.size w w' := by
  obtain ⟨s, l⟩ := r
  have cm := ref_fmay (s, l) (w.alloc (.cells #[.int .i64 s, .int .i64 l] 34)) hr
  have HS := hidb (hs.alloc (Nat.le_refl _) (.cells #[.int .i64 s, .int .i64 l] 34))
  have l1 : f.length = n := by have := hs.1; simpa using this
  clear hs
  cases hM : fMay (s, l) with
  | false =>
    have E : Hid (fHas f (s, l) = false) := hidb (by unfold fHas; rw [hM]; rfl)
    rw [E.out]
    rw [hM] at cm
    clear hM
    go_enter Try.func21, Try.ntmps21
    go_wp2_with (go_at_call 24; refine cm.mono ?_; rintro e w' ⟨rfl, rfl⟩)
    go_ret
    exact ⟨rfl, ((Below.refl _ _).alloc (Nat.le_refl _) _).alloc (by simp) _⟩
  | true =>
    rw [hM] at cm
    have HM := hidb hM
    obtain ⟨m1, m2, m3, m4, m5⟩ := of_decide_eq_true hM
    simp only at m1 m2 m3 m4 m5
    obtain ⟨S, rfl⟩ : ∃ S : Nat, s = S := ⟨s.toNat, by omega⟩
    obtain ⟨L, rfl⟩ : ∃ L : Nat, l = L := ⟨l.toNat, by omega⟩
    obtain ⟨W, hW⟩ : ∃ W, W = (w.alloc (.cells #[.int .i64 (S : Int), .int .i64 (L : Int)] 34)).alloc (.cells #[.int .i64 (S : Int), .int .i64 (L : Int)] 34) := ⟨_, rfl⟩
    have h2 : W.cell? ⟨w.heap.size, 0, none⟩ = some (.int .i64 (S : Int)) := by rw [hW, World.cell?_alloc_lt _ _ _ (by simp)]; simp
    have h3 : W.cell? ⟨w.heap.size, 1, none⟩ = some (.int .i64 (L : Int)) := by rw [hW, World.cell?_alloc_lt _ _ _ (by simp)]; simp
    have HSW : Hid (Sl W w.heap.size A n (f.map bv)) := hidb (by rw [hW]; exact HS.out.alloc (by simp) _)
    have HBW : Hid (Below w.heap.size w W) := hidb (by rw [hW]; exact ((Below.refl _ _).alloc (Nat.le_refl _) _).alloc (by simp) _)
    have HW := hidb hW
    clear hW hM
    go_enter Try.func21, Try.ntmps21
    go_wp2_with (go_at_call 24; refine cm.mono ?_; rintro e w' ⟨rfl, rfl⟩; rw [← HW.out])
    go_loop [5] (fun k => ∃ i : Nat, i ≤ L ∧ Hid (∀ j, j < i → f.getD (S + j) false = true) ∧ k = .int .i64 ((S : Int) + (i : Int))) (fun k => (S + L - intOf k).toNat)
    case atStart => exact ⟨0, by omega, hidb (fun j h => absurd h (Nat.not_lt_zero _)), by simp⟩
    case round =>
      obtain ⟨i, hi, HA, rfl⟩ := hrel
      by_cases hlt : i < L
      · obtain ⟨b, off, y, rfl, hy, hc⟩ := HSW.out.bool_ (j := S + i) (by omega)
        have hi0 : (0 : Int) ≤ (S : Int) + (i : Int) := by omega
        have hi1 : (S : Int) + (i : Int) < (n : Int) := by omega
        have hbn : ((S : Int) + (i : Int)).toNat = S + i := by omega
        have hgd : f.getD (S + i) false = y := by rw [List.getD_eq_getElem?_getD, hy]; rfl
        have hlt2 : (S : Int) + (i : Int) < (S : Int) + (L : Int) := by omega
        have HGD := hidb hgd
        clear hy hgd
        cases y with
        | true =>
          go_wp2
          go_round
          case rel =>
            refine ⟨i + 1, by omega, hidb (fun j hj => ?_), by go_num⟩
            by_cases h : j = i
            · subst h; exact HGD.out
            · exact HA.out j (by omega)
          case measure => simp [intOf]; omega
        | false =>
          have E : Hid (fHas f ((S : Int), (L : Int)) = false) := hidb (fHas_some f S L i hlt HGD.out)
          go_wp2
          go_ret
          exact ⟨by rw [E.out]; rfl, HBW.out⟩
      · have E : Hid (fHas f ((S : Int), (L : Int)) = true) := hidb (fHas_all f S L HM.out (fun j hj => HA.out j (by omega)))
        have hnl : ¬ (S : Int) + (i : Int) < (S : Int) + (L : Int) := by omega
        go_wp2
        go_ret
        exact ⟨by rw [E.out]; rfl, HBW.out⟩

end Go.Proofs.Ytbihliaeidpfaaa
