/- What Runs of layer 5 (index) answers. -/
import Derived.Test.YtoghahldlnhpdaaIndexCode
namespace Go.Proofs.Ytoghahldlnhpdaa
open Go.RowKit
set_option linter.unusedVariables false

theorem rcells_snoc (d : List (Int × Int)) (s l : Int) : rcells (d ++ [(s, l)]) = rcells d ++ [iv s, iv l] := by rw [rcells_append]; rfl
/-- The last run's length, changed in place. -/
theorem rcells_last (d : List (Int × Int)) (s l l' : Int) : (rcells (d ++ [(s, l)])).set (d.length * 2 + 1) (iv l') = rcells (d ++ [(s, l')]) := by
  rw [rcells_snoc, rcells_snoc, List.set_append_right _ _ (by rw [rcells_length]; omega), rcells_length]
  rw [show d.length * 2 + 1 - d.length * 2 = 1 by omega]; rfl

theorem ownRuns_cell {w : World} {base g n c : Nat} {e : TypeId} {xs : List Value} (h : w.ownsRow base e 2 (.slice (some ⟨g, 0, none⟩) n c) n xs) (j : Nat) (hj : j < n * 2) : w.cell? ⟨g, j, none⟩ = xs[j]? := by
  have := h.cellAt j hj
  exact this
theorem last_form {w : World} {base : Nat} {e : TypeId} {v : Value} {n : Nat} {xs : List Value} (h : w.ownsRow base e 2 v n xs) (hn : 0 < n) : ∃ g c, v = .slice (some ⟨g, 0, none⟩) n c ∧ base ≤ g ∧ g < w.heap.size := by
  obtain ⟨g, c, h1, h2, h3⟩ := h.form hn
  exact ⟨g, c, h1, h2, h3⟩

set_option maxHeartbeats 2000000 in
theorem code_xruns {w : World} {B p g n : Nat} {ids : List Int} (hx : Ix w B p g n ids) (id : Int) (h0 : in64 id) :
    Calls Try.prog 18 #[.pointer (some ⟨p, 0, none⟩), .int .i64 id] w (OwnRuns w (xRuns ids id)) := by
  obtain ⟨i0, hi, hz0, hz1, hz2⟩ := info_parts info_run
  have cp := fun W h => hx.pages W h
  have HX := hidb hx
  have HL := hidb hx.hlen
  have hn := hx.small
  have hlg := hx.lt
  have cp0 := cp w (Below.refl _ _)
  clear hx cp
  go_enter Try.func18, Try.ntmps18
  go_wp2_with (go_at_call 16; (with_reducible refine cp0.mono ?_); rintro e w' ⟨rfl, rfl⟩)
  go_loopw [5, 10] (fun v k wr => ∃ (q : Nat) (l : List (Int × Int)) (N : Nat), q ≤ n ∧ k = .int .i64 q ∧ Hid (RunsUp ids id l q) ∧ Hid (l.length = N) ∧ N ≤ q ∧ wr.ownsRow w.heap.size 44 2 v N (rcells l) ∧ Below w.heap.size w wr) (fun _ k _ => (n - intOf k).toNat)
  case atStart => exact ⟨0, [], 0, by omega, rfl, hidb (runsUp_zero _ _), hidb rfl, Nat.le_refl _, World.ownsRow_nil _ _ _ _, Below.refl _ _⟩
  case round =>
    obtain ⟨q, l, N, hq, rfl, HU, HN, hNq, hown, hbel⟩ := hrel
    by_cases hlt : q < n
    · have hix := HX.out.below hbel (Nat.le_refl _)
      have hcp := hix.cell
      have hcg := hix.int_ hlt
      obtain ⟨y, hy⟩ : ∃ y, ids.getD q 0 = y := ⟨_, rfl⟩
      rw [hy] at hcg
      have hyq : ids[q]? = some y := by
        rw [List.getD_eq_getElem?_getD, List.getElem?_eq_getElem (by rw [HL.out]; exact hlt)] at hy
        rw [List.getElem?_eq_getElem (by rw [HL.out]; exact hlt), ← hy]; rfl
      have hq0 : (0 : Int) ≤ (q : Int) := by omega
      have hq1 : (q : Int) < (n : Int) := by omega
      obtain ⟨A, c, rfl⟩ := own_form2 hown
      have HOWN := hidb hown
      have HB := hidb hbel
      have hbsz := hbel.size
      clear hix hy hown hbel
      by_cases hid : y = id
      · have hyi : (y != id) = false := by simpa using hid
        have HY := hidb hyq
        subst hid
        clear hyq
        rcases runsUp_same HU.out HY.out with ⟨d, s, m, rfl, hsm, hup⟩ | ⟨hlast, hup⟩
        · obtain ⟨k, rfl⟩ : ∃ k, N = k + 1 := ⟨d.length, by rw [← HN.out]; simp⟩
          obtain ⟨gr, c', hv, hgB, hglt⟩ := last_form HOWN.out (by omega)
          obtain rfl : A = some ⟨gr, 0, none⟩ := by injection hv
          have hk : d.length = k := by have := HN.out; simpa using this
          obtain ⟨r1, r2⟩ := rcells_at (d ++ [((s : Int), (m : Int))]) k ((s : Int), (m : Int)) (by rw [← hk]; simp)
          have hc1 : wr.cell? ⟨gr, k * 2, none⟩ = some (.int .i64 (s : Int)) := by rw [ownRuns_cell HOWN.out _ (by omega), r1]; rfl
          have hc2 : wr.cell? ⟨gr, k * 2 + 1, none⟩ = some (.int .i64 (m : Int)) := by rw [ownRuns_cell HOWN.out _ (by omega), r2]; rfl
          have hf := HOWN.out.frozenAt (k * 2 + 1)
          have hd1 : decide ((0 : Int) ≤ (k : Int)) = true := by simp
          have heq : ((s : Int) + (m : Int) == (q : Int)) = true := by simp; omega
          have hws : IntKind.i64.wrap ((s : Int) + (m : Int)) = (s : Int) + (m : Int) := IntWalk.i64_in _ (by omega)
          have HO2 : Hid (∀ Q, ((wr.drewN Q).setCell ⟨gr, k * 2 + 1, none⟩ (.int .i64 ((m : Int) + 1))).ownsRow w.heap.size 44 2 (.slice (some ⟨gr, 0, none⟩) (k + 1) c) (k + 1) (rcells (d ++ [((s : Int), ((m + 1 : Nat) : Int))]))) := hidb (fun Q => by
            have h := ((show (wr.drewN Q).ownsRow w.heap.size 44 2 (.slice (some ⟨gr, 0, none⟩) (k + 1) c) (k + 1) (rcells (d ++ [((s : Int), (m : Int))])) from HOWN.out).stored (k * 2 + 1) (iv ((m + 1 : Nat) : Int))).1
            rw [← hk, rcells_last] at h
            rw [← hk]
            exact h)
          have HB2 : Hid (∀ Q, Below w.heap.size w ((wr.drewN Q).setCell ⟨gr, k * 2 + 1, none⟩ (.int .i64 ((m : Int) + 1)))) := hidb (fun Q => (belowN HB.out Q).setCell hgB _)
          have HUP := hidb hup
          have HN2 : Hid ((d ++ [((s : Int), ((m + 1 : Nat) : Int))]).length = k + 1) := hidb (by rw [← hk]; simp)
          clear hv r1 r2 hk hup
          go_wp2
          go_quiet (fail)
          go_wp2
          go_roundw
          case rel => exact ⟨q + 1, _, k + 1, by omega, by go_num, HUP, HN2, by omega, HO2.out _, HB2.out _⟩
          case measure => simp [intOf]; omega
        · have HUP := hidb hup
          have HN2 : Hid ((l ++ [((q : Int), 1)]).length = N + 1) := hidb (by rw [List.length_append, HN.out]; rfl)
          have HOQ : Hid (∀ Q, (wr.drewN Q).ownsRow w.heap.size 44 2 (.slice A N c) N (rcells l)) := hidb (fun Q => HOWN.out)
          have HBQ : Hid (∀ Q w1, Below w.heap.size (wr.drewN Q) w1 → Below w.heap.size w w1) := hidb (fun Q w1 h => (belowN HB.out Q).trans h)
          clear hup
          rcases hlast with rfl | ⟨d, ⟨s, m⟩, rfl, h1, h2, h3⟩
          · obtain rfl : N = 0 := HN.out.symm
            go_wp2
            go_quiet (fail)
            go_wp2_with (at_builtin; refine wpList_append_two (wr.drewN _) rfl _ _ 28 rfl w.heap.size 44 i0 (.agg #[.int .i64 0, .int .i64 0]) 16 Try.underlying28 hi hz0 hz1 hz2 rfl _ _ _ rfl (by exact HOQ.out _) hbsz (.int .i64 (q : Int)) (.int .i64 1) rfl rfl _ rfl (by unfold maxLen; omega) (by omega) ?_; intro v1 w1 hown1 hb1)
            have HO1 := hidb hown1
            have HB1 := hidb (HBQ.out _ _ hb1)
            clear hown1 hb1
            go_roundw
            case rel => exact ⟨q + 1, _, 0 + 1, by omega, by go_num, HUP, HN2, by omega, (by rw [rcells_append]; exact HO1.out), HB1.out⟩
            case measure => simp [intOf]; omega
          · obtain ⟨k, rfl⟩ : ∃ k, N = k + 1 := ⟨d.length, by rw [← HN.out]; simp⟩
            obtain ⟨gr, c', hv, hgB, hglt⟩ := last_form HOWN.out (by omega)
            obtain rfl : A = some ⟨gr, 0, none⟩ := by injection hv
            have hk : d.length = k := by have := HN.out; simpa using this
            obtain ⟨r1, r2⟩ := rcells_at (d ++ [(s, m)]) k (s, m) (by rw [← hk]; simp)
            simp only at h1 h2 h3
            have hc1 : wr.cell? ⟨gr, k * 2, none⟩ = some (.int .i64 s) := by rw [ownRuns_cell HOWN.out _ (by omega), r1]; rfl
            have hc2 : wr.cell? ⟨gr, k * 2 + 1, none⟩ = some (.int .i64 m) := by rw [ownRuns_cell HOWN.out _ (by omega), r2]; rfl
            have hd1 : decide ((0 : Int) ≤ (k : Int)) = true := by simp
            have heq : (s + m == (q : Int)) = false := by simp; omega
            have hws : IntKind.i64.wrap (s + m) = s + m := IntWalk.i64_in _ (by omega)
            clear hv r1 r2 hk
            go_wp2
            go_quiet (fail)
            go_wp2_with (at_builtin; refine wpList_append_two (wr.drewN _) rfl _ _ 28 rfl w.heap.size 44 i0 (.agg #[.int .i64 0, .int .i64 0]) 16 Try.underlying28 hi hz0 hz1 hz2 rfl _ _ _ rfl (by exact HOQ.out _) hbsz (.int .i64 (q : Int)) (.int .i64 1) rfl rfl _ rfl (by unfold maxLen; omega) (by omega) ?_; intro v1 w1 hown1 hb1)
            have HO1 := hidb hown1
            have HB1 := hidb (HBQ.out _ _ hb1)
            clear hown1 hb1
            go_roundw
            case rel => exact ⟨q + 1, _, k + 1 + 1, by omega, by go_num, HUP, HN2, by omega, (by rw [rcells_append]; exact HO1.out), HB1.out⟩
            case measure => simp [intOf]; omega
      · have hyi : (y != id) = true := by simpa using hid
        have HU2 := hidb (runsUp_other HU.out hyq hid)
        clear hyq
        go_wp2
        go_roundw
        case rel => exact ⟨q + 1, l, N, by omega, by go_num, HU2, HN, by omega, HOWN.out, HB.out⟩
        case measure => simp [intOf]; omega
    · have P : Hid (OwnRuns w (xRuns ids id) (.returned u5) wr) := hidb (by
        have e := runsUp_end HU.out (by have := HL.out; omega)
        rw [← e]
        have hN := HN.out
        subst hN
        obtain ⟨A', c', rfl⟩ := own_form2 hown
        exact ⟨A', c', rfl, hown, hbel⟩)
      clear hown hbel
      go_wp2
      go_ret
      exact P.out

end Go.Proofs.Ytoghahldlnhpdaa
