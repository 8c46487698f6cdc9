/- Layer 18's statement PolicyLimits. -/
import Derived.Test.YtbglldgpijglpaaPlyLaws
namespace Go.Proofs.Ytbglldgpijglpaa
open Go.RowKit
set_option linter.unusedVariables false

theorem read_ints18 {H : Type} {enc : TypeId × Value → H} {W : World} {sp : Nat → Bool} {hd : Bool} {v : Value} {d : DataW H} {ps : List MemPlace} (h : DataW.Trod enc Try.prog W 0 sp hd 36 v d ps) :
    ∃ (A : Option Addr) (len cap : Nat) (l : List Int), v.cells.toList = [.slice A len cap] ∧ len ≤ maxLen ∧ Sl W W.heap.size A len (l.map iv) ∧ ∀ i ∈ l, in64 i := by
  obtain ⟨fuel, hf⟩ := h
  obtain ⟨A, len, cap, zs, e1, hlen, hsl, hwf⟩ := read_ints Try.underlying36 Try.underlying3 (by kernel_rfl) hf
  exact ⟨A, len, cap, zs, e1, hlen, hsl, fun x hx => wf_in64 (hwf x hx)⟩

set_option maxHeartbeats 2000000 in
theorem policyLimits_any (A : Option Addr) (n c : Nat) (zs : List Int) (w : World) (hs : Sl w w.heap.size A n (zs.map iv)) (hx : ∀ x ∈ zs, in64 x) (hn : n ≤ maxLen) :
    Calls Try.prog 6 #[.slice A n c] w fun e w' => e = .returned (.bool true) ∧ Below w.heap.size w w' := by
  unfold maxLen at hn
  have ca := awake18
  by_cases hbig : 20 < n
  · have hb : (20 : Int) < (n : Int) := by omega
    clear hs hx hbig
    --@1
    go_enter Try.func6, Try.ntmps6
    go_wp2_with (first | (go_at_call 13; (with_reducible refine (ca _).mono ?_); rintro e w5 ⟨rfl, hb5⟩))
    go_ret
    exact ⟨rfl, hb5⟩
  · have hb : ¬ ((20 : Int) < (n : Int)) := by omega
    have CL : Hid (∀ W, Below w.heap.size w W → Calls Try.prog 10 #[.slice A n c] W fun e w' => e = .returned (.bool (!badLims zs n)) ∧ Below W.heap.size W w') := hidb (fun W hb => code_limit A n c zs W ((hs.below hb).more hb.size) hx (by omega) (badLims zs n) rfl)
    have HS := hidb hs
    have HX := hidb hx
    clear hs hx hbig
    --@2
    go_enter Try.func6, Try.ntmps6
    go_wp2
    go_loopw [3, 4] (fun v i wr => ∃ (j : Nat) (b : Bool), j ≤ n ∧ v = .bool b ∧ i = .int .i64 j ∧ Hid (badLims zs j = !b) ∧ Hid (Below w.heap.size w wr)) (fun _ i _ => (n - intOf i).toNat)
    case atStart => exact ⟨0, true, by omega, rfl, rfl, hidb rfl, hidb (Below.refl _ _)⟩
    case round =>
      obtain ⟨j, b, hj, rfl, rfl, HA, HB⟩ := hrel
      by_cases hlt : j < n
      · obtain ⟨bk, off, z, rfl, hx, hc⟩ := ((HS.out.below HB.out)).int_ hlt
        have hz : in64 z := HX.out z (List.mem_of_getElem? hx)
        obtain ⟨bz, hbz⟩ : ∃ bz, plLim z = bz := ⟨_, rfl⟩
        have cr := fun W => ref_pllim z W hz bz hbz
        have hj0 : (0 : Int) ≤ (j : Int) := by omega
        have hj1 : (j : Int) < (n : Int) := by omega
        have hstep : badLims zs (j + 1) = (badLims zs j || !bz) := by
          unfold badLims
          rw [List.range_succ, List.any_append, List.any_cons, List.any_nil, Bool.or_false, List.getD_eq_getElem?_getD, hx, Option.getD_some, hbz]
        cases b with
        | true =>
          have HN : Hid (badLims zs (j + 1) = !bz) := hidb (by rw [hstep, HA.out]; rfl)
          clear hstep hbz hx hz HA
          --@3
          go_wp2_with (first | (go_at_call 11; (with_reducible refine (cr _).mono ?_); rintro e w4 ⟨rfl, rfl⟩))
          go_roundw
          case rel => exact ⟨j + 1, bz, by omega, by simp, by go_num, HN, HB⟩
          case measure => simp [intOf]; omega
        | false =>
          have HN : Hid (badLims zs (j + 1) = !false) := hidb (by rw [hstep, HA.out]; rfl)
          clear hstep hbz hx hz HA cr
          --@4
          go_wp2
          go_roundw
          case rel => exact ⟨j + 1, false, by omega, by simp, by go_num, HN, HB⟩
          case measure => simp [intOf]; omega
      · obtain rfl : j = n := by omega
        have cl := CL.out wr HB.out
        rw [HA.out, Bool.not_not] at cl
        --@5
        go_wp2_with (first | (go_at_call 10; (with_reducible refine cl.mono ?_); rintro e w4 ⟨rfl, hb4⟩) | (go_at_call 13; (with_reducible refine (ca _).mono ?_); rintro e w5 ⟨rfl, hb5⟩))
        go_ret
        exact ⟨rfl, belF_tr (belF_tr HB.out hb4) hb5⟩
end Go.Proofs.Ytbglldgpijglpaa
