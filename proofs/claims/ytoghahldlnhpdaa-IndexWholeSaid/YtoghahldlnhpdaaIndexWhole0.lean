/- What holds while the runs of all numbers are counted. -/
import Derived.Test.YtoghahldlnhpdaaIndexBack
import Derived.Test.YtoghahldlnhpdaaIndexPlain3
namespace Go.Proofs.Ytoghahldlnhpdaa
open Go.RowKit
set_option linter.unusedVariables false

/-- All numbers are from 0 to 9. -/
def Few (x : List Int) : Prop := ∀ q, 0 ≤ x.getD q 0 ∧ x.getD q 0 ≤ 9
theorem few_new (pages : Int) : Few (xNew pages) := fun q => by
  unfold xNew
  rw [List.getD_eq_getElem?_getD, List.getElem?_replicate]
  split <;> exact ⟨by decide, by decide⟩
theorem few_put {x : List Int} {k : Int} {rs : List (Int × Int)} {drop : Bool} (h : Few x) (hk : drop = true ∨ k ≤ 9) : Few (xPut x k rs drop).1 := by
  by_cases hid : drop = false → 1 ≤ k
  · cases ht : rs.all (xThere x.length) with
    | false => rw [xPut_gone x k rs drop hid ht]; exact h
    | true =>
      rw [xPut_there x k rs drop hid ht]
      split
      · intro q
        show 0 ≤ (writeAll _ _ _).getD q 0 ∧ (writeAll _ _ _).getD q 0 ≤ 9
        rw [writeAll_at x _ q _ (pgs_lt _ _ ht)]
        split
        · cases drop with
          | true => exact ⟨by simp, by simp⟩
          | false =>
            have := hid rfl
            rcases hk with hk | hk
            · cases hk
            · exact ⟨by simp only [Bool.false_eq_true, if_false]; omega, by simpa using hk⟩
        · exact h q
      · exact h
  · obtain ⟨rfl, h1⟩ : drop = false ∧ ¬ 1 ≤ k := by cases drop with
      | true => exact absurd (fun h => by cases h) hid
      | false => exact ⟨rfl, fun h => hid fun _ => h⟩
    rw [xPut_less x k rs (by omega)]; exact h

/-- The index, and the row in which pages are counted: those of D were met. -/
structure Wh (w W : World) (p g gs n : Nat) (x : List Int) (D : List Nat) : Prop where
  a : At5 w W p g n x
  seen : W.ownsRow w.heap.size 3 1 (.slice (some ⟨gs, 0, none⟩) n n) n ((seenRow n D).map iv)
  ng : g ≠ gs
  np : p ≠ gs
section
variable {w W W' : World} {p g gs n : Nat} {x : List Int} {D : List Nat}
theorem Wh.below (h : Wh w W p g gs n x D) (hb : Below W.heap.size W W') : Wh w W' p g gs n x D :=
  ⟨h.a.below hb, h.seen.kept (below_to_grown hb none) (Classical.em _), h.ng, h.np⟩
theorem Wh.drewN (h : Wh w W p g gs n x D) (q : Nat) : Wh w (W.drewN q) p g gs n x D := h.below (belowN (Below.refl _ _) q)
theorem Wh.lt (h : Wh w W p g gs n x D) : w.heap.size ≤ gs ∧ gs < W.heap.size := h.seen.lt gs rfl
theorem Wh.cell (h : Wh w W p g gs n x D) {q : Nat} (hq : q < n) : W.cell? ⟨gs, q, none⟩ = some (.int .i64 (D.count q : Int)) := by
  rw [h.seen.cellAt q (by omega), List.getElem?_map, seenRow_at n D q hq]; rfl
theorem Wh.bump (h : Wh w W p g gs n x D) {q : Nat} (hq : q < n) : Wh w (W.setCell ⟨gs, q, none⟩ (.int .i64 ((D.count q : Int) + 1))) p g gs n x (D ++ [q]) ∧ W.grownBy (W.setCell ⟨gs, q, none⟩ (.int .i64 ((D.count q : Int) + 1))) (some gs) := by
  obtain ⟨h1, h2⟩ := h.seen.stored q (iv ((D.count q : Int) + 1))
  rw [← List.map_set, seenRow_set n D q hq] at h1
  exact ⟨⟨⟨h.a.ix.grown h2 h.np h.ng, h.a.bel.grown h2 h.a.bel.size (fun k hk => by cases hk; exact h.lt.1)⟩, h1, h.ng, h.np⟩, h2⟩
/-- Runs that a call made: in a block of its own. -/
def NewRuns (w : World) (rs : List (Int × Int)) (e : Ending) (w' : World) : Prop := ∃ A c, e = .returned (.slice A rs.length c) ∧ Rn w' w'.heap.size A rs.length rs ∧ (∀ b off, 0 < rs.length → A = some ⟨b, off, none⟩ → w.heap.size ≤ b) ∧ Below w.heap.size w w'
theorem w_runs (h : Wh w W p g gs n x D) (k : Int) (h0 : in64 k) :
    Calls Try.prog 18 #[.pointer (some ⟨p, 0, none⟩), .int .i64 k] W (NewRuns W (xRuns x k)) := by
  refine (code_xruns h.a.ix k h0).mono ?_
  rintro e w' ⟨A, c, rfl, h1, h2⟩
  refine ⟨A, c, rfl, Rn.of_own h1 rfl, fun b off hpos e => ?_, h2⟩
  obtain ⟨g', c', hv, k1, k2⟩ := last_form h1 hpos
  injection hv with hv
  rw [e] at hv
  injection hv with hv; injection hv with hv
  omega
theorem w_of (h : Wh w W p g gs n x D) (q : Nat) (hq : q < n) :
    Calls Try.prog 13 #[.pointer (some ⟨p, 0, none⟩), .int .i64 (q : Int)] W fun e w' => e = .returned (.int .i64 (x.getD q 0)) ∧ W = w' := by
  have hs := h.a.ix.small
  have := code_xof h.a.ix (q : Int) ⟨by omega, by omega⟩
  rw [show xOf x (q : Int) = x.getD q 0 by unfold xOf; rw [if_pos (by have := h.a.ix.hlen; omega), Int.toNat_natCast]] at this
  exact this
end

/-- The k-th run, and the one ahead of it. -/
theorem run_at {x : List Int} {id : Int} {k : Nat} {r : Int × Int} (h : (xRuns x id)[k]? = some r) : RunOk x id 0 r := runsAt_ok x id _ _ r (List.mem_of_getElem? h)
theorem run_next {x : List Int} {id : Int} {k : Nat} {r s : Int × Int} (h : (xRuns x id)[k]? = some r) (h2 : (xRuns x id)[k + 1]? = some s) : r.1 + r.2 < s.1 := by
  have hp := List.pairwise_iff_getElem.1 (runsAt_rise x id (x.length + 1) 0)
  obtain ⟨l1, e1⟩ := List.getElem?_eq_some_iff.1 h
  obtain ⟨l2, e2⟩ := List.getElem?_eq_some_iff.1 h2
  have := hp k (k + 1) l1 l2 (by omega)
  have f1 : (runsAt x id (x.length + 1) 0)[k] = r := e1
  have f2 : (runsAt x id (x.length + 1) 0)[k + 1] = s := e2
  rw [f1, f2] at this
  exact this
theorem take_run {x : List Int} {id : Int} {k S L : Nat} (h : (xRuns x id)[k]? = some ((S : Int), (L : Int))) : pgs ((xRuns x id).take (k + 1)) = pgs ((xRuns x id).take k) ++ (List.range L).map (S + ·) := by
  rw [List.take_add_one, h]
  show pgs ((xRuns x id).take k ++ [((S : Int), (L : Int))]) = _
  rw [pgs_snoc]; rfl
theorem count_small (n : Nat) (x : List Int) (hx : x.length ≤ n) (i k t S : Nat) (q : Nat) (hi : i ≤ 10) (ht : t ≤ n) (m : Int) : ((whole x i ++ pgs ((xRuns x m).take k) ++ (List.range t).map (S + ·)).count q : Int) ≤ 12 * n := by
  have h1 := List.count_le_length (a := q) (l := whole x i ++ pgs ((xRuns x m).take k) ++ (List.range t).map (S + ·))
  have h2 := whole_length x i
  have h3 : (pgs ((xRuns x m).take k)).length ≤ n := by
    have e : pgs (xRuns x m) = pgs ((xRuns x m).take k) ++ pgs ((xRuns x m).drop k) := by rw [← pgs_append, List.take_append_drop]
    have e2 := congrArg List.length e
    rw [xRuns_pages, List.length_append] at e2
    have := pagesAt_length x m 0 x.length
    omega
  have h4 : i * x.length ≤ 10 * n := Nat.mul_le_mul hi hx
  rw [List.length_append, List.length_append, List.length_map, List.length_range] at h1
  omega

end Go.Proofs.Ytoghahldlnhpdaa
