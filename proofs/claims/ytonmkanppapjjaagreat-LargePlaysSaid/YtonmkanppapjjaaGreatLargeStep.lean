/- What an act of layer 10's does to the keeper, and what holds behind it. No program is named here. -/
import Derived.Test.YtonmkanppapjjaaGreatLargeKp
import Derived.Test.YtonmkanppapjjaaGreatLargeActs
namespace Go.Proofs.YtonmkanppapjjaaGreat
set_option linter.unusedVariables false

/-- The keeper behind an act. -/
def kStep (v : LargeV) (a : Act10) : LargeV :=
  if a.kind = 0 then (lTake v a.n).1 else if a.kind = 1 then (lGive v a.ids).1 else if a.kind = 2 then lHold v a.on else if a.kind = 3 then lFlush v else { v with h := (hMake v.h a.n a.order).1 }

section
variable {v : LargeV}
theorem LOk.step (o : LOk v) (a : Act10) : LOk (kStep v a) := by
  unfold kStep
  repeat (first | (split; · first | exact o.take _ | exact (o.give _).1 | exact o.hold _ | exact o.flush))
  exact o.make _ _
theorem kStep_0 {a : Act10} (h : a.kind = 0) : kStep v a = (lTake v a.n).1 := by unfold kStep; rw [if_pos h]
theorem kStep_1 {a : Act10} (h : a.kind = 1) : kStep v a = (lGive v a.ids).1 := by unfold kStep; rw [if_neg (by omega), if_pos h]
theorem kStep_2 {a : Act10} (h : a.kind = 2) : kStep v a = lHold v a.on := by unfold kStep; rw [if_neg (by omega), if_neg (by omega), if_pos h]
theorem kStep_3 {a : Act10} (h : a.kind = 3) : kStep v a = lFlush v := by unfold kStep; rw [if_neg (by omega), if_neg (by omega), if_neg (by omega), if_pos h]
theorem kStep_4 {a : Act10} (h0 : a.kind ≠ 0) (h1 : a.kind ≠ 1) (h2 : a.kind ≠ 2) (h3 : a.kind ≠ 3) : kStep v a = { v with h := (hMake v.h a.n a.order).1 } := by unfold kStep; rw [if_neg h0, if_neg h1, if_neg h2, if_neg h3]
theorem lPut_held (h : v.held = true) (s : Spn) : (lPut v s).h = v.h ∧ (lPut v s).held = true := by
  unfold lPut
  rw [if_pos h]
  exact ⟨rfl, h⟩
theorem lPuts_held : ∀ (l : List Spn) {v : LargeV}, v.held = true → (l.foldl lPut v).h = v.h
  | [], _, _ => rfl
  | s :: l, v, h => (lPuts_held l (lPut_held h s).2).trans (lPut_held h s).1
theorem spans_more (o : LOk v) {v' : LargeV} (o' : LOk v') (hm : ∀ s ∈ v.h.l, s ∈ v'.h.l) : (hSpans v.h).length ≤ (hSpans v'.h).length :=
  sub_len ((hSpans_rises o.hok).imp fun {a b} h e => by rw [e] at h; omega) fun s hs => (hSpans_mem o'.hok s).2 (hm s ((hSpans_mem o.hok s).1 hs))
/-- While it is held no span goes, but by Flush. -/
theorem spans_held (o : LOk v) (a : Act10) (h : v.held = true) (h' : (kStep v a).held = true) (h3 : a.kind ≠ 3) : (hSpans v.h).length ≤ (hSpans (kStep v a).h).length := by
  refine spans_more o (o.step a) ?_
  by_cases k0 : a.kind = 0
  · rw [kStep_0 k0]
    unfold lTake
    split
    · exact fun s hs => hs
    · split
      · exact fun s hs => hs
      · exact hMake_more _ _
  by_cases k1 : a.kind = 1
  · rw [kStep_1 k1]
    rcases lGive_spec o a.ids with ⟨e, _⟩ | ⟨l, _, _, _, _, e⟩
    · rw [e]; exact fun s hs => hs
    · rw [e]
      show ∀ s ∈ v.h.l, s ∈ (l.foldl lPut v).h.l
      rw [lPuts_held l h]
      exact fun s hs => hs
  by_cases k2 : a.kind = 2
  · rw [kStep_2 k2] at h' ⊢
    unfold lHold at h' ⊢
    split
    · exact fun s hs => hs
    · rename_i c
      rw [if_neg c] at h'
      cases h'
  rw [kStep_4 k0 k1 k2 h3]
  exact hMake_more _ _
end

end Go.Proofs.YtonmkanppapjjaaGreat
