/- What Remove of the document's own answers to layer 8 (chain) returns. -/
import Derived.Test.YtcngcibiibchiaaChainPush2
namespace Go.Proofs.Ytcngcibiibchiaa
open Go.RowKit
set_option linter.unusedVariables false

theorem PushAt.rest {w wr : World} {p r n : Nat} {A A' : Option Addr} {ws : List Nat} {h l : Int} (k : PushAt w wr p r n A A' ws h l) (t : TypeId) : PushAt w (wr.alloc (.cells #[.int .i64 0, .int .i64 0] t)) wr.heap.size r n A A' ws 0 0 := by
  have hb : Below wr.heap.size wr (wr.alloc (.cells #[.int .i64 0, .int .i64 0] t)) := (Below.refl _ _).alloc (Nat.le_refl _) _
  have k2 := k.below hb
  have hr := k.ltr
  refine ⟨k.bel.size, k.lr, by omega, ?_, ?_, fun j => World.frozen?_alloc_at _ _ _ _ rfl, k2.r0, k2.r1, k2.rf, k2.sl, fun a e hn => ?_, k.new, k2.bel⟩
  · rw [World.cell?_alloc_at _ _ _ _ rfl]; rfl
  · rw [World.cell?_alloc_at _ _ _ _ rfl]; rfl
  · obtain ⟨b, off, e2, hb2, _⟩ := k.sl.2 hn
    rw [e] at e2
    obtain rfl := Option.some.inj e2
    exact ⟨by simp only; omega, (k.ap _ e hn).2⟩
/-- The words and the chain behind the first blocks from behind. -/
def cRest (ws : List Nat) (l : List Int) (a : Int) (t : Nat) : List Nat × (Int × Int) := cAll (ws.set a.toNat 0, (0, 0)) ((l.drop t).reverse.filter (fun x => x != a))
theorem cRest_zero (ws : List Nat) (l : List Int) (a : Int) : cRest ws l a 0 = cWithout ws l a := rfl
theorem cRest_end (ws : List Nat) (l : List Int) (a : Int) : cRest ws l a l.length = (ws.set a.toNat 0, (0, 0)) := by unfold cRest; rw [List.drop_length]; rfl
theorem drop_rev {l : List Int} {t : Nat} {x : Int} (hx : l[t]? = some x) : (l.drop t).reverse = (l.drop (t + 1)).reverse ++ [x] := by
  obtain ⟨h, e⟩ := List.getElem?_eq_some_iff.1 hx
  rw [List.drop_eq_getElem_cons h, List.reverse_cons, e]
theorem cRest_same {ws : List Nat} {l : List Int} {a x : Int} {t : Nat} (hx : l[t]? = some x) (e : x = a) : cRest ws l a t = cRest ws l a (t + 1) := by
  unfold cRest
  rw [drop_rev hx, List.filter_append]
  subst e
  simp
theorem cRest_step {ws : List Nat} {l : List Int} {a x : Int} {t : Nat} (hx : l[t]? = some x) (e : x ≠ a) : cRest ws l a t = cStep (cRest ws l a (t + 1)) x := by
  unfold cRest
  rw [drop_rev hx, List.filter_append, show [x].filter (fun x => x != a) = [x] by simp [e], cAll_snoc]
theorem cRest_facts {ws : List Nat} {l : List Int} {a : Int} {t : Nat} (h : ∀ x ∈ l, 0 ≤ x ∧ x < (ws.length : Int)) : (cRest ws l a t).1.length = ws.length ∧ (0 ≤ (cRest ws l a t).2.1 ∧ (cRest ws l a t).2.1 ≤ (ws.length : Int)) ∧ 0 ≤ (cRest ws l a t).2.2 ∧ (cRest ws l a t).2.2 ≤ (l.length : Int) := by
  unfold cRest
  refine ⟨by rw [cAll_length, List.length_set], cAll_head _ _ _ ⟨by simp, by simp⟩ (fun x hx => h x (List.mem_of_mem_drop (List.mem_reverse.1 (List.mem_filter.1 hx).1))), ?_, ?_⟩
  · rw [cAll_count]; simp only; omega
  · rw [cAll_count]
    have h1 := List.length_filter_le (fun x => x != a) (l.drop t).reverse
    rw [List.length_reverse, List.length_drop] at h1
    simp only
    omega

end Go.Proofs.Ytcngcibiibchiaa
