/- A map of numbers that were named, or met. -/
import Derived.Test.YtcgfmpegakpddaaGreatRows7
import Derived.Maps.OwnSet
import Derived.Maps.Ext
import Derived.WalkKit
import Derived.Laws.IdiomRangeMap
namespace Go.Proofs.YtcgfmpegakpddaaGreat
open Go.RowKit Go.Maps
set_option linter.unusedVariables false

/-- The key of a number. -/
theorem in64_wf {i : Int} (h : in64 i) : (Lit.int .i64 i).wf = true := by
  have h1 : IntKind.i64.min = -9223372036854775808 := rfl
  have h2 : IntKind.i64.max = 9223372036854775807 := rfl
  unfold in64 at h
  simp only [Lit.wf, Bool.and_eq_true, decide_eq_true_eq]
  omega
theorem key_of {i : Int} (h : in64 i) : keyOf Tryz.prog 3 (.int .i64 i) = some (.int .i64 i) := Maps.keyOf_int_mk Tryz.underlying3 (in64_wf h)
theorem keyed : Maps.Keyed Tryz.prog 3 := Maps.int_keyed Tryz.underlying3
theorem lit_ne {a b : Int} (h : a ≠ b) : (Lit.int .i64 a) ≠ .int .i64 b := fun e => h (by injection e)

open Classical in
/-- A map of numbers that were named. -/
noncomputable def boolR (v : Value) : Option (DataW Unit × List MemPlace) := if h : ∃ b, v = .bool b then some (.lit (.bool h.choose), []) else none
theorem boolR_mk (b : Bool) : boolR (.bool b) = some (.lit (.bool b), []) := by
  unfold boolR
  have h : ∃ c, Value.bool b = .bool c := ⟨b, rfl⟩
  rw [dif_pos h]
  have := h.choose_spec
  injection this with this
  rw [← this]
theorem boolR_inv {v : Value} {z : DataW Unit × List MemPlace} (h : boolR v = some z) : ∃ b, v = .bool b ∧ z = (.lit (.bool b), []) := by
  unfold boolR at h
  split at h
  · next hs => exact ⟨hs.choose, hs.choose_spec, by injection h with h; exact h.symm⟩
  · cases h
structure NIs (D : DataW Unit) (J : List Int) : Prop where
  at_ : ∀ id, D.atKey (.int .i64 id) (.lit (.bool false)) = .lit (.bool (J.contains id))
theorem nis_nil : NIs (.map []) [] := ⟨fun _ => rfl⟩
theorem NIs.put {D : DataW Unit} {J : List Int} (h : NIs D J) (hD : Maps.IsMap D) {i : Int} (hi : in64 i) : NIs (D.put (.int .i64 i) (.lit (.bool true))) (J ++ [i]) := by
  refine ⟨fun id => ?_⟩
  by_cases c : id = i
  · subst c
    rw [Maps.atKey_put_same hD (keyed.key (key_of hi))]
    simp
  · rw [Maps.atKey_put_other (lit_ne c), h.at_]
    congr 2
    simp [c]
theorem zero_bool (w : World) : (zeroValue 4).run Tryz.prog w = .ok (.bool false) w := by kernel_rfl
theorem IsMap_any {w : World} {P : Program} {t : TypeId} {R : Value → Option (DataW Unit × List MemPlace)} {mb m : Nat} {D : DataW Unit} (h : w.ownsMap P t R mb m D) : Maps.IsMap D := by
  obtain ⟨_, _, _, _, _, rfl⟩ := h
  exact ⟨_, rfl⟩
/-- Was a number named? -/
theorem named_at {w : World} {nb n : Nat} {D : DataW Unit} {J : List Int} (hown : w.ownsMap Tryz.prog 3 boolR nb n D) (hn : NIs D J) (i : Int) (hi : in64 i) (T : TypeId) (hT : Tryz.prog.underlying T = some (.map 3 4)) :
    (Instr.lookup T (.map (some nb)) (.int .i64 i) false).run Tryz.prog w = .ok (.bool (J.contains i)) w := by
  obtain ⟨v, ps, hrun, hv⟩ := hown.lookup keyed hT (zero_bool w) (boolR_mk false) (key_of hi)
  obtain ⟨b, rfl, e⟩ := boolR_inv hv
  have e1 := congrArg Prod.fst e
  simp only at e1
  rw [hn.at_] at e1
  simp only [DataW.lit.injEq, Lit.bool.injEq] at e1
  rw [hrun, e1]


section
variable {w w' W W' : World} {mb m : Nat} {D : DataW Unit}
theorem ownsMap_block {P : Program} {t : TypeId} {R : Value → Option (DataW Unit × List MemPlace)} (hm : w.ownsMap P t R mb m D) (hb : w'.heap[mb]? = w.heap[mb]?) : w'.ownsMap P t R mb m D := by
  obtain ⟨es, clock, hb0, F, hs, hD⟩ := hm
  exact ⟨es, clock, hb.trans hb0, F, hs, hD⟩
theorem own_past {base size n b : Nat} {e : TypeId} {v : Value} {xs : List Value} (hr : W.ownsRow base e size v n xs) (hb : b < base) (hg : W.grownBy W' (some b)) : W'.ownsRow base e size v n xs := by
  refine hr.kept hg ?_
  rcases hr.2 with ⟨rfl, _⟩ | ⟨g, cap, cur, rfl, hbg, _⟩
  · exact .inl rfl
  · exact .inr fun e => by
      have e2 : some g = some b := e
      injection e2 with e2
      omega
theorem own_below {base size n : Nat} {e : TypeId} {v : Value} {xs : List Value} (hr : W.ownsRow base e size v n xs) (hb : Below W.heap.size W W') : W'.ownsRow base e size v n xs := by
  refine own_kept (S := fun _ => False) hr (Kept.of_below hb _) (fun _ _ => id)
end
theorem alloc_old {w : World} {a : Addr} {v : Value} (o : Obj) (h : w.cell? a = some v) : (w.alloc o).cell? a = some v := (World.cell?_alloc_lt w o a (lt_of_cell h)).trans h

end Go.Proofs.YtcgfmpegakpddaaGreat
