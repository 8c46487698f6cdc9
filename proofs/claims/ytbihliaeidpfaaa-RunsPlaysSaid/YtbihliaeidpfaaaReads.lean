/- Reading arguments with depth: numbers, texts, rows of numbers, rows of what has a reader, structs of one-cell fields. No program is named here. -/
import Derived.Test.YtbihliaeidpfaaaWords
import Derived.ChangeArms
import Derived.ChangeSlices
import Derived.WideShapes
import Derived.Deep.Slices
namespace Go.Proofs.Ytbihliaeidpfaaa
open Go.RowKit Go.ChangeShapes Go.WideShapes

/-- The slice value '.slice A n c' has the elements l, of s cells each; R reads an element's cells. -/
def RowOf {E : Type} (R : List Value → E → Prop) (s : Nat) (w : World) (B : Nat) (A : Option Addr) (n : Nat) (l : List E) : Prop :=
  l.length = n ∧ (0 < n → ∃ b off, A = some ⟨b, off, none⟩ ∧ b < B ∧ ∀ j y, l[j]? = some y → ∃ cs, cs.length = s ∧ (∀ k, k < s → w.cell? ⟨b, off + j * s + k, none⟩ = cs[k]?) ∧ R cs y)

theorem RowOf.at_ {E : Type} {R : List Value → E → Prop} {s : Nat} {w : World} {B : Nat} {A : Option Addr} {n : Nat} {l : List E} (h : RowOf R s w B A n l) {j : Nat} (hj : j < n) :
    ∃ b off y cs, A = some ⟨b, off, none⟩ ∧ b < B ∧ l[j]? = some y ∧ cs.length = s ∧ (∀ k, k < s → w.cell? ⟨b, off + j * s + k, none⟩ = cs[k]?) ∧ R cs y := by
  obtain ⟨b, off, e, hb, hc⟩ := h.2 (by omega)
  have hl : j < l.length := by have := h.1; omega
  obtain ⟨cs, h1, h2, h3⟩ := hc j l[j] (List.getElem?_eq_getElem hl)
  exact ⟨b, off, l[j], cs, e, hb, List.getElem?_eq_getElem hl, h1, h2, h3⟩

theorem rows_of {E : Type} {C : Nat → E → Prop} : ∀ n, (∀ i, i < n → ∃ y, C i y) → ∃ l : List E, l.length = n ∧ ∀ i y, l[i]? = some y → C i y
  | 0, _ => ⟨[], rfl, fun i y h => by simp at h⟩
  | n + 1, each => by
    obtain ⟨l, h1, h2⟩ := rows_of n (fun i hi => each i (by omega))
    obtain ⟨y, h3⟩ := each n (by omega)
    refine ⟨l ++ [y], by simp [h1], fun i z hz => ?_⟩
    by_cases hi : i < n
    · rw [List.getElem?_append_left (by omega)] at hz; exact h2 i z hz
    · have hin : i = n := by
        have := (List.getElem?_eq_some_iff.1 hz).1
        simp at this; omega
      subst hin
      rw [List.getElem?_append_right (by omega)] at hz
      simp [h1] at hz
      subst hz
      exact h3

section
variable {H : Type} {enc : TypeId × Value → H} {P : Program} {W : World} {sp : Nat → Bool} {hd : Bool}

theorem read_ints {t e : TypeId} {k : IntKind} {fuel : Nat} {cs : List Value} {x : DataW H × List MemPlace} (ht : P.underlying t = some (.slice e)) (he : P.underlying e = some (.int k)) (hc : P.cellsOf e = 1)
    (h : DataW.trod enc P W 0 sp hd fuel t cs = some x) :
    ∃ (A : Option Addr) (len cap : Nat) (zs : List Int), cs = [.slice A len cap] ∧ len ≤ maxLen ∧ Sl W W.heap.size A len (zs.map (Value.int k)) ∧ ∀ z ∈ zs, (Lit.int k z).wf = true := by
  rcases open_ints ht he hc h with ⟨rfl, _⟩ | ⟨a, len, cap, zs, rfl, _, hl, hm, hz, _, hcell, hwf⟩
  · exact ⟨none, 0, 0, [], rfl, Nat.zero_le _, Sl.nil_, fun z hz => by cases hz⟩
  · have hln : len ≤ zs.length := by rw [hz]; split <;> omega
    refine ⟨some a, len, cap, zs.take len, rfl, by omega, ?_, fun z hz' => hwf z (List.mem_of_mem_take hz')⟩
    refine ⟨by rw [List.length_map, List.length_take]; omega, fun hn => ?_⟩
    obtain ⟨b, off, spot⟩ := a
    have h0 := hcell 0 (by omega)
    have hspot : spot = none := by simpa [Addr.add] using World.cell?_spot h0
    subst hspot
    refine ⟨b, off, rfl, World.block_lt_of_cell? _ _ h0, fun j hj => ?_⟩
    rw [← Go.WideShapes.add_plain, hcell j (by omega)]
    rw [List.getElem?_map, List.getElem?_take_of_lt hj, List.getElem?_eq_getElem (by omega), List.getD_eq_getElem?_getD, List.getElem?_eq_getElem (by omega)]
    rfl

theorem read_row {E : Type} (R : List Value → E → Prop) (s : Nat) {t e : TypeId} {fuel : Nat} {cs : List Value} {x : DataW H × List MemPlace} (ht : P.underlying t = some (.slice e)) (hs : P.cellsOf e = s) (h0 : 0 < s)
    (hr : ∀ fuel cs x, DataW.trod enc P W 0 sp hd fuel e cs = some x → ∃ y, R cs y)
    (h : DataW.trod enc P W 0 sp hd fuel t cs = some x) :
    ∃ (A : Option Addr) (len cap : Nat) (l : List E), cs = [.slice A len cap] ∧ len ≤ maxLen ∧ RowOf R s W W.heap.size A len l := by
  subst hs
  rcases Go.Deep.open_slice ht h with ⟨rfl, _⟩ | ⟨a, len, cap, m, n, D, Pl, rfl, _, hl, hm, hmm, _, hel⟩
  · exact ⟨none, 0, 0, [], rfl, Nat.zero_le _, rfl, fun h => absurd h (by omega)⟩
  · have hlm : len ≤ m := by rw [hmm]; split <;> omega
    have each : ∀ i, i < len → ∃ cs' y, W.cells? 0 (a.add (i * P.cellsOf e)) (P.cellsOf e) = some cs' ∧ R cs' y := by
      intro i hi
      obtain ⟨cs', h1, h2⟩ := hel i (by omega)
      obtain ⟨y, hy⟩ := hr _ _ _ h2
      exact ⟨cs', y, h1, hy⟩
    obtain ⟨l, hll, hlr⟩ := rows_of (C := fun i y => ∃ cs', W.cells? 0 (a.add (i * P.cellsOf e)) (P.cellsOf e) = some cs' ∧ R cs' y) len (fun i hi => by
      obtain ⟨cs', y, h1, h2⟩ := each i hi
      exact ⟨y, cs', h1, h2⟩)
    refine ⟨some a, len, cap, l, rfl, by omega, hll, fun hn => ?_⟩
    obtain ⟨cs0, y0, h3, _⟩ := each 0 hn
    obtain ⟨_, g2, g3⟩ := World.cells?_some h3
    obtain ⟨c0, hc0⟩ : ∃ c0, cs0[0]? = some c0 := ⟨_, List.getElem?_eq_getElem (by omega)⟩
    have g4 : W.cell? a = some c0 := by
      have := g3 0 h0
      rw [Nat.zero_mul] at this
      have e1 : (a.add 0).add 0 = a := by simp [Addr.add]
      rw [e1] at this
      rw [this]; exact hc0
    obtain ⟨b, off, spot⟩ := a
    have hspot : spot = none := by simpa using World.cell?_spot g4
    subst hspot
    refine ⟨b, off, rfl, World.block_lt_of_cell? _ _ g4, fun j y hy => ?_⟩
    obtain ⟨cs', h5, h6⟩ := hlr j y hy
    obtain ⟨_, h7, h8⟩ := World.cells?_some h5
    refine ⟨cs', h7, fun k hk => ?_, h6⟩
    have := h8 k hk
    rwa [Go.WideShapes.add_plain, Go.WideShapes.add_plain] at this

/-- A struct's field that is one cell. -/
theorem read_field {fs : Array Field} {t : TypeId} {fuel : Nat} {cs : List Value} {x : DataW H × List MemPlace} (ht : P.underlying t = some (.struct fs)) (h : DataW.trod enc P W 0 sp hd fuel t cs = some x) :
    cs.length = P.cellsOf t ∧ ∀ (i : Nat) (f : Field), fs[i]? = some f → P.cellsOf f.type = 1 → f.offset < cs.length → ∃ c n y, cs[f.offset]? = some c ∧ DataW.trod enc P W 0 sp hd n f.type [c] = some y := by
  obtain ⟨xs, n, _, _, hl, hxl, hf⟩ := DataW.trod_struct ht h
  refine ⟨hl, fun i f hi hc ho => ?_⟩
  have h1 := hf i f hi
  have hil : i < xs.length := by
    rw [hxl]
    exact (Array.getElem?_eq_some_iff.1 hi).1
  rw [hc, List.getElem?_eq_getElem hil] at h1
  have e : (cs.drop f.offset).take 1 = [cs[f.offset]] := by
    rw [List.drop_eq_getElem_cons ho]; rfl
  rw [e] at h1
  exact ⟨_, n, _, List.getElem?_eq_getElem ho, h1⟩
end

end Go.Proofs.Ytbihliaeidpfaaa
