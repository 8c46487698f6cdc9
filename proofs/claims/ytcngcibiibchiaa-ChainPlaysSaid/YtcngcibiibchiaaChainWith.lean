/- What 'with' of the document's own answers to layer 8 (chain) returns: words with another one. -/
import Derived.Test.YtcngcibiibchiaaChainRef
namespace Go.Proofs.Ytcngcibiibchiaa
open Go.RowKit
set_option linter.unusedVariables false

set_option maxRecDepth 100000 in
theorem ref_cwith (A : Option Addr) (n c : Nat) (ws : List Nat) (a x : Nat) (w : World) (hs : Sl w w.heap.size A n (ws.map wv)) (hn : n ≤ 65536) (ha : a < n) :
    Calls Try.prog 25 #[.slice A n c, .int .i64 (a : Int), .int .u64 (x : Int)] w (OwnWords w (ws.set a x)) := by
  obtain ⟨i0, hi, hz0, hz1, hz2⟩ := info_parts info_u64
  have l1 : ws.length = n := by have := hs.1; simpa using this
  have hA : A = none → c = 0 := fun e => by
    obtain ⟨b, off, e2, _⟩ := hs.2 (by omega)
    rw [e] at e2; cases e2
  have h1 : ∀ u ∈ ws.map wv, u.oneCell' = true := fun u hu => by
    obtain ⟨x, _, rfl⟩ := List.mem_map.1 hu; rfl
  have fin : ∀ (w1 : World) (A' : Option Addr) (c' : Nat), w1.ownsRow w.heap.size 31 1 (.slice A' n c') n (ws.map wv) → Below w.heap.size w w1 → ∃ g cap o, A' = some ⟨g, 0, none⟩ ∧ w1.cell? ⟨g, a, none⟩ = some o ∧ w1.frozen? ⟨g, a, none⟩ = false ∧ OwnWords w (ws.set a x) (.returned (.slice A' n c')) (w1.setCell ⟨g, a, none⟩ (.int .u64 (x : Int))) := fun w1 A' c' hown hb => by
    obtain ⟨g, cap, hv, hgb, hglt⟩ := hown.form (by omega)
    have hA' : A' = some ⟨g, 0, none⟩ := by injection hv
    subst hA'
    have hlen : (ws.map wv).length = n := by rw [List.length_map, l1]
    obtain ⟨o, ho⟩ : ∃ o, w1.cell? ⟨g, a, none⟩ = some o := by
      rw [hown.cellAt a (by omega), List.getElem?_eq_getElem (by omega)]; exact ⟨_, rfl⟩
    have hst := hown.stored a (wv x)
    have e : (ws.set a x).length = n := by rw [List.length_set, l1]
    refine ⟨g, cap, o, rfl, ho, hown.frozenAt a, some ⟨g, 0, none⟩, c', by rw [e], ?_, hb.setCell (p := ⟨g, a, none⟩) hgb _⟩
    rw [e, List.map_set]; exact hst.1
  have FIN := hidb fin
  have HS := hidb hs
  have C2 := hidb h1
  clear fin hs h1 l1
  go_enter Try.func25, Try.ntmps25
  go_wp2_with (first
    | (at_builtin; refine wpList_copy w rfl _ _ 30 rfl 31 i0 (.int .u64 0) 8 Try.underlying30 hi hz0 hz1 hz2 rfl A n c (ws.map wv) rfl rfl HS.out hA C2.out (by unfold maxLen; omega) (by omega) ?_; intro A' c' w1 hown1 hb1; obtain ⟨g, cap, o, rfl, hc1, hf1, hfin⟩ := FIN.out w1 A' c' hown1 hb1; have HF := hidb hfin; clear hown1 hb1 hfin))
  go_ret
  exact HF.out

end Go.Proofs.Ytcngcibiibchiaa
