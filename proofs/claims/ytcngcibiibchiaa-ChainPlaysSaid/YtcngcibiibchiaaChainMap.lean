/- What again of layer 8 (chain) does with the map of the blocks that were met. -/
import Derived.Test.YtcngcibiibchiaaNamedMap
namespace Go.Proofs.Ytcngcibiibchiaa
open Go.RowKit Go.Maps
set_option linter.unusedVariables false

/-- again: whether a number was met; it is met then. -/
theorem code_again {w : World} {nb n : Nat} {D : DataW Unit} {J : List Int} (hown : w.ownsMap Try.prog 3 boolR nb n D) (hn : NIs D J) (hc : n ≤ 1000000) (i : Int) (hi : in64 i) :
    Calls Try.prog 30 #[.map (some nb), .int .i64 i] w fun e w' => e = .returned (.bool (J.contains i)) ∧ (∃ D', w'.ownsMap Try.prog 3 boolR nb (n + 1) D' ∧ NIs D' (J ++ [i])) ∧ w.grownBy w' (some nb) := by
  have hrun := named_at hown hn i hi 72 Try.underlying72
  have HN := hidb (hn.put (IsMap_any hown) hi)
  have HO := hidb hown
  have HI := hidb hi
  obtain ⟨b, hb⟩ : ∃ b, J.contains i = b := ⟨_, rfl⟩
  rw [hb] at hrun ⊢
  clear hown hn hb hi
  go_enter Try.func30, Try.ntmps30
  go_wp2_with (first
    | (at_mapUpdate; refine wpList_mapUpdate_own _ rfl _ _ _ 72 rfl 3 4 keyed Try.underlying72 boolR nb n D rfl HO.out (by unfold maxLen; omega) _ _ _ rfl rfl (key_of HI.out) _ [] (boolR_mk true) ?_; intro w3 hm3 hg3)
    | go_in)
  go_ret
  exact ⟨rfl, ⟨_, hm3, HN.out⟩, hg3⟩

end Go.Proofs.Ytcngcibiibchiaa
