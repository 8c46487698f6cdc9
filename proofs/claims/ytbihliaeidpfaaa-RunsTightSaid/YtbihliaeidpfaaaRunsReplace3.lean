/- slices.Replace of one struct of a row of the call's own by none, one or two: all cases. -/
import Derived.Test.YtbihliaeidpfaaaRunsReplace2
import Derived.Test.YtbihliaeidpfaaaKept
namespace Go.Proofs.Ytbihliaeidpfaaa
open Go.RowKit
set_option linter.unusedVariables false

theorem code_replace (g i n c m d : Nat) (A2 : Option Addr) (xs vs : List Value) (w : World) (base base2 : Nat) (hown : w.ownsRow base 34 2 (.slice (some ⟨g, 0, none⟩) n c) n xs) (hi : i < n) (hn : n ≤ 65536) (hx1 : ∀ v ∈ xs, v.oneCell' = true) (hbase : base ≤ w.heap.size)
    (hv : w.ownsRow base2 34 2 (.slice A2 m d) m vs) (hm : m ≤ 2) (hone : ∀ u ∈ vs, u.oneCell' = true) (hne : ∀ b, (Value.slice A2 m d).ownBlock = some b → b ≠ g) :
    Calls Try.prog 33 #[.slice (some ⟨g, 0, none⟩) n c, .int .i64 (i : Int), .int .i64 ((i : Int) + 1), .slice A2 m d] w (Replaced w base g (n - 1 + m) (xs.take (i * 2) ++ vs ++ xs.drop ((i + 1) * 2))) := by
  have hvl : vs.length = m * 2 := hv.1
  have hxl : xs.length = n * 2 := hown.1
  have src : 0 < m → ∃ g2 L2, A2 = some ⟨g2, 0, none⟩ ∧ CellsAt w (some ⟨g2, 0, none⟩) vs ∧ Rw w g2 34 L2 ∧ L2.length ≠ 0 ∧ g ≠ g2 ∧ g2 < w.heap.size := fun h => by
    have hA : ∃ g2, A2 = some ⟨g2, 0, none⟩ := by
      rcases hv.2 with ⟨_, h0⟩ | ⟨g2, cap, cur, h1, _⟩
      · omega
      · injection h1 with e1; exact ⟨g2, e1⟩
    obtain ⟨g2, rfl⟩ := hA
    obtain ⟨L2, h1, _, h3, _, h5, h6⟩ := own_whole hv
    refine ⟨g2, L2, rfl, ?_, h1, by omega, fun e => hne g2 rfl e.symm, h1.lt⟩
    have := h1.cells 0 vs (fun j u hj => by
      rw [h6, List.getElem?_take] at hj
      split at hj
      · rw [Nat.zero_add]; exact hj
      · cases hj)
    exact this
  have SRC := hidb src
  clear src
  by_cases hl : i + 1 = n
  · subst hl
    have hd : xs.drop ((i + 1) * 2) = [] := List.drop_of_length_le (by omega)
    rw [hd, List.append_nil, show i + 1 - 1 + m = i + m by omega]
    by_cases hm0 : m = 0
    · subst hm0
      obtain rfl : vs = [] := List.eq_nil_of_length_eq_zero (by omega)
      rw [List.append_nil]
      exact code_rep_last0 g i c d A2 xs w base hown (by omega)
    · obtain ⟨g2, L2, rfl, h1, _⟩ := SRC.out (by omega)
      exact code_rep_last g i c m d _ xs vs w base hown (by omega) (by omega) hm hvl h1 hone
  · obtain ⟨j, rfl⟩ : ∃ j, n = i + 1 + j := ⟨n - i - 1, by omega⟩
    rw [show i + 1 + j - 1 + m = i + m + j by omega]
    have h012 : m = 0 ∨ m = 1 ∨ m = 2 := by omega
    rcases h012 with rfl | rfl | rfl
    · obtain rfl : vs = [] := List.eq_nil_of_length_eq_zero (by omega)
      exact code_rep_0 g i j c d A2 xs w base hown (by omega) hn hx1
    · obtain ⟨g2, L2, rfl, h1, h2, h3, h4, h5⟩ := SRC.out (by omega)
      exact code_rep_1 g i j c d g2 0 xs vs w base hown (by omega) hn hx1 (by omega) h1 hone
    · obtain ⟨g2, L2, rfl, h1, h2, h3, h4, h5⟩ := SRC.out (by omega)
      by_cases hr : i + 2 + j ≤ c
      · exact code_rep_2 g i j c d g2 0 xs vs L2 w base hown (by omega) hn hx1 (by omega) h1 hone h4 h2 h3 hr
      · exact code_rep_grow g i j c d g2 0 xs vs w base hown (by omega) hn hx1 hbase (by omega) h1 hone h5 (by omega)

end Go.Proofs.Ytbihliaeidpfaaa
