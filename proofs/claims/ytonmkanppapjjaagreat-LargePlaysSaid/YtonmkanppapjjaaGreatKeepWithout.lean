/- What 'without' of the document's own keeper returns: a row of spans without one of them. -/
import Derived.Test.YtonmkanppapjjaaGreatKeepVal
namespace Go.Proofs.YtonmkanppapjjaaGreat
open Go.RowKit
set_option linter.unusedVariables false

/-- A row of spans that a call made, of this length. -/
def OwnSpansN (w : World) (n : Nat) (l : List Spn) (e : Ending) (w' : World) : Prop := ∃ A c, e = .returned (.slice A n c) ∧ w'.ownsRow w.heap.size 50 4 (.slice A n c) n (cellsAll scells l) ∧ Below w.heap.size w w'

set_option maxRecDepth 100000 in
set_option maxHeartbeats 4000000 in
theorem ref_lwithout (A : Option Addr) (n c : Nat) (l : List Spn) (k : Nat) (w : World) (hs : Sn w w.heap.size A n l) (hn : n ≤ 65536) (hk : k < n) (hnc : n ≤ c) (hc : c ≤ 9223372036854775807) :
    Calls Tryz.prog 136 #[.slice A n c, .int .i64 (k : Int)] w (OwnSpansN w (k + (n - (k + 1))) (l.eraseIdx k)) := by
  obtain ⟨j0, hji, hjz0, hjz1, hjz2⟩ := info_parts info_span
  have hl : l.length = n := hs.1
  obtain ⟨b, off, y1, y2, y3, y4, rfl, _, _⟩ := Sn.span hs hk
  have HCA : Hid (∀ W, Below w.heap.size w W → CellsAt W (some ⟨b, off, none⟩) (cellsAll scells (l.take k))) := hidb (fun W hb ad e q u hq => by
    refine Sn.cellsAt (RowOf.below hs hb) ad e q u ?_
    have : (cellsAll scells l) = cellsAll scells (l.take k) ++ cellsAll scells (l.drop k) := by rw [← cellsAll_append, List.take_append_drop]
    show (cellsAll scells l)[q]? = _
    rw [this, List.getElem?_append_left (List.getElem?_eq_some_iff.1 hq).1, hq])
  have HCB : Hid (∀ W, Below w.heap.size w W → CellsAt W (some ⟨b, off + (k + 1) * 4, none⟩) (cellsAll scells (l.drop (k + 1)))) := hidb (fun W hb ad e q u hq => by
    injection e with e
    subst e
    have h2 := Sn.cellsAt (RowOf.below hs hb) ⟨b, off, none⟩ rfl ((k + 1) * 4 + q) u (by
      have : (cellsAll scells l) = cellsAll scells (l.take (k + 1)) ++ cellsAll scells (l.drop (k + 1)) := by rw [← cellsAll_append, List.take_append_drop]
      show (cellsAll scells l)[_]? = _
      have hl : (cellsAll scells (l.take (k + 1))).length = (k + 1) * 4 := by rw [cellsAll_length scells_len, List.length_take]; congr 1; omega
      rw [this, List.getElem?_append_right (by omega), hl, show (k + 1) * 4 + q - (k + 1) * 4 = q by omega, hq])
    rw [Go.WideShapes.add_plain] at h2 ⊢
    rw [← h2]
    congr 2
    omega)
  have HL1 : Hid ((cellsAll scells (l.take k)).length = k * 4) := hidb (by rw [cellsAll_length scells_len, List.length_take]; congr 1; omega)
  have HL2' : Hid ((cellsAll scells (l.drop (k + 1))).length = (n - (k + 1)) * 4) := hidb (by rw [cellsAll_length scells_len, List.length_drop, hl])
  have HO1 : Hid (∀ u ∈ cellsAll scells (l.take k), u.oneCell' = true) := hidb scells_one
  have HO2 : Hid (∀ u ∈ cellsAll scells (l.drop (k + 1)), u.oneCell' = true) := hidb scells_one
  have HPE : Hid (∀ A' c' w6, Below w.heap.size w w6 → w6.ownsRow w.heap.size 50 4 (.slice A' (k + (n - (k + 1))) c') (k + (n - (k + 1))) (cellsAll scells (l.take k) ++ cellsAll scells (l.drop (k + 1))) →
      OwnSpansN w (k + (n - (k + 1))) (l.eraseIdx k) (.returned (.slice A' (k + (n - (k + 1))) c')) w6) := hidb (fun A' c' w6 hb ho => by
    rw [← cellsAll_append, ← List.eraseIdx_eq_take_drop_succ] at ho
    exact ⟨A', c', rfl, ho, hb⟩)
  clear hs hl
  have hw1 : IntKind.i64.wrap ((k : Int) + 1) = (k : Int) + 1 := IntWalk.i64_in _ (by omega)
  have hs1 : (k : Int) ≤ (c : Int) := by omega
  have hs2 : (k : Int) + 1 ≤ (n : Int) := by omega
  have hs3 : (n : Int) ≤ (c : Int) := by omega
  have hs4 : (0 : Int) ≤ (k : Int) + 1 := by omega
  have hs5 : ((k : Int) + 1).toNat = k + 1 := by omega
  have hki0 : (0 : Int) ≤ (k : Int) := by omega
  by_cases hkc : k + 1 < c
  · have hne : ¬ c = k + 1 := by omega
    go_enter Tryz.func136, Tryz.ntmps136
    go_wp2
    go_region_law
      (first
        | (refine step_append_row rfl (.tmp 5) (.tmp 8) 30 rfl w.heap.size 50 j0 (.agg #[.int .i64 0, .int .i64 0, .int .i64 0, .int .i64 0]) 4 32 Tryz.underlying30 hji hjz0 hjz1 hjz2 rfl (by decide) _ 0 [] rfl (own_empty' _ _ _ _ _ (by first | rfl | simp) (by first | exact Nat.le_refl _ | simp)).drew (by first | omega | (simp; done) | (simp; omega)) (some ⟨b, off, none⟩) k c (cellsAll scells (l.take k)) rfl HL1.out (fun h => by cases h) (HCA.out _ (by repeat (first | assumption | exact Below.refl _ _ | refine Below.drew ?_ | refine Below.alloc ?_ (by first | omega | (simp; done) | (simp; omega)) _))) HO1.out (by unfold maxLen; omega) (by omega) ?_; intro A8 c8 w8 hown8 hg8; have hB8 : Below w.heap.size w w8 := Below.grown (by repeat (first | assumption | exact Below.refl _ _ | refine Below.drew ?_ | refine Below.alloc ?_ (by first | omega | (simp; done) | (simp; omega)) _)) hg8 (by first | omega | (simp; done) | (simp; omega)) (fun q hq => own_ge hq (by first | omega | (simp; done) | (simp; omega))); have hz8 : w.heap.size ≤ w8.heap.size := hB8.size; rw [List.nil_append, Nat.zero_add] at hown8; have hown8' : w8.ownsRow w.heap.size 50 4 (.slice A8 (0 + k) c8) k (cellsAll scells (l.take k)) := (by rw [Nat.zero_add]; exact hown8))
        | (refine step_append_row rfl (.tmp 9) (.tmp 13) 30 rfl w.heap.size 50 j0 (.agg #[.int .i64 0, .int .i64 0, .int .i64 0, .int .i64 0]) 4 32 Tryz.underlying30 hji hjz0 hjz1 hjz2 rfl (by decide) _ k (cellsAll scells (l.take k)) rfl (by first | exact hown8 | exact hown8') (by first | omega | (simp; done) | (simp; omega)) (some ⟨b, off + (k + 1) * 4, none⟩) (n - (k + 1)) (c - (k + 1)) (cellsAll scells (l.drop (k + 1))) rfl HL2'.out (fun h => by cases h) (HCB.out _ (by repeat (first | assumption | exact Below.refl _ _ | refine Below.drew ?_ | refine Below.alloc ?_ (by first | omega | (simp; done) | (simp; omega)) _))) HO2.out (by unfold maxLen; omega) (by omega) ?_; intro A6 c6 w6 hown6 hg6; have hB6 : Below w.heap.size w w6 := Below.grown (by repeat (first | assumption | exact Below.refl _ _ | refine Below.drew ?_ | refine Below.alloc ?_ (by first | omega | (simp; done) | (simp; omega)) _)) hg6 (by first | omega | (simp; done) | (simp; omega)) (by first | exact fun q hq => (hown8.lt q hq).1 | exact fun q hq => (hown8'.lt q hq).1); have HO6 := hidb hown6; have HB6 := hidb hB6; clear hown6 hg6))
    all_goals
      go_wp2
      go_ret
      exact HPE.out _ _ _ HB6.out HO6.out
  · have e1 : c = k + 1 := by omega
    have e2 : n = k + 1 := by omega
    subst e1
    have HE2 := hidb e2
    have hd : Hid (cellsAll scells (l.drop (k + 1)) = []) := hidb (by
      have := HL2'.out
      rw [HE2.out, Nat.sub_self, Nat.zero_mul] at this
      exact List.eq_nil_of_length_eq_zero this)
    have HPE2 : Hid (∀ A' c' w6, Below w.heap.size w w6 → w6.ownsRow w.heap.size 50 4 (.slice A' k c') k (cellsAll scells (l.take k)) →
        OwnSpansN w (k + (n - (k + 1))) (l.eraseIdx k) (.returned (.slice A' k c')) w6) := hidb (fun A' c' w6 x1 x2 => by
      have := HPE.out A' c' w6 x1
      rw [show k + (n - (k + 1)) = k by omega, hd.out, List.append_nil] at this
      rw [show k + (n - (k + 1)) = k by omega]
      exact this x2)
    clear e2 hs1
    have hs6 : (k : Int) ≤ (k : Int) + 1 := by omega
    have hs7 : (n : Int) ≤ (k : Int) + 1 := by have := HE2.out; omega
    clear hs3
    go_enter Tryz.func136, Tryz.ntmps136
    go_wp2
    go_region_law
      (first
        | (refine step_append_row rfl (.tmp 5) (.tmp 8) 30 rfl w.heap.size 50 j0 (.agg #[.int .i64 0, .int .i64 0, .int .i64 0, .int .i64 0]) 4 32 Tryz.underlying30 hji hjz0 hjz1 hjz2 rfl (by decide) _ 0 [] rfl (own_empty' _ _ _ _ _ (by first | rfl | simp) (by first | exact Nat.le_refl _ | simp)).drew (by first | omega | (simp; done) | (simp; omega)) (some ⟨b, off, none⟩) k (k + 1) (cellsAll scells (l.take k)) rfl HL1.out (fun h => by cases h) (HCA.out _ (by repeat (first | assumption | exact Below.refl _ _ | refine Below.drew ?_ | refine Below.alloc ?_ (by first | omega | (simp; done) | (simp; omega)) _))) HO1.out (by unfold maxLen; omega) (by omega) ?_; intro A8 c8 w8 hown8 hg8; have hB8 : Below w.heap.size w w8 := Below.grown (by repeat (first | assumption | exact Below.refl _ _ | refine Below.drew ?_ | refine Below.alloc ?_ (by first | omega | (simp; done) | (simp; omega)) _)) hg8 (by first | omega | (simp; done) | (simp; omega)) (fun q hq => own_ge hq (by first | omega | (simp; done) | (simp; omega))); have hz8 : w.heap.size ≤ w8.heap.size := hB8.size; rw [List.nil_append, Nat.zero_add] at hown8; have hown8' : w8.ownsRow w.heap.size 50 4 (.slice A8 (0 + k) c8) k (cellsAll scells (l.take k)) := (by rw [Nat.zero_add]; exact hown8))
        | (refine step_append_row rfl (.tmp 9) (.tmp 13) 30 rfl w.heap.size 50 j0 (.agg #[.int .i64 0, .int .i64 0, .int .i64 0, .int .i64 0]) 4 32 Tryz.underlying30 hji hjz0 hjz1 hjz2 rfl (by decide) _ k (cellsAll scells (l.take k)) rfl (by first | exact hown8 | exact hown8') (by first | omega | (simp; done) | (simp; omega)) (some ⟨b, off, none⟩) 0 0 [] rfl rfl (fun h => by cases h) (fun ad e q u hq => by simp at hq) (fun u hu => by cases hu) (by unfold maxLen; omega) (by omega) ?_; intro A6 c6 w6 hown6 hg6; have hB6 : Below w.heap.size w w6 := Below.grown (by repeat (first | assumption | exact Below.refl _ _ | refine Below.drew ?_ | refine Below.alloc ?_ (by first | omega | (simp; done) | (simp; omega)) _)) hg6 (by first | omega | (simp; done) | (simp; omega)) (by first | exact fun q hq => (hown8.lt q hq).1 | exact fun q hq => (hown8'.lt q hq).1); have HO6 := hidb hown6; have HB6 := hidb hB6; clear hown6 hg6))
    all_goals
      go_wp2
      go_ret
      exact HPE2.out _ _ _ HB6.out (by have := HO6.out; rwa [Nat.add_zero, List.append_nil] at this)

end Go.Proofs.YtonmkanppapjjaaGreat
