/- What Spans and New of the document's own answers to layer 7 (heap) return. -/
import Derived.Test.YtcngcibiibchiaaGreatHeapRef
import Derived.Deep.Onto
namespace Go.Proofs.YtcngcibiibchiaaGreat
open Go.RowKit
set_option linter.unusedVariables false

/-- Spans that a call made. -/
def OwnSpans (w : World) (l : List (Int × Int × Int × Int)) (e : Ending) (w' : World) : Prop := ∃ A c, e = .returned (.slice A l.length c) ∧ w'.ownsRow w.heap.size 43 4 (.slice A l.length c) l.length (cellsAll scells l) ∧ Below w.heap.size w w'

theorem spans_succ (l : List (Int × Int × Int × Int)) (q : Nat) : (List.range (q + 1)).flatMap (fun (p : Nat) => l.filter fun s => s.2.1 == (p : Int)) = (List.range q).flatMap (fun (p : Nat) => l.filter fun s => s.2.1 == (p : Int)) ++ l.filter fun s => s.2.1 == (q : Int) := by
  rw [List.range_succ, List.flatMap_append, List.flatMap_singleton]

set_option maxHeartbeats 1000000 in
set_option maxRecDepth 100000 in
theorem ref_hspans (P : Nat) (last : Int) (A A2 : Option Addr) (n c n2 c2 : Nat) (f : List Bool) (l : List (Int × Int × Int × Int)) (w : World) (hs : Sn w w.heap.size A2 n2 l) (hn : n2 ≤ 65536) (hP : P ≤ 1024) :
    Calls Tryz.prog 18 #[.agg #[.int .i64 (P : Int), .slice A n c, .slice A2 n2 c2, .int .i64 last]] w (OwnSpans w (hSpans ⟨P, f, l, last⟩)) := by
  obtain ⟨i0, hi, hz0, hz1, hz2⟩ := info_parts info_span
  have l1 : l.length = n2 := hs.1
  have L1 := hidb l1
  have E0 : Hid (hSpans ⟨P, f, l, last⟩ = (List.range P).flatMap (fun (p : Nat) => l.filter fun s => s.2.1 == (p : Int))) := hidb (by unfold hSpans; simp)
  rw [E0.out]
  obtain ⟨W, hW⟩ : ∃ W, W = w.alloc (.cells #[.int .i64 (P : Int), .slice A n c, .slice A2 n2 c2, .int .i64 last] 31) := ⟨_, rfl⟩
  have HS : Hid (Sn W w.heap.size A2 n2 l) := hidb (by rw [hW]; exact RowOf.alloc hs (Nat.le_refl _) _)
  have HB : Hid (Below w.heap.size w W) := hidb (by rw [hW]; exact (Below.refl _ _).alloc (Nat.le_refl _) _)
  have hWs : W.heap.size = w.heap.size + 1 := by rw [hW]; simp
  have q0 : W.cell? ⟨w.heap.size, 0, none⟩ = some (.int .i64 (P : Int)) := by rw [hW]; simp
  have q2 : W.cell? ⟨w.heap.size, 2, none⟩ = some (.slice A2 n2 c2) := by rw [hW]; simp
  have HQ : Hid (∀ W', Below W.heap.size W W' → W'.cell? ⟨w.heap.size, 0, none⟩ = some (.int .i64 (P : Int)) ∧ W'.cell? ⟨w.heap.size, 2, none⟩ = some (.slice A2 n2 c2)) := hidb (fun W' hb => ⟨(hb.cell (p := ⟨w.heap.size, 0, none⟩) (by show w.heap.size < W.heap.size; omega)).trans q0, (hb.cell (p := ⟨w.heap.size, 2, none⟩) (by show w.heap.size < W.heap.size; omega)).trans q2⟩)
  have HW := hidb hW
  clear hs hW l1 q0 q2
  go_enter Tryz.func18, Tryz.ntmps18
  go_wp2
  rw [← HW.out]
  go_loopw [3, 4] (fun v k wr => ∃ (q : Nat) (d : List (Int × Int × Int × Int)), q ≤ P ∧ k = .int .i64 q ∧ Hid (d = (List.range q).flatMap (fun (p : Nat) => l.filter fun s => s.2.1 == (p : Int))) ∧ d.length ≤ q * 65536 ∧ wr.ownsRow W.heap.size 43 4 v d.length (cellsAll scells d) ∧ Below W.heap.size W wr) (fun _ k _ => (P - intOf k).toNat)
  case atStart => exact ⟨0, [], by omega, rfl, hidb rfl, Nat.zero_le _, by have h := World.ownsRow_made (base := W.heap.size) (e := 43) (size := 4) W #[] 0 (Nat.le_refl _) (by unfold maxLen; omega) rfl; rw [hWs] at h ⊢; exact h, (Below.refl _ _).alloc (Nat.le_refl _) _⟩
  case round =>
    obtain ⟨q, d, hq, rfl, HD, hdl, hown, hbel⟩ := hrel
    obtain ⟨c0, c2'⟩ := HQ.out _ hbel
    by_cases hlt : q < P
    · have HOWN := hidb hown
      have HBEL := hidb hbel
      clear hown hbel
      obtain ⟨wo, rfl⟩ : ∃ wo : World, wo = wr := ⟨_, rfl⟩
      go_wp2
      go_loopw [3, 16] (fun v k wr => ∃ (j : Nat) (d2 : List (Int × Int × Int × Int)), j ≤ n2 ∧ k = .int .i64 j ∧ Hid (d2 = d ++ (l.take j).filter fun s => s.2.1 == (q : Int)) ∧ d2.length ≤ q * 65536 + j ∧ wr.ownsRow W.heap.size 43 4 v d2.length (cellsAll scells d2) ∧ Below W.heap.size W wr) (fun _ k _ => (n2 - intOf k).toNat)
      case atStart => exact ⟨0, d, Nat.zero_le _, rfl, hidb (by simp), Nat.le_trans hdl (Nat.le_add_right _ _), HOWN.out, HBEL.out⟩
      case round =>
        obtain ⟨j, d2, hj, rfl, HD2, hdl2, hown, hbel⟩ := hrel
        obtain ⟨c0, c2''⟩ := HQ.out _ hbel
        have hbsz := hbel.size
        by_cases hlt2 : j < n2
        · obtain ⟨b, off, i, s, k, o, rfl, hx, hc0, hc1, hc2, hc3⟩ := Sn.span (RowOf.below HS.out (hbel.mono (by omega))) hlt2
          have hi0 : (0 : Int) ≤ (j : Int) := by omega
          have hi1 : (j : Int) < (n2 : Int) := by omega
          have htk : l.take (j + 1) = l.take j ++ [(i, s, k, o)] := by rw [List.take_add_one, hx]; rfl
          cases he : (s == (q : Int)) with
          | true =>
            have H2 : Hid (d2 ++ [(i, s, k, o)] = d ++ (l.take (j + 1)).filter fun s => s.2.1 == (q : Int)) := hidb (by
              rw [htk, List.filter_append, ← List.append_assoc, ← HD2.out]
              congr 1
              simp [he])
            have HBEL2 := hidb hbel
            clear hx htk hbel
            obtain ⟨wp, rfl⟩ : ∃ wp : World, wp = wr := ⟨_, rfl⟩
            go_wp2_with (at_builtin; refine wpList_append_struct wp rfl _ _ 29 rfl W.heap.size 43 i0 (.agg #[.int .i64 0, .int .i64 0, .int .i64 0, .int .i64 0]) 4 32 Tryz.underlying29 hi hz0 hz1 hz2 rfl (by decide) _ _ _ rfl (by exact hown) hbsz #[.int .i64 i, .int .i64 s, .int .i64 k, .int .i64 o] rfl (by simp [Value.oneCell']) _ rfl (by unfold maxLen; omega) (by omega) ?_; intro v1 w1 hown1 hb1)
            have HO : Hid (w1.ownsRow W.heap.size 43 4 v1 (d2 ++ [(i, s, k, o)]).length (cellsAll scells (d2 ++ [(i, s, k, o)]))) := hidb (by rw [List.length_append, cellsAll_append, cellsAll_one]; exact hown1)
            have HB1 := hidb hb1
            have hl3 : (d2 ++ [(i, s, k, o)]).length = d2.length + 1 := by simp
            clear hown1 hb1 hown
            go_roundw
            case rel => exact ⟨j + 1, d2 ++ [(i, s, k, o)], by omega, by go_num, H2, by rw [hl3]; omega, HO.out, HBEL2.out.trans HB1.out⟩
            case measure => simp [intOf]; omega
          | false =>
            have H2 : Hid (d2 = d ++ (l.take (j + 1)).filter fun s => s.2.1 == (q : Int)) := hidb (by
              rw [htk, List.filter_append, ← List.append_assoc, ← HD2.out]
              simp [he])
            have HO := hidb hown
            have HBEL2 := hidb hbel
            clear hx htk hown hbel
            go_wp2
            go_roundw
            case rel => exact ⟨j + 1, d2, by omega, by go_num, H2, by omega, HO.out, HBEL2.out⟩
            case measure => simp [intOf]; omega
        · have H2 : Hid (d2 = (List.range (q + 1)).flatMap (fun (p : Nat) => l.filter fun s => s.2.1 == (p : Int))) := hidb (by
            rw [spans_succ, ← HD.out, HD2.out, List.take_of_length_le (by rw [L1.out]; omega)])
          have HO := hidb hown
          have HBEL2 := hidb hbel
          clear hown hbel
          go_wp2
          go_roundw
          case rel => exact ⟨q + 1, d2, by omega, by go_num, H2, by omega, HO.out, HBEL2.out⟩
          case measure => simp [intOf]; omega
    · have hqP : q = P := by omega
      have Pf : Hid (OwnSpans w ((List.range P).flatMap (fun (p : Nat) => l.filter fun s => s.2.1 == (p : Int))) (.returned u3) wr) := hidb (by
        rw [← hqP, ← HD.out]
        obtain ⟨A', c', rfl⟩ := own_form2 hown
        exact ⟨A', c', rfl, hown.mono (by omega), HB.out.trans (hbel.mono (by omega))⟩)
      clear hown hbel hqP
      go_wp2
      go_ret
      exact Pf.out

end Go.Proofs.YtcngcibiibchiaaGreat
