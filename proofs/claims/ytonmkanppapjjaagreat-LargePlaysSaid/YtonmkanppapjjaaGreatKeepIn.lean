/- What the document's own helpers of the keeper return: a span in a row, numbers of spans, those of so many pages. -/
import Derived.Test.YtonmkanppapjjaaGreatKeepMath
import Derived.Test.YtonmkanppapjjaaGreatKeepVal
namespace Go.Proofs.YtonmkanppapjjaaGreat
open Go.RowKit
set_option linter.unusedVariables false

theorem ref_lin (A : Option Addr) (n c : Nat) (l : List Spn) (id : Int) (w : World) (B : Nat) (hs : Sn w B A n l) (hn : n ≤ 65536) :
    Calls Tryz.prog 138 #[.slice A n c, .int .i64 id] w fun e w' => e = .returned (.bool (hasId l id)) ∧ w = w' := by
  have l1 : l.length = n := hs.1
  have L1 := hidb l1
  have HS := hidb hs
  clear hs l1
  go_enter Tryz.func138, Tryz.ntmps138
  go_wp2
  go_loop [8] (fun k => ∃ j : Nat, j ≤ n ∧ Hid (∀ i, i < j → ∀ y, l[i]? = some y → (y.1 == id) = false) ∧ k = .int .i64 j) (fun k => (n - intOf k).toNat)
  case atStart => exact ⟨0, by omega, hidb (fun i h => absurd h (Nat.not_lt_zero _)), rfl⟩
  case round =>
    obtain ⟨j, hj, HA, rfl⟩ := hrel
    by_cases hlt : j < n
    · obtain ⟨b, off, i, s, k, o, rfl, hx, hc, _, _, _⟩ := HS.out.span hlt
      have hi0 : (0 : Int) ≤ (j : Int) := by omega
      have hi1 : (j : Int) < (n : Int) := by omega
      cases he : (i == id) with
      | true =>
        have E : Hid (hasId l id = true) := hidb (by
          unfold hasId
          exact List.any_eq_true.2 ⟨_, List.mem_of_getElem? hx, he⟩)
        clear hx
        go_wp2
        go_ret
        exact ⟨by rw [E.out]; rfl, rfl⟩
      | false =>
        have H2 : Hid (∀ i', i' < j + 1 → ∀ y, l[i']? = some y → (y.1 == id) = false) := hidb (fun i' h y hy => by
          by_cases h3 : i' = j
          · subst h3; rw [hx] at hy; injection hy with hy; subst hy; exact he
          · exact HA.out i' (by omega) y hy)
        clear hx
        go_wp2
        go_round
        case rel => exact ⟨j + 1, by omega, H2, by go_num⟩
        case measure => simp [intOf]; omega
    · have E : Hid (hasId l id = false) := hidb (by
        unfold hasId
        refine List.any_eq_false.2 fun y hy => ?_
        obtain ⟨i, hi⟩ := List.getElem?_of_mem hy
        rw [HA.out i (by have := (List.getElem?_eq_some_iff.1 hi).1; have := L1.out; omega) y hi]
        decide)
      go_wp2
      go_ret
      exact ⟨by rw [E.out]; rfl, rfl⟩

set_option maxHeartbeats 1000000 in
theorem ref_lnumbers (A : Option Addr) (n c : Nat) (l : List Spn) (w : World) (hs : Sn w w.heap.size A n l) (hn : n ≤ 65536) :
    Calls Tryz.prog 43 #[.slice A n c] w (OwnInts w (l.map (·.1))) := by
  obtain ⟨i0, hi, hz0, hz1, hz2⟩ := info_parts info_int
  have HL : Hid (l.length = n) := hidb hs.1
  have HS := hidb hs
  clear hs
  go_enter Tryz.func43, Tryz.ntmps43
  go_wp2
  go_loopw [3, 4, 8] (fun v _ k wr => ∃ (j : Nat) (d : List Int), j ≤ n ∧ k = .int .i64 j ∧ Hid (d = (l.take j).map (·.1)) ∧ d.length = j ∧ wr.ownsRow w.heap.size 3 1 v d.length (d.map iv) ∧ Below w.heap.size w wr) (fun _ _ k _ => (n - intOf k).toNat)
  case atStart => exact ⟨0, [], Nat.zero_le _, rfl, hidb rfl, rfl, ownsRow_empty w 3, (Below.refl _ _).alloc (Nat.le_refl _) _⟩
  case round =>
    obtain ⟨j, d, hj, rfl, HD, hdl, hown, hbel⟩ := hrel
    by_cases hlt : j < n
    · obtain ⟨b, off, i, s, k, o, rfl, hx, hc0, hc1, hc2, hc3⟩ := Sn.span (RowOf.below HS.out hbel) hlt
      have hi0 : (0 : Int) ≤ (j : Int) := by omega
      have hi1 : (j : Int) < (n : Int) := by omega
      have H2 : Hid (d ++ [i] = (l.take (j + 1)).map (·.1)) := hidb (by rw [List.take_add_one, hx, List.map_append, ← HD.out]; rfl)
      have HB := hidb hbel
      have hsz := hbel.size
      clear hbel hx
      go_wp2_with (at_builtin; refine wpList_append_one wr rfl _ _ 38 rfl w.heap.size 3 i0 (.int .i64 0) 8 Tryz.underlying38 hi hz0 hz1 hz2 rfl _ _ _ rfl (by exact hown) hsz (.int .i64 i) rfl _ rfl (by unfold maxLen; omega) (by omega) ?_; intro v3 w3 hown3 hb3)
      have HO : Hid (w3.ownsRow w.heap.size 3 1 v3 (d ++ [i]).length ((d ++ [i]).map iv)) := hidb (by rw [List.length_append, List.map_append]; exact hown3)
      have HB3 : Hid (Below w.heap.size w w3) := hidb (HB.out.trans hb3)
      have hl3 : (d ++ [i]).length = d.length + 1 := by simp
      clear hown3 hb3 hown
      go_roundw
      case rel => exact ⟨j + 1, d ++ [i], by omega, by go_num, H2, by rw [hl3]; omega, HO.out, HB3.out⟩
      case measure => simp [intOf]; omega
    · have e : d = l.map (·.1) := by rw [HD.out, List.take_of_length_le (by rw [HL.out]; omega)]
      obtain ⟨A', c', rfl⟩ := own_form hown
      have P : Hid (OwnInts w (l.map (·.1)) (.returned (.slice A' d.length c')) wr) := hidb (by rw [← e]; exact ⟨A', c', rfl, hown, hbel⟩)
      clear hown hbel e
      go_wp2
      go_ret
      exact P.out

set_option maxRecDepth 100000 in
set_option maxHeartbeats 2000000 in
theorem ref_klist (P : Nat → Prop) (q : LargeV) (pages : Int) (w : World) (A : Option Addr) (n c : Nat) (A2 : Option Addr) (n2 c2 : Nat) (A3 : Option Addr) (n3 c3 : Nat) (A4 : Option Addr) (n4 c4 : Nat) (pg la : Int) (held : Bool) (hs : Sn w w.heap.size A3 n3 q.kept) (hn : n3 ≤ 65536) (L : List Int) (hL : (lOf q.kept pages).map (·.1) = L) :
    Calls Tryz.prog 42 #[kval pg A n c A2 n2 c2 la A3 n3 c3 A4 n4 c4 held, .int .i64 pages] w (OwnInts w L) := by
  obtain ⟨i0, hi, hz0, hz1, hz2⟩ := info_parts info_int
  obtain ⟨l, hl⟩ : ∃ l, q.kept = l := ⟨_, rfl⟩
  rw [hl] at hs hL
  have HL : Hid (l.length = n3) := hidb hs.1
  obtain ⟨W0, hW0⟩ : ∃ W0, W0 = w.alloc (.cells #[.int .i64 pg, .slice A n c, .slice A2 n2 c2, .int .i64 la, .slice A3 n3 c3, .slice A4 n4 c4, .bool held] 76) := ⟨_, rfl⟩
  have hz : W0.heap.size = w.heap.size + 1 := by rw [hW0]; simp
  have HB0 : Hid (Below w.heap.size w W0) := hidb (by rw [hW0]; exact (Below.refl _ _).alloc (Nat.le_refl _) _)
  have HS : Hid (Sn W0 w.heap.size A3 n3 l) := hidb (RowOf.below hs HB0.out)
  have HC : Hid (∀ W, Below W0.heap.size W0 W → W.cell? ⟨w.heap.size, 4, none⟩ = some (.slice A3 n3 c3)) := hidb (fun W hb => by
    rw [hb.cell (p := ⟨w.heap.size, 4, none⟩) (by show w.heap.size < _; omega), hW0]
    simp [go_sem])
  have HEL := hidb hL
  have HW0 := hidb hW0
  have HZ := hidb hz
  have c4 := HC.out W0 (Below.refl _ _)
  clear hs hl hL hW0 hz
  unfold kval
  go_enter Tryz.func42, Tryz.ntmps42
  go_wp2
  rw [← HW0.out]
  go_loopw [5, 6, 11] (fun v _ k wr => ∃ (j : Nat) (d : List Int), j ≤ n3 ∧ k = .int .i64 j ∧ Hid (d = (lOf (l.take j) pages).map (·.1)) ∧ d.length ≤ j ∧ wr.ownsRow W0.heap.size 3 1 v d.length (d.map iv) ∧ Below W0.heap.size W0 wr) (fun _ _ k _ => (n3 - intOf k).toNat)
  case atStart => exact ⟨0, [], Nat.zero_le _, rfl, hidb rfl, Nat.le_refl _, by have := ownsRow_empty W0 3; rw [HZ.out] at this ⊢; exact this, (Below.refl _ _).alloc (Nat.le_refl _) _⟩
  case round =>
    obtain ⟨j, d, hj, rfl, HD, hdl, hown, hbel⟩ := hrel
    have c4' := HC.out _ hbel
    by_cases hlt : j < n3
    · obtain ⟨b, off, i, s, k, o, rfl, hx, hc0, hc1, hc2, hc3⟩ := Sn.span (RowOf.below HS.out (hbel.mono (by have := HZ.out; omega))) hlt
      have hi0 : (0 : Int) ≤ (j : Int) := by omega
      have hi1 : (j : Int) < (n3 : Int) := by omega
      have htk : l.take (j + 1) = l.take j ++ [(i, s, k, o)] := by rw [List.take_add_one, hx]; rfl
      have HB := hidb hbel
      have hsz := hbel.size
      clear hbel hx
      cases he : (k == pages) with
      | true =>
        have H2 : Hid (d ++ [i] = (lOf (l.take (j + 1)) pages).map (·.1)) := hidb (by
          rw [htk, HD.out]
          unfold lOf
          rw [List.filter_append, List.map_append]
          congr 1
          simp [he])
        clear htk
        go_wp2_with (at_builtin; refine wpList_append_one wr rfl _ _ 38 rfl W0.heap.size 3 i0 (.int .i64 0) 8 Tryz.underlying38 hi hz0 hz1 hz2 rfl _ _ _ rfl (by exact hown) hsz (.int .i64 i) rfl _ rfl (by unfold maxLen; omega) (by omega) ?_; intro v3 w3 hown3 hb3)
        have HO : Hid (w3.ownsRow W0.heap.size 3 1 v3 (d ++ [i]).length ((d ++ [i]).map iv)) := hidb (by rw [List.length_append, List.map_append]; exact hown3)
        have HB3 : Hid (Below W0.heap.size W0 w3) := hidb (HB.out.trans hb3)
        have hl3 : (d ++ [i]).length = d.length + 1 := by simp
        clear hown3 hb3 hown
        go_roundw
        case rel => exact ⟨j + 1, d ++ [i], by omega, by go_num, H2, by rw [hl3]; omega, HO.out, HB3.out⟩
        case measure => simp [intOf]; omega
      | false =>
        have H2 : Hid (d = (lOf (l.take (j + 1)) pages).map (·.1)) := hidb (by
          rw [htk, HD.out]
          unfold lOf
          rw [List.filter_append, List.map_append]
          simp [he])
        have HO := hidb hown
        clear htk hown
        go_wp2
        go_roundw
        case rel => exact ⟨j + 1, d, by omega, by go_num, H2, by omega, HO.out, HB.out⟩
        case measure => simp [intOf]; omega
    · have e : d = L := by rw [HD.out, List.take_of_length_le (by rw [HL.out]; omega)]; exact HEL.out
      obtain ⟨A', c', rfl⟩ := own_form hown
      have P : Hid (OwnInts w L (.returned (.slice A' d.length c')) wr) := hidb (by rw [← e]; exact ⟨A', c', rfl, hown.mono (by have := HZ.out; omega), HB0.out.trans (hbel.mono HB0.out.size)⟩)
      clear hown hbel e
      go_wp2
      go_ret
      exact P.out

end Go.Proofs.YtonmkanppapjjaaGreat
