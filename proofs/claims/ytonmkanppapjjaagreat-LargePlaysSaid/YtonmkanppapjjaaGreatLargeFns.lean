/- Layer 10's small functions: which sizes there are, which spans are meant, numbers of spans. -/
import Derived.Test.YtonmkanppapjjaaGreatHeapBase
import Derived.Test.YtonmkanppapjjaaGreatHeapRefB
import Derived.Test.YtonmkanppapjjaaGreatNumWalks
import Derived.Test.YtonmkanppapjjaaGreatLargeMath
import Derived.Test.YtonmkanppapjjaaGreatAppendRow
namespace Go.Proofs.YtonmkanppapjjaaGreat
open Go.RowKit
set_option linter.unusedVariables false

theorem eqs_span (a b c d a2 b2 c2 d2 : Int) (W : World) : (binOp .eql 50 (.agg #[.int .i64 a, .int .i64 b, .int .i64 c, .int .i64 d]) (.agg #[.int .i64 a2, .int .i64 b2, .int .i64 c2, .int .i64 d2])).run Tryz.prog W = .ok (.bool (decide ((a, b, c, d) = (a2, b2, c2, d2)))) W := by
  simp [go_sem]
  by_cases h1 : a = a2 <;> by_cases h2 : b = b2 <;> by_cases h3 : c = c2 <;> by_cases h4 : d = d2 <;> simp [h1, h2, h3, h4]

theorem lFits_four (m : Int) : lFits (4 * m) = isB m := by
  unfold lFits
  by_cases h : 1 ≤ m
  · rw [decide_eq_true (by omega : 4 ≤ 4 * m), Bool.true_and]
    have h1 := isB_half (4 * m) (by omega) (by omega)
    have h2 := isB_half (2 * m) (by omega) (by omega)
    rw [show 4 * m / 2 = 2 * m by omega] at h1
    rw [show 2 * m / 2 = m by omega] at h2
    rw [← h1, ← h2]
  · rw [decide_eq_false (by omega : ¬ 4 ≤ 4 * m), Bool.false_and]
    unfold isB
    rw [decide_eq_false (by omega)]
theorem lFits_no {n : Int} (h : ¬ n % 4 = 0) : lFits n = false := by
  unfold lFits
  by_cases h1 : 4 ≤ n
  · rw [decide_eq_true h1, Bool.true_and]
    by_cases h2 : n % 2 = 0
    · rw [← isB_half n (by omega) h2, isB_end (n / 2) (by omega)]
      exact decide_eq_false (by omega)
    · rw [isB_end n (by omega)]
      exact decide_eq_false (by omega)
  · rw [decide_eq_false h1, Bool.false_and]
theorem lFits_low {n : Int} (h : n < 4) : lFits n = false := by
  unfold lFits
  rw [decide_eq_false (by omega), Bool.false_and]

/-- isSize. -/
theorem code_isSize (n : Int) (w : World) (h : in64 n) : Calls Tryz.prog 77 #[.int .i64 n] w fun e w' => e = .returned (.bool (lFits n)) ∧ Below w.heap.size w w' := by
  obtain ⟨h0, h1⟩ := h
  by_cases hn : 0 ≤ n
  · by_cases h4 : n % 4 = 0
    · obtain ⟨m, rfl⟩ : ∃ m, n = 4 * m := ⟨n / 4, by omega⟩
      have hm0 : 0 ≤ m := by omega
      have hm1 : m ≤ 2305843009213693951 := by omega
      rw [lFits_four]
      have e1 : 4 * m / 4 = m := by omega
      have ci := fun W hc => num_is_one w.heap.size m W (by omega) (by omega) hc
      have hd : (4 * m % 4 == 0) = true := by simp
      clear h4
      go_enter Tryz.func77, Tryz.ntmps77
      go_wp2_with (first | (go_at_call 128; (with_reducible refine (ci _ (by simp)).mono ?_); rintro e w' ⟨rfl, rfl⟩))
      go_ret
      exact ⟨rfl, (Below.refl _ _).alloc (Nat.le_refl _) _⟩
    · have E := lFits_no h4
      rw [E]
      have hd : (n % 4 == 0) = false := by simpa using h4
      clear E h4
      go_enter Tryz.func77, Tryz.ntmps77
      go_wp2
      go_ret
      exact ⟨rfl, Below.refl _ _⟩
  · rw [lFits_low (by omega)]
    by_cases h4 : n.tmod 4 = 0
    · have hd : (n.tmod 4 == 0) = true := by simpa using h4
      obtain ⟨m, hm⟩ : ∃ m, n.tdiv 4 = m := ⟨_, rfl⟩
      have hm9 : n = 4 * m := by
        have := Int.mul_tdiv_add_tmod n 4
        rw [h4, hm] at this
        omega
      have hm1 : m < 1 := by omega
      have hm0 : -9223372036854775808 ≤ m := by omega
      have hb : isB m = false := by unfold isB; exact decide_eq_false (by omega)
      have ci := fun W hc => num_is_one w.heap.size m W hm0 (by omega) hc
      rw [hb] at ci
      clear h4 hb hm9
      go_enter Tryz.func77, Tryz.ntmps77
      go_wp2_with (first | (go_at_call 128; (with_reducible refine (ci _ (by simp)).mono ?_); rintro e w' ⟨rfl, rfl⟩))
      go_ret
      exact ⟨rfl, (Below.refl _ _).alloc (Nat.le_refl _) _⟩
    · have hd : (n.tmod 4 == 0) = false := by simpa using h4
      clear h4
      go_enter Tryz.func77, Tryz.ntmps77
      go_wp2
      go_ret
      exact ⟨rfl, Below.refl _ _⟩

/-- A size that is meant. -/
theorem code_sized (n : Int) (w : World) : Calls Tryz.prog 80 #[.int .i64 n] w fun e w' => e = .returned (.func (.func 129) #[] #[.pointer (some ⟨w.heap.size, 0, none⟩)]) ∧ w' = w.alloc (.cells #[.int .i64 n] 3) := by
  go_enter Tryz.func80, Tryz.ntmps80
  go_wp2
  go_ret
  exact ⟨rfl, rfl⟩
theorem code_sized1 (s : Spn) (t : Nat) (n : Int) (w : World) (hc : w.cell? ⟨t, 0, none⟩ = some (.int .i64 n)) : Calls Tryz.prog 129 #[spv s, .pointer (some ⟨t, 0, none⟩)] w fun e w' => e = .returned (.bool (s.2.2.1 == n)) ∧ Below w.heap.size w w' := by
  obtain ⟨a, b, c, d⟩ := s
  unfold spv
  simp only
  have h2 := alloc_old (.cells #[.int .i64 a, .int .i64 b, .int .i64 c, .int .i64 d] 50) hc
  go_enter Tryz.func129, Tryz.ntmps129
  go_wp2
  go_ret
  exact ⟨rfl, (Below.refl _ _).alloc (Nat.le_refl _) _⟩
/-- A span that is meant. -/
theorem code_same (s : Spn) (w : World) : Calls Tryz.prog 82 #[spv s] w fun e w' => e = .returned (.func (.func 131) #[] #[.pointer (some ⟨w.heap.size, 0, none⟩)]) ∧ w' = w.alloc (.cells #[.int .i64 s.1, .int .i64 s.2.1, .int .i64 s.2.2.1, .int .i64 s.2.2.2] 50) := by
  obtain ⟨a, b, c, d⟩ := s
  unfold spv
  simp only
  go_enter Tryz.func82, Tryz.ntmps82
  go_wp2
  go_ret
  exact ⟨rfl, rfl⟩
/-- A span lies in a block. -/
def SpAt (w : World) (t : Nat) (s : Spn) : Prop := w.cell? ⟨t, 0, none⟩ = some (.int .i64 s.1) ∧ w.cell? ⟨t, 1, none⟩ = some (.int .i64 s.2.1) ∧ w.cell? ⟨t, 2, none⟩ = some (.int .i64 s.2.2.1) ∧ w.cell? ⟨t, 3, none⟩ = some (.int .i64 s.2.2.2)
theorem SpAt.lt {w : World} {t : Nat} {s : Spn} (h : SpAt w t s) : t < w.heap.size := lt_of_cell h.1
theorem SpAt.below {w w' : World} {t B : Nat} {s : Spn} (h : SpAt w t s) (hb : Below B w w') (ht : t < B) : SpAt w' t s :=
  ⟨(hb.cell (p := ⟨t, 0, none⟩) ht).trans h.1, (hb.cell (p := ⟨t, 1, none⟩) ht).trans h.2.1, (hb.cell (p := ⟨t, 2, none⟩) ht).trans h.2.2.1, (hb.cell (p := ⟨t, 3, none⟩) ht).trans h.2.2.2⟩
theorem SpAt.grown {w w' : World} {t : Nat} {s : Spn} {r : Option Nat} (h : SpAt w t s) (hg : w.grownBy w' r) (ht : some t ≠ r) : SpAt w' t s := by
  have hb := hg.block t h.lt ht
  exact ⟨(World.cell?_of_block (w := w) (a := ⟨t, 0, none⟩) hb).trans h.1, (World.cell?_of_block (w := w) (a := ⟨t, 1, none⟩) hb).trans h.2.1, (World.cell?_of_block (w := w) (a := ⟨t, 2, none⟩) hb).trans h.2.2.1, (World.cell?_of_block (w := w) (a := ⟨t, 3, none⟩) hb).trans h.2.2.2⟩
theorem SpAt.new_ (w : World) (s : Spn) (e : TypeId) : SpAt (w.alloc (.cells #[.int .i64 s.1, .int .i64 s.2.1, .int .i64 s.2.2.1, .int .i64 s.2.2.2] e)) w.heap.size s :=
  ⟨World.cell?_alloc_at _ _ _ 0 (by simp), World.cell?_alloc_at _ _ _ 1 (by simp), World.cell?_alloc_at _ _ _ 2 (by simp), World.cell?_alloc_at _ _ _ 3 (by simp)⟩
theorem SpAt.cells {w : World} {t : Nat} {i s k o : Int} (h : SpAt w t (i, s, k, o)) : w.cell? ⟨t, 0, none⟩ = some (.int .i64 i) ∧ w.cell? ⟨t, 1, none⟩ = some (.int .i64 s) ∧ w.cell? ⟨t, 2, none⟩ = some (.int .i64 k) ∧ w.cell? ⟨t, 3, none⟩ = some (.int .i64 o) := h
theorem code_same1 (s : Spn) (t : Nat) (o : Spn) (w : World) (hc : SpAt w t o) : Calls Tryz.prog 131 #[spv s, .pointer (some ⟨t, 0, none⟩)] w fun e w' => e = .returned (.bool (decide (s = o))) ∧ Below w.heap.size w w' := by
  obtain ⟨a, b, c, d⟩ := s
  obtain ⟨a2, b2, c2, d2⟩ := o
  unfold spv
  simp only
  obtain ⟨x0, x1, x2, x3⟩ := hc
  have h0 := alloc_old (.cells #[.int .i64 a, .int .i64 b, .int .i64 c, .int .i64 d] 50) x0
  have h1 := alloc_old (.cells #[.int .i64 a, .int .i64 b, .int .i64 c, .int .i64 d] 50) x1
  have h2 := alloc_old (.cells #[.int .i64 a, .int .i64 b, .int .i64 c, .int .i64 d] 50) x2
  have h3 := alloc_old (.cells #[.int .i64 a, .int .i64 b, .int .i64 c, .int .i64 d] 50) x3
  simp only at h0 h1 h2 h3
  have q := eqs_span a b c d a2 b2 c2 d2
  obtain ⟨r, hr⟩ : ∃ r, decide ((a, b, c, d) = (a2, b2, c2, d2)) = r := ⟨_, rfl⟩
  rw [hr] at q ⊢
  clear hr x0 x1 x2 x3
  go_enter Tryz.func131, Tryz.ntmps131
  go_wp2
  go_ret
  exact ⟨rfl, (Below.refl _ _).alloc (Nat.le_refl _) _⟩

set_option maxHeartbeats 1000000 in
set_option maxRecDepth 100000 in
/-- Those of a size. -/
theorem code_those (A : Option Addr) (m c : Nat) (ds : List Spn) (t : Nat) (n : Int) (w : World) (hs : Sn w w.heap.size A m ds) (hm : m ≤ 65536) (hc : w.cell? ⟨t, 0, none⟩ = some (.int .i64 n)) :
    Calls Tryz.prog 78 #[.slice A m c, .func (.func 129) #[] #[.pointer (some ⟨t, 0, none⟩)]] w (OwnSpans w (lOf ds n)) := by
  obtain ⟨i0, hi, hz0, hz1, hz2⟩ := info_parts info_span
  have HS := hidb hs
  have HL : Hid (ds.length = m) := hidb hs.1
  have htl := lt_of_cell hc
  have HC : Hid (∀ W, Below w.heap.size w W → W.cell? ⟨t, 0, none⟩ = some (.int .i64 n)) := hidb (fun W hb => (hb.cell (p := ⟨t, 0, none⟩) htl).trans hc)
  clear hs hc
  go_enter Tryz.func78, Tryz.ntmps78
  go_wp2
  go_loopw [5, 7, 10] (fun v _ k wr => ∃ (j : Nat) (d : List Spn), j ≤ m ∧ k = .int .i64 j ∧ Hid (d = lOf (ds.take j) n) ∧ d.length ≤ j ∧ wr.ownsRow w.heap.size 50 4 v d.length (cellsAll scells d) ∧ Below w.heap.size w wr) (fun _ _ k _ => (m - intOf k).toNat)
  case atStart => exact ⟨0, [], Nat.zero_le _, rfl, hidb (by simp [lOf]), Nat.le_refl _, World.ownsRow_nil _ _ _ _, Below.refl _ _⟩
  case round =>
    obtain ⟨j, d, hj, rfl, HD, hdl, hown, hbel⟩ := hrel
    by_cases hlt : j < m
    · obtain ⟨b, off, i, s, k, o, rfl, hx, hc0, hc1, hc2, hc3⟩ := Sn.span (RowOf.below HS.out hbel) hlt
      have hi0 : (0 : Int) ≤ (j : Int) := by omega
      have hi1 : (j : Int) < (m : Int) := by omega
      have htk : ds.take (j + 1) = ds.take j ++ [(i, s, k, o)] := by rw [List.take_add_one, hx]; rfl
      have cs := fun W (hb : Below w.heap.size w W) => code_sized1 (i, s, k, o) t n W (HC.out W hb)
      have HB := hidb hbel
      have HOWN := hidb hown
      have hsz := hbel.size
      have HA : Hid (∀ W, Below (wr.alloc (.cells #[.int .i64 i, .int .i64 s, .int .i64 k, .int .i64 o] 50)).heap.size (wr.alloc (.cells #[.int .i64 i, .int .i64 s, .int .i64 k, .int .i64 o] 50)) W → Below wr.heap.size wr W) := hidb (fun W hb => ((Below.refl _ _).alloc (Nat.le_refl _) _).trans (hb.mono (by simp)))
      unfold spv at cs
      simp only at cs
      clear hbel hown hx
      cases he : (k == n) with
      | true =>
        have H2 : Hid (d ++ [(i, s, k, o)] = lOf (ds.take (j + 1)) n) := hidb (by
          rw [htk]
          unfold lOf
          rw [List.filter_append, ← show d = (ds.take j).filter (fun s => s.2.2.1 == n) from HD.out]
          congr 1
          simp [he])
        rw [he] at cs
        clear htk he
        go_wp2_with (first
          | (go_at_call 129; (with_reducible refine (cs _ (HB.out.alloc HB.out.size _)).mono ?_); rintro e w1 ⟨rfl, hb1⟩; obtain ⟨q0, q1, q2, q3⟩ := ((SpAt.new_ wr (i, s, k, o) 50).below hb1 (by simp)).cells; have hb2 := HA.out _ hb1; have hown1 := own_below HOWN.out hb2; have hsz1 := Nat.le_trans hsz hb2.size)
          | (at_builtin; refine wpList_append_struct w1 rfl _ _ 30 rfl w.heap.size 50 i0 (.agg #[.int .i64 0, .int .i64 0, .int .i64 0, .int .i64 0]) 4 32 Tryz.underlying30 hi hz0 hz1 hz2 rfl (by decide) _ _ _ rfl (by exact hown1) hsz1 #[.int .i64 i, .int .i64 s, .int .i64 k, .int .i64 o] rfl (by simp [Value.oneCell']) _ rfl (by unfold maxLen; omega) (by omega) ?_; intro v3 w3 hown3 hb3))
        have HO : Hid (w3.ownsRow w.heap.size 50 4 v3 (d ++ [(i, s, k, o)]).length (cellsAll scells (d ++ [(i, s, k, o)]))) := hidb (by rw [List.length_append, cellsAll_append, cellsAll_one]; exact hown3)
        have HB3 : Hid (Below w.heap.size w w3) := hidb ((HB.out.trans (hb2.mono hsz)).trans hb3)
        have hl3 : (d ++ [(i, s, k, o)]).length = d.length + 1 := by simp
        clear hown3 hb3 hown1 hb2 hb1
        go_roundw
        case rel => exact ⟨j + 1, d ++ [(i, s, k, o)], by omega, by go_num, H2, by rw [hl3]; omega, HO.out, HB3.out⟩
        case measure => simp [intOf]; omega
      | false =>
        have H2 : Hid (d = lOf (ds.take (j + 1)) n) := hidb (by
          rw [htk]
          unfold lOf
          rw [List.filter_append, ← show d = (ds.take j).filter (fun s => s.2.2.1 == n) from HD.out]
          simp [he])
        rw [he] at cs
        clear htk he
        go_wp2_with (first | (go_at_call 129; (with_reducible refine (cs _ (HB.out.alloc HB.out.size _)).mono ?_); rintro e w1 ⟨rfl, hb1⟩))
        have hb2 := HA.out _ hb1
        have HO := hidb (own_below HOWN.out hb2)
        have HB3 := hidb (HB.out.trans (hb2.mono hsz))
        clear hb1 hb2
        go_roundw
        case rel => exact ⟨j + 1, d, by omega, by go_num, H2, by omega, HO.out, HB3.out⟩
        case measure => simp [intOf]; omega
    · have e : d = lOf ds n := by rw [HD.out, List.take_of_length_le (by rw [HL.out]; omega)]
      obtain ⟨A', c', rfl⟩ := own_form2 hown
      have P : Hid (OwnSpans w (lOf ds n) (.returned (.slice A' d.length c')) wr) := hidb (by rw [← e]; exact ⟨A', c', rfl, hown, hbel⟩)
      clear hown hbel e
      go_wp2
      go_ret
      exact P.out
end Go.Proofs.YtonmkanppapjjaaGreat
