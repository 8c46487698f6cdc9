/- What Find, At, Same and Spans of the document's own answers to layer 7 (heap) return. -/
import Derived.Test.YtcngcibiibchiaaGreatRows7
import Derived.Test.YtcngcibiibchiaaGreatRunsRef2
import Derived.Test.YtcngcibiibchiaaGreatPlain7
namespace Go.Proofs.YtcngcibiibchiaaGreat
open Go.RowKit
set_option linter.unusedVariables false

/-- A span's cells. -/
def scells (y : Int × Int × Int × Int) : List Value := [iv y.1, iv y.2.1, iv y.2.2.1, iv y.2.2.2]
theorem scells_len : ∀ y, (scells y).length = 4 := fun _ => rfl
/-- The slice value '.slice A n c' has the spans l. -/
def Sn (w : World) (B : Nat) (A : Option Addr) (n : Nat) (l : List (Int × Int × Int × Int)) : Prop := RowOf (fun cs y => cs = scells y) 4 w B A n l
theorem Sn.span {w : World} {B n : Nat} {A : Option Addr} {l : List (Int × Int × Int × Int)} {j : Nat} (h : Sn w B A n l) (hj : j < n) :
    ∃ b off i s k o, A = some ⟨b, off, none⟩ ∧ l[j]? = some (i, s, k, o) ∧ w.cell? ⟨b, off + j * 4, none⟩ = some (.int .i64 i) ∧ w.cell? ⟨b, off + j * 4 + 1, none⟩ = some (.int .i64 s) ∧ w.cell? ⟨b, off + j * 4 + 2, none⟩ = some (.int .i64 k) ∧ w.cell? ⟨b, off + j * 4 + 3, none⟩ = some (.int .i64 o) := by
  obtain ⟨b, off, y, cs, e, _, hy, _, hc, rfl⟩ := RowOf.at_ h hj
  exact ⟨b, off, y.1, y.2.1, y.2.2.1, y.2.2.2, e, hy, hc 0 (by omega), hc 1 (by omega), hc 2 (by omega), hc 3 (by omega)⟩

theorem info_span : (Tryz.prog.info? 43).map (fun i => (i.zero, i.size, i.bytes)) = some (some (.agg #[.int .i64 0, .int .i64 0, .int .i64 0, .int .i64 0]), 4, 32) := by kernel_rfl

/-- The value of a heap. -/
def hval (p : Int) (A : Option Addr) (n c : Nat) (A2 : Option Addr) (n2 c2 : Nat) (last : Int) : Value := .agg #[.int .i64 p, .slice A n c, .slice A2 n2 c2, .int .i64 last]

theorem ref_hfind (p last : Int) (A A2 : Option Addr) (n c n2 c2 : Nat) (l : List (Int × Int × Int × Int)) (id : Int) (w : World) (hs : Sn w w.heap.size A2 n2 l) (hn : n2 ≤ 65536) :
    Calls Tryz.prog 13 #[.agg #[.int .i64 p, .slice A n c, .slice A2 n2 c2, .int .i64 last], .int .i64 id] w fun e w' => e = .returned (.int .i64 (hFind l id)) ∧ Below w.heap.size w w' := by
  have l1 : l.length = n2 := hs.1
  have L1 := hidb l1
  obtain ⟨W, hW⟩ : ∃ W, W = w.alloc (.cells #[.int .i64 p, .slice A n c, .slice A2 n2 c2, .int .i64 last] 31) := ⟨_, rfl⟩
  have HS : Hid (Sn W w.heap.size A2 n2 l) := hidb (by rw [hW]; exact RowOf.alloc hs (Nat.le_refl _) _)
  have HB : Hid (Below w.heap.size w W) := hidb (by rw [hW]; exact (Below.refl _ _).alloc (Nat.le_refl _) _)
  have q2 : W.cell? ⟨w.heap.size, 2, none⟩ = some (.slice A2 n2 c2) := by rw [hW]; simp
  have HW := hidb hW
  clear hs hW l1
  go_enter Tryz.func13, Tryz.ntmps13
  go_wp2
  rw [← HW.out]
  go_loop [9] (fun k => ∃ j : Nat, j ≤ n2 ∧ Hid (∀ i, i < j → ∀ y, l[i]? = some y → (y.1 == id) = false) ∧ k = .int .i64 j) (fun k => (n2 - intOf k).toNat)
  case atStart => exact ⟨0, by omega, hidb (fun i h => absurd h (Nat.not_lt_zero _)), rfl⟩
  case round =>
    obtain ⟨j, hj, HA, rfl⟩ := hrel
    by_cases hlt : j < n2
    · obtain ⟨b, off, i, s, k, o, rfl, hx, hc, _, _, _⟩ := HS.out.span hlt
      have hi0 : (0 : Int) ≤ (j : Int) := by omega
      have hi1 : (j : Int) < (n2 : Int) := by omega
      cases he : (i == id) with
      | true =>
        have E : Hid (hFind l id = (j : Int)) := hidb (by
          unfold hFind
          rw [findIdx_first (fun s => s.1 == id) l j HA.out (fun y hy => by rw [hx] at hy; injection hy with hy; subst hy; exact he) (by rw [L1.out]; exact hlt)]; rfl)
        clear hx
        go_wp2
        go_ret
        exact ⟨by rw [E.out]; rfl, HB.out⟩
      | false =>
        have H2 : Hid (∀ i', i' < j + 1 → ∀ y, l[i']? = some y → (y.1 == id) = false) := hidb (fun i' h y hy => by
          by_cases h3 : i' = j
          · subst h3; rw [hx] at hy; injection hy with hy; subst hy; exact he
          · exact HA.out i' (by omega) y hy)
        clear hx
        go_wp2
        go_round
        case rel => exact ⟨j + 1, by omega, H2, by go_num⟩
        case measure => simp [intOf]; omega
    · have E : Hid (hFind l id = -1) := hidb (by
        unfold hFind
        rw [findIdx_none (fun s => s.1 == id) l (fun i y hy => HA.out i (by have := (List.getElem?_eq_some_iff.1 hy).1; have := L1.out; omega) y hy)]; rfl)
      go_wp2
      go_ret
      exact ⟨by rw [E.out]; rfl, HB.out⟩

theorem neq_span (a b c d a2 b2 c2 d2 : Int) (W : World) : (binOp .neq 43 (.agg #[.int .i64 a, .int .i64 b, .int .i64 c, .int .i64 d]) (.agg #[.int .i64 a2, .int .i64 b2, .int .i64 c2, .int .i64 d2])).run Tryz.prog W = .ok (.bool (!(decide ((a, b, c, d) = (a2, b2, c2, d2))))) W := by
  simp [go_sem]
  by_cases h1 : a = a2 <;> by_cases h2 : b = b2 <;> by_cases h3 : c = c2 <;> by_cases h4 : d = d2 <;> simp [h1, h2, h3, h4]

theorem ref_hat (p last : Int) (A A2 : Option Addr) (n c n2 c2 : Nat) (l : List (Int × Int × Int × Int)) (at' : Int) (w : World) (hs : Sn w w.heap.size A2 n2 l) (hn : n2 ≤ 65536) (h0 : -9223372036854775808 ≤ at') (h1 : at' ≤ 9223372036854775807)
    (hl : ∀ y ∈ l, 0 ≤ y.2.1 ∧ y.2.1 ≤ 65536 ∧ 0 ≤ y.2.2.1 ∧ y.2.2.1 ≤ 65536) :
    Calls Tryz.prog 15 #[.agg #[.int .i64 p, .slice A n c, .slice A2 n2 c2, .int .i64 last], .int .i64 at'] w fun e w' => e = .returned (.int .i64 (hAt l at')) ∧ Below w.heap.size w w' := by
  have l1 : l.length = n2 := hs.1
  have L1 := hidb l1
  have HLL := hidb hl
  clear hl
  obtain ⟨W, hW⟩ : ∃ W, W = w.alloc (.cells #[.int .i64 p, .slice A n c, .slice A2 n2 c2, .int .i64 last] 31) := ⟨_, rfl⟩
  have HS : Hid (Sn W w.heap.size A2 n2 l) := hidb (by rw [hW]; exact RowOf.alloc hs (Nat.le_refl _) _)
  have HB : Hid (Below w.heap.size w W) := hidb (by rw [hW]; exact (Below.refl _ _).alloc (Nat.le_refl _) _)
  have q2 : W.cell? ⟨w.heap.size, 2, none⟩ = some (.slice A2 n2 c2) := by rw [hW]; simp
  have HW := hidb hW
  clear hs hW l1
  by_cases hneg : at' < 0
  · have E : Hid (hAt l at' = -1) := hidb (by unfold hAt; rw [if_pos hneg])
    rw [E.out]
    go_enter Tryz.func15, Tryz.ntmps15
    go_wp2
    rw [← HW.out]
    go_ret
    exact ⟨rfl, HB.out⟩
  · have hpos : 0 ≤ at' := by omega
    have E0 : Hid (hAt l at' = idxInt (l.findIdx? (inSpan at'))) := hidb (by unfold hAt; rw [if_neg hneg])
    clear hneg
    go_enter Tryz.func15, Tryz.ntmps15
    go_wp2
    rw [← HW.out]
    go_loopw [11] (fun k wr => ∃ j q : Nat, j ≤ n2 ∧ Hid (∀ i, i < j → ∀ y, l[i]? = some y → inSpan at' y = false) ∧ k = .int .i64 j ∧ wr = W.drewN q) (fun k _ => (n2 - intOf k).toNat)
    case atStart => exact ⟨0, 0, by omega, hidb (fun i h => absurd h (Nat.not_lt_zero _)), rfl, rfl⟩
    case round =>
      obtain ⟨j, q, hj, HA, rfl, rfl⟩ := hrel
      by_cases hlt : j < n2
      · obtain ⟨b, off, i, s, k, o, rfl, hx, hc0, hc1, hc2, hc3⟩ := HS.out.span hlt
        have hmem := HLL.out _ (List.mem_of_getElem? hx)
        obtain ⟨m1, m2, m3, m4⟩ := hmem
        simp only at m1 m2 m3 m4
        have hi0 : (0 : Int) ≤ (j : Int) := by omega
        have hi1 : (j : Int) < (n2 : Int) := by omega
        by_cases hsp : s ≤ at' / 64 ∧ at' / 64 < s + k
        · have E : Hid (hAt l at' = (j : Int)) := hidb (by
            rw [E0.out, findIdx_first (inSpan at') l j HA.out (fun y hy => by rw [hx] at hy; injection hy with hy; subst hy; exact decide_eq_true hsp) (by rw [L1.out]; exact hlt)]; rfl)
          have hd1 : decide (s ≤ at' / 64) = true := decide_eq_true hsp.1
          have hd2 : decide (at' / 64 < s + k) = true := decide_eq_true hsp.2
          obtain ⟨hs1, hs2⟩ := hsp
          clear hx
          go_wp2
          go_quiet (fail)
          go_wp2
          go_ret
          exact ⟨by rw [E.out]; rfl, ⟨HB.out.os, HB.out.tape, HB.out.output, HB.out.size, HB.out.block⟩⟩
        · have H2 : Hid (∀ i', i' < j + 1 → ∀ y, l[i']? = some y → inSpan at' y = false) := hidb (fun i' h y hy => by
            by_cases h3 : i' = j
            · subst h3; rw [hx] at hy; injection hy with hy; subst hy; exact decide_eq_false hsp
            · exact HA.out i' (by omega) y hy)
          clear hx
          by_cases hs1 : s ≤ at' / 64
          · have hd1 : decide (s ≤ at' / 64) = true := decide_eq_true hs1
            have hs2 : s + k ≤ at' / 64 := by omega
            have hd2 : decide (at' / 64 < s + k) = false := decide_eq_false (by omega)
            clear hsp
            go_wp2
            go_quiet (fail)
            go_wp2
            go_roundw
            case rel => exact ⟨j + 1, _, by omega, H2, by go_num, rfl⟩
            case measure => simp [intOf]; omega
          · have hd1 : decide (s ≤ at' / 64) = false := decide_eq_false hs1
            have hs2 : at' / 64 < s := by omega
            clear hsp hs1
            go_wp2
            go_quiet (fail)
            go_wp2
            go_roundw
            case rel => exact ⟨j + 1, _, by omega, H2, by go_num, rfl⟩
            case measure => simp [intOf]; omega
      · have E : Hid (hAt l at' = -1) := hidb (by
          rw [E0.out, findIdx_none (inSpan at') l (fun i y hy => HA.out i (by have := (List.getElem?_eq_some_iff.1 hy).1; have := L1.out; omega) y hy)]; rfl)
        go_wp2
        go_ret
        exact ⟨by rw [E.out]; rfl, ⟨HB.out.os, HB.out.tape, HB.out.output, HB.out.size, HB.out.block⟩⟩

theorem ref_hsame (A A2 : Option Addr) (n c m d : Nat) (xs ys : List (Int × Int × Int × Int)) (w : World) (B B2 : Nat) (hs : Sn w B A n xs) (hs2 : Sn w B2 A2 m ys) (hn : n ≤ 9223372036854775806) (hm : m ≤ 9223372036854775806) :
    Calls Tryz.prog 16 #[.slice A n c, .slice A2 m d] w fun e w' => e = .returned (.bool (decide (xs = ys))) ∧ ∃ q, w' = w.drewN q := by
  have l1 : xs.length = n := hs.1
  have l2 : ys.length = m := hs2.1
  by_cases hnm : n = m
  · subst hnm
    have L1 := hidb l1
    have L2 := hidb l2
    have HS := hidb hs
    have HS2 := hidb hs2
    clear hs hs2 l1 l2
    go_enter Tryz.func16, Tryz.ntmps16
    go_wp2
    go_loopw [13] (fun k wr => ∃ j q : Nat, j ≤ n ∧ Hid (∀ i, i < j → xs[i]? = ys[i]?) ∧ k = .int .i64 j ∧ wr = w.drewN q) (fun k _ => (n - intOf k).toNat)
    case atStart => exact ⟨0, 0, by omega, hidb (fun i h => absurd h (Nat.not_lt_zero _)), rfl, rfl⟩
    case round =>
      obtain ⟨j, q, hj, HA, rfl, rfl⟩ := hrel
      by_cases hlt : j < n
      · obtain ⟨b, off, a1, a2, a3, a4, rfl, hx, ha1, ha2, ha3, ha4⟩ := HS.out.span hlt
        obtain ⟨b2, off2, e1, e2, e3, e4, rfl, hy, he1, he2, he3, he4⟩ := HS2.out.span hlt
        have HX := hidb hx
        have HY := hidb hy
        clear hx hy
        have hi0 : (0 : Int) ≤ (j : Int) := by omega
        have hi1 : (j : Int) < (n : Int) := by omega
        have hq := fun W => neq_span a1 a2 a3 a4 e1 e2 e3 e4 W
        cases hc : decide ((a1, a2, a3, a4) = (e1, e2, e3, e4)) with
        | true =>
          rw [hc] at hq
          have HC := hidb (of_decide_eq_true hc)
          clear hc
          go_wp2
          go_quiet (fail)
          go_wp2
          go_roundw
          case rel =>
            refine ⟨j + 1, _, by omega, hidb (fun i hi => ?_), by go_num, rfl⟩
            by_cases h : i = j
            · subst h; rw [HX.out, HY.out, HC.out]
            · exact HA.out i (by omega)
          case measure => simp [intOf]; omega
        | false =>
          rw [hc] at hq
          have HF : Hid (decide (xs = ys) = false) := hidb (decide_eq_false (fun h => of_decide_eq_false hc (by have := HX.out; rw [h, HY.out] at this; injection this with this; exact this.symm)))
          clear hc
          go_wp2
          go_quiet (fail)
          go_wp2
          go_ret
          exact ⟨by rw [HF.out]; rfl, _, World.drewN_drewN _ _ _⟩
      · have HF : Hid (decide (xs = ys) = true) := hidb (decide_eq_true (List.ext_getElem? (fun i => by
          by_cases h : i < n
          · exact HA.out i (by omega)
          · rw [List.getElem?_eq_none (by rw [L1.out]; omega), List.getElem?_eq_none (by rw [L2.out]; omega)])))
        go_wp2
        go_ret
        exact ⟨by rw [HF.out]; rfl, _, rfl⟩
  · have HF : Hid (decide (xs = ys) = false) := hidb (decide_eq_false (fun h => hnm (by rw [← l1, ← l2, h])))
    have eb : ((n : Int) != (m : Int)) = true := by simp; omega
    clear hs hs2 l1 l2
    go_enter Tryz.func16, Tryz.ntmps16
    go_wp2
    go_ret
    exact ⟨by rw [HF.out]; rfl, 0, rfl⟩

end Go.Proofs.YtcngcibiibchiaaGreat
