/- What Find, At, Same and Spans of the document's own answers to layer 7 (heap) return. -/
import Derived.Test.YtdobmdhhgponpaaRows7
import Derived.Test.YtdobmdhhgponpaaRunsRef2
import Derived.Test.YtdobmdhhgponpaaPlain7
namespace Go.Proofs.Ytdobmdhhgponpaa
open Go.RowKit
set_option linter.unusedVariables false

/-- A span's cells. -/
def scells (y : Int × Int × Int × Int) : List Value := [iv y.1, iv y.2.1, iv y.2.2.1, iv y.2.2.2]
theorem scells_len : ∀ y, (scells y).length = 4 := fun _ => rfl
/-- The slice value '.slice A n c' has the spans l. -/
def Sn (w : World) (B : Nat) (A : Option Addr) (n : Nat) (l : List (Int × Int × Int × Int)) : Prop := RowOf (fun cs y => cs = scells y) 4 w B A n l
theorem Sn.span {w : World} {B n : Nat} {A : Option Addr} {l : List (Int × Int × Int × Int)} {j : Nat} (h : Sn w B A n l) (hj : j < n) :
    ∃ b off i s k o, A = some ⟨b, off, none⟩ ∧ l[j]? = some (i, s, k, o) ∧ w.cell? ⟨b, off + j * 4, none⟩ = some (.int .i64 i) ∧ w.cell? ⟨b, off + j * 4 + 1, none⟩ = some (.int .i64 s) ∧ w.cell? ⟨b, off + j * 4 + 2, none⟩ = some (.int .i64 k) ∧ w.cell? ⟨b, off + j * 4 + 3, none⟩ = some (.int .i64 o) := by
  obtain ⟨b, off, y, cs, e, _, hy, _, hc, rfl⟩ := RowOf.at_ h hj
  exact ⟨b, off, y.1, y.2.1, y.2.2.1, y.2.2.2, e, hy, hc 0 (by omega), hc 1 (by omega), hc 2 (by omega), hc 3 (by omega)⟩

theorem info_span : (Try.prog.info? 35).map (fun i => (i.zero, i.size, i.bytes)) = some (some (.agg #[.int .i64 0, .int .i64 0, .int .i64 0, .int .i64 0]), 4, 32) := by kernel_rfl

/-- The value of a heap. -/
def hval (p : Int) (A : Option Addr) (n c : Nat) (A2 : Option Addr) (n2 c2 : Nat) (last : Int) : Value := .agg #[.int .i64 p, .slice A n c, .slice A2 n2 c2, .int .i64 last]

theorem neq_span (a b c d a2 b2 c2 d2 : Int) (W : World) : (binOp .neq 35 (.agg #[.int .i64 a, .int .i64 b, .int .i64 c, .int .i64 d]) (.agg #[.int .i64 a2, .int .i64 b2, .int .i64 c2, .int .i64 d2])).run Try.prog W = .ok (.bool (!(decide ((a, b, c, d) = (a2, b2, c2, d2))))) W := by
  simp [go_sem]
  by_cases h1 : a = a2 <;> by_cases h2 : b = b2 <;> by_cases h3 : c = c2 <;> by_cases h4 : d = d2 <;> simp [h1, h2, h3, h4]

theorem ref_hsame (A A2 : Option Addr) (n c m d : Nat) (xs ys : List (Int × Int × Int × Int)) (w : World) (B B2 : Nat) (hs : Sn w B A n xs) (hs2 : Sn w B2 A2 m ys) (hn : n ≤ 9223372036854775806) (hm : m ≤ 9223372036854775806) :
    Calls Try.prog 14 #[.slice A n c, .slice A2 m d] w fun e w' => e = .returned (.bool (decide (xs = ys))) ∧ ∃ q, w' = w.drewN q := by
  have l1 : xs.length = n := hs.1
  have l2 : ys.length = m := hs2.1
  by_cases hnm : n = m
  · subst hnm
    have L1 := hidb l1
    have L2 := hidb l2
    have HS := hidb hs
    have HS2 := hidb hs2
    clear hs hs2 l1 l2
    go_enter Try.func14, Try.ntmps14
    go_wp2
    go_loopw [13] (fun k wr => ∃ j q : Nat, j ≤ n ∧ Hid (∀ i, i < j → xs[i]? = ys[i]?) ∧ k = .int .i64 j ∧ wr = w.drewN q) (fun k _ => (n - intOf k).toNat)
    case atStart => exact ⟨0, 0, by omega, hidb (fun i h => absurd h (Nat.not_lt_zero _)), rfl, rfl⟩
    case round =>
      obtain ⟨j, q, hj, HA, rfl, rfl⟩ := hrel
      by_cases hlt : j < n
      · obtain ⟨b, off, a1, a2, a3, a4, rfl, hx, ha1, ha2, ha3, ha4⟩ := HS.out.span hlt
        obtain ⟨b2, off2, e1, e2, e3, e4, rfl, hy, he1, he2, he3, he4⟩ := HS2.out.span hlt
        have HX := hidb hx
        have HY := hidb hy
        clear hx hy
        have hi0 : (0 : Int) ≤ (j : Int) := by omega
        have hi1 : (j : Int) < (n : Int) := by omega
        have hq := fun W => neq_span a1 a2 a3 a4 e1 e2 e3 e4 W
        cases hc : decide ((a1, a2, a3, a4) = (e1, e2, e3, e4)) with
        | true =>
          rw [hc] at hq
          have HC := hidb (of_decide_eq_true hc)
          clear hc
          go_wp2
          go_quiet (fail)
          go_wp2
          go_roundw
          case rel =>
            refine ⟨j + 1, _, by omega, hidb (fun i hi => ?_), by go_num, rfl⟩
            by_cases h : i = j
            · subst h; rw [HX.out, HY.out, HC.out]
            · exact HA.out i (by omega)
          case measure => simp [intOf]; omega
        | false =>
          rw [hc] at hq
          have HF : Hid (decide (xs = ys) = false) := hidb (decide_eq_false (fun h => of_decide_eq_false hc (by have := HX.out; rw [h, HY.out] at this; injection this with this; exact this.symm)))
          clear hc
          go_wp2
          go_quiet (fail)
          go_wp2
          go_ret
          exact ⟨by rw [HF.out]; rfl, _, World.drewN_drewN _ _ _⟩
      · have HF : Hid (decide (xs = ys) = true) := hidb (decide_eq_true (List.ext_getElem? (fun i => by
          by_cases h : i < n
          · exact HA.out i (by omega)
          · rw [List.getElem?_eq_none (by rw [L1.out]; omega), List.getElem?_eq_none (by rw [L2.out]; omega)])))
        go_wp2
        go_ret
        exact ⟨by rw [HF.out]; rfl, _, rfl⟩
  · have HF : Hid (decide (xs = ys) = false) := hidb (decide_eq_false (fun h => hnm (by rw [← l1, ← l2, h])))
    have eb : ((n : Int) != (m : Int)) = true := by simp; omega
    clear hs hs2 l1 l2
    go_enter Try.func14, Try.ntmps14
    go_wp2
    go_ret
    exact ⟨by rw [HF.out]; rfl, 0, rfl⟩

end Go.Proofs.Ytdobmdhhgponpaa
