/- Whether all runs are there, and what ask of layer 5 (index) throws. -/
import Derived.Test.YtoghahldlnhpdaaIndexCode
namespace Go.Proofs.Ytoghahldlnhpdaa
open Go.RowKit
set_option linter.unusedVariables false

/-- A bool that a call answers, with memory of its own. -/
def ResBool (w : World) (b : Bool) (e : Ending) (w' : World) : Prop := e = .returned (.bool b) ∧ Below w.heap.size w w'

theorem code_xin {v : Value} {n : Nat} (r : Int × Int) (w : World) (hp : PagesAt w v n) (hn : n ≤ 1024) (hr : in64 r.1 ∧ in64 r.2) :
    Calls Try.prog 31 #[v, .agg #[.int .i64 r.1, .int .i64 r.2]] w (ResBool w (xThere n r)) := by
  obtain ⟨s, l⟩ := r
  obtain ⟨⟨s0, s1⟩, l0, l1⟩ := hr
  simp only at s0 s1 l0 l1 ⊢
  have hb : Below w.heap.size w (w.alloc (.cells #[.int .i64 s, .int .i64 l] 44)) := (Below.refl _ _).alloc (Nat.le_refl _) _
  have cq := fun q => (hp.below hb).quiet q
  have FIN : Hid (∀ q b, b = xThere n (s, l) → ResBool w (xThere n (s, l)) (.returned (.bool b)) ((w.alloc (.cells #[.int .i64 s, .int .i64 l] 44)).drewN q)) := hidb (fun q b h => by subst h; exact ⟨rfl, belowN hb q⟩)
  clear hb hp
  by_cases h1 : 0 ≤ s
  · have d1 : decide (0 ≤ s) = true := decide_eq_true h1
    by_cases h2 : 1 ≤ l
    · have d2 : decide (1 ≤ l) = true := decide_eq_true h2
      have hw : IntKind.i64.wrap ((n : Int) - s) = (n : Int) - s := IntWalk.i64_in _ (by omega)
      go_enter Try.func31, Try.ntmps31
      go_wp2
      go_quiet ((go_at_call 16; exact cq _))
      go_wp2
      go_ret
      exact FIN.out _ _ (by unfold xThere; rw [Bool.eq_iff_iff, decide_eq_true_iff, decide_eq_true_iff]; simp only; omega)
    · have d2 : decide (1 ≤ l) = false := decide_eq_false h2
      clear cq
      go_enter Try.func31, Try.ntmps31
      go_wp2
      go_quiet (fail)
      go_wp2
      go_ret
      exact FIN.out _ _ (by unfold xThere; exact (decide_eq_false (fun h => absurd h.1 (by simp only; omega))).symm)
  · have d1 : decide (0 ≤ s) = false := decide_eq_false h1
    clear cq
    go_enter Try.func31, Try.ntmps31
    go_wp2
    go_quiet (fail)
    go_wp2
    go_ret
    exact FIN.out _ _ (by unfold xThere; exact (decide_eq_false (fun h => absurd h.2.1 (by simp only; omega))).symm)

theorem code_xask1 {v : Value} {n t : Nat} (r : Int × Int) (w : World) (hc : w.cell? ⟨t, 0, none⟩ = some v) (hp : PagesAt w v n) (hn : n ≤ 1024) (hr : in64 r.1 ∧ in64 r.2) :
    Calls Try.prog 30 #[.agg #[.int .i64 r.1, .int .i64 r.2], .pointer (some ⟨t, 0, none⟩)] w (ResBool w (!xThere n r)) := by
  have ht := lt_of_cell hc
  have hb : Below w.heap.size w (w.alloc (.cells #[.int .i64 r.1, .int .i64 r.2] 44)) := (Below.refl _ _).alloc (Nat.le_refl _) _
  have hc' : (w.alloc (.cells #[.int .i64 r.1, .int .i64 r.2] 44)).cell? ⟨t, 0, none⟩ = some v := by rw [World.cell?_alloc_lt _ _ _ ht]; exact hc
  have c1 := code_xin r _ (hp.below hb) hn hr
  have HB := hidb hb
  obtain ⟨s, l⟩ := r
  clear hp hb hc ht
  cases hT : xThere n (s, l)
  all_goals
    rw [hT] at c1
    clear hT
    unfold ResBool at c1
    go_enter Try.func30, Try.ntmps30
    go_wp2_with (go_at_call 31; (with_reducible refine c1.mono ?_); rintro e w1 ⟨rfl, hb1⟩)
    go_ret
    exact ⟨rfl, nextB HB.out hb1⟩

/-- The place of the first run that isn't there; -1, if all are. -/
def ResPlace (w : World) (b : Bool) (e : Ending) (w' : World) : Prop := (∃ r : Int, e = .returned (.int .i64 r) ∧ -1 ≤ r ∧ r ≤ 9223372036854775807 ∧ decide (0 ≤ r) = b) ∧ Below w.heap.size w w'

theorem code_xidx {v : Value} {n t : Nat} (A : Option Addr) (m c : Nat) (rs : List (Int × Int)) (w : World) (hc : w.cell? ⟨t, 0, none⟩ = some v) (hp : PagesAt w v n) (hn : n ≤ 1024)
    (hs : Rn w w.heap.size A m rs) (hm : m ≤ 65536) (hr : ∀ r ∈ rs, in64 r.1 ∧ in64 r.2) :
    Calls Try.prog 32 #[.slice A m c, .func (.func 30) #[] #[.pointer (some ⟨t, 0, none⟩)]] w (ResPlace w (!rs.all (xThere n))) := by
  have HL := hidb hs.1
  have HS := hidb hs
  have HP := hidb hp
  have HR := hidb hr
  have HC := hidb hc
  have HT := hidb (lt_of_cell hc)
  clear hs hp hr hc
  go_enter Try.func32, Try.ntmps32
  go_wp2
  go_loopw [8] (fun k wr => ∃ j : Nat, j ≤ m ∧ Hid (∀ i r, i < j → rs[i]? = some r → xThere n r = true) ∧ k = .int .i64 j ∧ Below w.heap.size w wr) (fun k _ => (m - intOf k).toNat)
  case atStart => exact ⟨0, by omega, hidb (fun i r h => absurd h (Nat.not_lt_zero _)), rfl, Below.refl _ _⟩
  case round =>
    obtain ⟨j, hj, HA, rfl, hbel⟩ := hrel
    by_cases hlt : j < m
    · obtain ⟨b, off, s, l, rfl, _, hx, hc1, hc2⟩ := (HS.out.below hbel).at_ hlt
      have hin := HR.out (s, l) (List.mem_of_getElem? hx)
      have c1 := code_xask1 (t := t) (s, l) wr ((hbel.cell HT.out).trans HC.out) (HP.out.below hbel) hn hin
      have HX := hidb hx
      have HB := hidb hbel
      have hj0 : (0 : Int) ≤ (j : Int) := by omega
      have hj1 : (j : Int) < (m : Int) := by omega
      clear hx hin hbel
      cases hT : xThere n (s, l) with
      | true =>
        rw [hT] at c1
        unfold ResBool at c1
        have HA2 : Hid (∀ i r, i < j + 1 → rs[i]? = some r → xThere n r = true) := hidb (fun i r hi hir => by
          by_cases h : i = j
          · subst h; rw [HX.out] at hir; injection hir with hir; rw [← hir]; exact hT
          · exact HA.out i r (by omega) hir)
        clear hT
        go_wp2_with (go_at_call 30; (with_reducible refine c1.mono ?_); rintro e w1 ⟨rfl, hb1⟩)
        go_roundw
        case rel => exact ⟨j + 1, by omega, HA2, by go_num, nextB HB.out hb1⟩
        case measure => simp [intOf]; omega
      | false =>
        rw [hT] at c1
        unfold ResBool at c1
        have HF : Hid (rs.all (xThere n) = false) := hidb (by
          rw [List.all_eq_false]
          exact ⟨(s, l), List.mem_of_getElem? HX.out, by rw [hT]; simp⟩)
        clear hT
        go_wp2_with (go_at_call 30; (with_reducible refine c1.mono ?_); rintro e w1 ⟨rfl, hb1⟩)
        go_ret
        exact ⟨⟨j, rfl, by omega, by omega, by rw [HF.out]; exact decide_eq_true (by omega)⟩, nextB HB.out hb1⟩
    · have HF : Hid (rs.all (xThere n) = true) := hidb (List.all_eq_true.2 fun r hr => by
        obtain ⟨i, hi, rfl⟩ := List.getElem_of_mem hr
        exact HA.out i _ (by have := HL.out; omega) (List.getElem?_eq_getElem hi))
      have HB := hidb hbel
      clear hbel
      go_wp2
      go_ret
      exact ⟨⟨-1, rfl, by omega, by omega, by rw [HF.out]; rfl⟩, HB.out⟩

theorem code_xhas {v : Value} {n t : Nat} (A : Option Addr) (m c : Nat) (rs : List (Int × Int)) (w : World) (hc : w.cell? ⟨t, 0, none⟩ = some v) (hp : PagesAt w v n) (hn : n ≤ 1024)
    (hs : Rn w w.heap.size A m rs) (hm : m ≤ 65536) (hr : ∀ r ∈ rs, in64 r.1 ∧ in64 r.2) :
    Calls Try.prog 29 #[.slice A m c, .func (.func 30) #[] #[.pointer (some ⟨t, 0, none⟩)]] w (ResBool w (!rs.all (xThere n))) := by
  have c1 := code_xidx (t := t) A m c rs w hc hp hn hs hm hr
  unfold ResPlace at c1
  clear hc hp hs hr
  go_enter Try.func29, Try.ntmps29
  go_wp2_with (go_at_call 32; (with_reducible refine c1.mono ?_); rintro e w1 ⟨⟨r, rfl, h1, h2, h3⟩, hb1⟩)
  go_ret
  exact ⟨rfl, hb1⟩

/-- What is thrown where pages aren't there, stand otherwise, or the number is none. -/
def thrown (T : TypeId) : PanicEntry := { v := .iface T (.agg #[]), recovered := false }

/-- A question on one page, of the pages that were asked before: what holds in the world, and which block it may write. -/
structure Asks (k : FuncId) (caps : Array Value) (n G : Nat) (ok : List Nat → Nat → Bool) (I : List Nat → World → Prop) (W0 : World) : Prop where
  call : ∀ d p W, I d W → p < n → Calls Try.prog k (#[.int .i64 (p : Int)] ++ caps) W fun e w' => e = .returned (.bool (ok d p)) ∧ W.grownBy w' (some G) ∧ I (d ++ [p]) w'
  keep : ∀ d W W', I d W → Below W.heap.size W W' → I d W'
  base : ∀ d W, I d W → Below W0.heap.size W0 W

end Go.Proofs.Ytoghahldlnhpdaa
