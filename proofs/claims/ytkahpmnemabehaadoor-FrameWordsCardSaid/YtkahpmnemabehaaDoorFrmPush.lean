/- What word and Push of layer 14 (frame) return, and which words they leave. -/
import Derived.Test.YtkahpmnemabehaaDoorFrmMath
namespace Go.Proofs.YtkahpmnemabehaaDoor
open Go.RowKit
set_option linter.unusedVariables false

/-- The words of a frame that is laid. -/
def frRow (n : Nat) (f link : Int) : List Nat := (link + 1).toNat :: (f + 1).toNat :: List.replicate (n - 2) 0
theorem frRow_length (n : Nat) (hn : 2 ≤ n) (f link : Int) : (frRow n f link).length = n := by unfold frRow; simp; omega
/-- The words behind it, the base, the error's number. -/
def frPush (xs : List Nat) (l : Fns) (lo sp f link : Int) : List Nat × Int × Int :=
  if fWords l f < 0 ∨ link < -1 ∨ (xs.length : Int) ≤ link then (xs, 0, 1)
  else if lo < 0 ∨ (xs.length : Int) < sp ∨ sp < lo ∨ sp - lo < fWords l f then (xs, 0, 2)
  else (aStore xs (sp - fWords l f).toNat (frRow (fWords l f).toNat f link), sp - fWords l f, 0)

theorem code_frword (n : Int) (h0 : -1 ≤ n) (h1 : n ≤ 1099511627776) (w : World) :
    Calls Tryd.prog 31 #[.int .i64 n] w fun e w' => e = .returned (.int .u64 ((n + 1).toNat : Nat)) ∧ w = w' := by
  have e1 : IntKind.u64.wrap n = if n = -1 then 18446744073709551615 else n := by
    simp [IntKind.wrap, IntKind.bits, IntKind.signed]
    split <;> omega
  have E : Hid (IntKind.u64.wrap (IntKind.u64.wrap n + 1) = ((n + 1).toNat : Nat)) := hidb (by
    rw [e1]
    simp [IntKind.wrap, IntKind.bits, IntKind.signed]
    split <;> omega)
  clear e1
  go_enter Tryd.func31, Tryd.ntmps31
  go_wp2
  go_ret
  exact ⟨congrArg Ending.returned (congrArg (Value.int .u64) E.out), rfl⟩

/-- A row of the call's own whose first two words are written. -/
theorem row_two {w : World} {base g n c : Nat} {ys : List Nat} {u v : Nat} (h : w.ownsRow base 49 1 (.slice (some ⟨g, 0, none⟩) n c) n ((0 :: 0 :: ys).map wv)) :
    (((w.setCell ⟨g, 0, none⟩ (.int .u64 (u : Int))).setCell ⟨g, 1, none⟩ (.int .u64 (v : Int))).ownsRow base 49 1 (.slice (some ⟨g, 0, none⟩) n c) n ((u :: v :: ys).map wv)) := by
  have h1 := (h.stored 0 (wv u)).1
  have h2 := (World.ownsRow.stored h1 1 (wv v)).1
  exact h2

set_option maxRecDepth 100000 in
set_option maxHeartbeats 2000000 in
theorem code_frpush {w : World} {B p g len : Nat} {xs : List Nat} {lo' hi : Nat} {tp : Option Addr} {l : Fns} (ha : Ar w B p g len xs) (ht : TbO w lo' hi tp l) (hhi : hi ≤ w.heap.size) (hl : ∀ x ∈ l, 0 ≤ x.1 ∧ x.1 ≤ 1000) (lo sp f link : Int) (h1 : in64 lo) (h2 : in64 sp) (h3 : in64 link) :
    Calls Tryd.prog 18 #[.pointer (some ⟨p, 0, none⟩), .pointer tp, .int .i64 lo, .int .i64 sp, .int .i64 f, .int .i64 link] w fun e w' => e = .returned (.tuple #[.int .i64 (frPush xs l lo sp f link).2.1, .int .i64 (frPush xs l lo sp f link).2.2]) ∧ Ar w' B p g len (frPush xs l lo sp f link).1 ∧ w.grownBy w' (some g) := by
  have hlen := ha.hlen
  have hsm := ha.small
  have cw := code_fwordsT ht hhi f hl
  have hr := fWords_cases l hl f
  have hfew := ht.few
  have HA : Hid (∀ W, Below w.heap.size w W → Ar W B p g len xs) := hidb (fun W hb => ha.below hb (Nat.le_refl _))
  have ca := fun W (hb : Below w.heap.size w W) => code_awords p _ _ _ W (HA.out W hb).cell
  obtain ⟨i0, hi, hz0, hz1, hz2⟩ := info_parts info_u64
  unfold frPush
  rw [hlen]
  generalize fWords l f = n at *
  by_cases a1 : n < 0
  · rw [if_pos (Or.inl a1)]
    clear hr ht hl
    go_enter Tryd.func18, Tryd.ntmps18
    go_wp2_with (go_at_call 27; (with_reducible refine cw.mono ?_); rintro e w1 ⟨rfl, hb1⟩)
    go_ret2
    exact ⟨rfl, HA.out _ hb1, below_to_grown hb1 _⟩
  by_cases a2 : link < -1
  · rw [if_pos (Or.inr (Or.inl a2))]
    clear hr ht hl
    go_enter Tryd.func18, Tryd.ntmps18
    go_wp2_with (go_at_call 27; (with_reducible refine cw.mono ?_); rintro e w1 ⟨rfl, hb1⟩)
    go_ret2
    exact ⟨rfl, HA.out _ hb1, below_to_grown hb1 _⟩
  by_cases a3 : (len : Int) ≤ link
  · rw [if_pos (Or.inr (Or.inr a3))]
    clear hr ht hl
    go_enter Tryd.func18, Tryd.ntmps18
    go_wp2_with (first
      | (go_at_call 27; (with_reducible refine cw.mono ?_); rintro e w1 ⟨rfl, hb1⟩; have c1 := ca w1 hb1)
      | (go_at_call 25; (with_reducible refine c1.mono ?_); rintro e w' ⟨rfl, rfl⟩))
    go_ret2
    exact ⟨rfl, HA.out _ hb1, below_to_grown hb1 _⟩
  rw [if_neg (by omega)]
  by_cases b1 : lo < 0
  · rw [if_pos (Or.inl b1)]
    clear hr ht hl
    go_enter Tryd.func18, Tryd.ntmps18
    go_wp2_with (first
      | (go_at_call 27; (with_reducible refine cw.mono ?_); rintro e w1 ⟨rfl, hb1⟩; have c1 := ca w1 hb1)
      | (go_at_call 25; (with_reducible refine c1.mono ?_); rintro e w' ⟨rfl, rfl⟩))
    go_ret2
    exact ⟨rfl, HA.out _ hb1, below_to_grown hb1 _⟩
  by_cases b2 : (len : Int) < sp
  · rw [if_pos (Or.inr (Or.inl b2))]
    clear hr ht hl
    go_enter Tryd.func18, Tryd.ntmps18
    go_wp2_with (first
      | (go_at_call 27; (with_reducible refine cw.mono ?_); rintro e w1 ⟨rfl, hb1⟩; have c1 := ca w1 hb1)
      | (go_at_call 25; (with_reducible refine c1.mono ?_); rintro e w' ⟨rfl, rfl⟩))
    go_ret2
    exact ⟨rfl, HA.out _ hb1, below_to_grown hb1 _⟩
  by_cases b3 : sp < lo
  · rw [if_pos (Or.inr (Or.inr (Or.inl b3)))]
    clear hr ht hl
    go_enter Tryd.func18, Tryd.ntmps18
    go_wp2_with (first
      | (go_at_call 27; (with_reducible refine cw.mono ?_); rintro e w1 ⟨rfl, hb1⟩; have c1 := ca w1 hb1)
      | (go_at_call 25; (with_reducible refine c1.mono ?_); rintro e w' ⟨rfl, rfl⟩))
    go_ret2
    exact ⟨rfl, HA.out _ hb1, below_to_grown hb1 _⟩
  have hw : wrap64 (sp - lo) = sp - lo := by unfold wrap64; omega
  by_cases b4 : sp - lo < n
  · rw [if_pos (Or.inr (Or.inr (Or.inr b4)))]
    clear hr ht hl
    go_enter Tryd.func18, Tryd.ntmps18
    go_wp2_with (first
      | (go_at_call 27; (with_reducible refine cw.mono ?_); rintro e w1 ⟨rfl, hb1⟩; have c1 := ca w1 hb1)
      | (go_at_call 25; (with_reducible refine c1.mono ?_); rintro e w' ⟨rfl, rfl⟩))
    go_ret2
    exact ⟨rfl, HA.out _ hb1, below_to_grown hb1 _⟩
  rw [if_neg (by omega)]
  obtain ⟨m, rfl⟩ : ∃ m : Nat, n = (m : Int) + 2 := ⟨(n - 2).toNat, by omega⟩
  obtain ⟨s, rfl⟩ : ∃ s : Nat, sp = (s : Int) + ((m : Int) + 2) := ⟨(sp - (m + 2)).toNat, by omega⟩
  have hf0 : 0 ≤ f ∧ f < l.length := by omega
  have l1 := fun W => code_frword link (by omega) (by omega) W
  have l2 := fun W => code_frword f (by omega) (by omega) W
  obtain ⟨u, hu⟩ : ∃ u, (link + 1).toNat = u := ⟨_, rfl⟩
  obtain ⟨v, hv⟩ : ∃ v, (f + 1).toNat = v := ⟨_, rfl⟩
  rw [hu] at l1
  rw [hv] at l2
  have HFR : Hid (u :: v :: List.replicate m 0 = frRow (m + 2) f link) := hidb (by unfold frRow; rw [hu, hv]; rfl)
  clear hr ht hl hu hv
  --@1
  go_enter Tryd.func18, Tryd.ntmps18
  go_wp2_with (first
    | (go_at_call 27; (with_reducible refine cw.mono ?_); rintro e w1 ⟨rfl, hb1⟩; have c1 := ca w1 hb1)
    | (go_at_call 25; (with_reducible refine c1.mono ?_); rintro e w' ⟨rfl, rfl⟩)
    | (at_make; refine wpList_make_full w1 rfl _ _ 22 rfl w1.heap.size 49 i0 (.int .u64 0) 1 Tryd.underlying22 hi hz0 hz1 .i64 .i64 _ _ (m + 2) rfl rfl (by omega) (by omega) (by rw [hz2]; omega) (by unfold maxLen; omega) (Nat.le_refl _) ?_; intro w2 hown hgrow))
  rw [zero_words] at hown
  have e2 : List.replicate (m + 2) 0 = 0 :: 0 :: List.replicate m 0 := rfl
  rw [e2] at hown
  have hbw : Below w.heap.size w w2 := belF_tr hb1 ((Below.refl _ _).grown hgrow (Nat.le_refl _) (fun k hk => by cases hk))
  have hg2 : w1.heap.size < w2.heap.size := (hown.lt w1.heap.size rfl).2
  have k0 : w2.cell? ⟨w1.heap.size, 0, none⟩ = some (.int .u64 0) := hown.cellAt 0 (by omega)
  have k1 : w2.cell? ⟨w1.heap.size, 1, none⟩ = some (.int .u64 0) := hown.cellAt 1 (by omega)
  have f0 := hown.frozenAt 0
  have f1 := hown.frozenAt 1
  have hot := row_two (u := u) (v := v) hown
  obtain ⟨W3, hW3⟩ : ∃ W3, W3 = (w2.setCell ⟨w1.heap.size, 0, none⟩ (.int .u64 (u : Int))).setCell ⟨w1.heap.size, 1, none⟩ (.int .u64 (v : Int)) := ⟨_, rfl⟩
  have hb3 : Below w.heap.size w W3 := by rw [hW3]; exact (hbw.setCell (p := ⟨w1.heap.size, 0, none⟩) hb1.size _).setCell (p := ⟨w1.heap.size, 1, none⟩) hb1.size _
  have hfr := HFR.out
  rw [← hW3, hfr] at hot
  have cs := code_astore s (some ⟨w1.heap.size, 0, none⟩) (m + 2) (m + 2) (HA.out _ hb3) (Sl.of_own hot) (by omega)
  rw [hW3] at cs
  have hw2 : wrap64 ((s : Int) + ((m : Int) + 2) - ((m : Int) + 2)) = (s : Int) := by unfold wrap64; omega
  have HE : Hid (aStore xs ((s : Int) + ((m : Int) + 2) - ((m : Int) + 2)).toNat (frRow ((m : Int) + 2).toNat f link) = aStore xs s (frRow (m + 2) f link)) := hidb (by
    rw [show ((s : Int) + ((m : Int) + 2) - ((m : Int) + 2)).toNat = s by omega, show ((m : Int) + 2).toNat = m + 2 by omega])
  have HS : Hid ((s : Int) + ((m : Int) + 2) - ((m : Int) + 2) = (s : Int)) := hidb (by omega)
  have HB3 := hidb hb3
  rw [hW3] at HB3
  clear hown hot hW3 hb3 hfr e2 hgrow
  go_wp2_with (first
    | (go_at_call 31; (with_reducible refine (l1 _).mono ?_); rintro e w' ⟨rfl, rfl⟩)
    | (go_at_call 31; (with_reducible refine (l2 _).mono ?_); rintro e w' ⟨rfl, rfl⟩)
    | (go_at_call 21; (with_reducible refine cs.mono ?_); rintro e w4 ⟨rfl, ha4, hg4⟩))
  go_ret2
  rw [HE.out, HS.out]
  exact ⟨rfl, ha4, grown_trans (below_to_grown HB3.out _) hg4⟩
end Go.Proofs.YtkahpmnemabehaaDoor
