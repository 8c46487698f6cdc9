/- What each function of the document's own answers to layer 8 (chain) returns. -/
import Derived.Test.YtcngcibiibchiaaRowWords
import Derived.Test.YtcngcibiibchiaaIntsRef
import Derived.Test.YtcngcibiibchiaaChainMath
import Derived.Test.YtcngcibiibchiaaRows7
namespace Go.Proofs.Ytcngcibiibchiaa
open Go.RowKit
set_option linter.unusedVariables false

/-- A chain's addresses, and whether it is right. -/
def ResChain (w : World) (r : Option (List Int)) (e : Ending) (w' : World) : Prop :=
  ∃ A n c out, e = .returned (.tuple #[.slice A n c, .bool r.isSome]) ∧ Sl w' w'.heap.size A n (out.map iv) ∧ (∀ l, r = some l → out = l) ∧ Below w.heap.size w w' ∧ ∀ a, A = some a → 0 < n → w.heap.size ≤ a.block

set_option maxRecDepth 100000 in
theorem ref_clist (A : Option Addr) (n c : Nat) (ws : List Nat) (h0 len : Int) (w : World) (hs : Sl w w.heap.size A n (ws.map wv)) (hn : n ≤ 65536) (hh : in64 h0) (hl : in64 len) :
    Calls Try.prog 17 #[.slice A n c, .agg #[.int .i64 h0, .int .i64 len]] w (ResChain w (cList ws (h0, len))) := by
  obtain ⟨i0, hi, hz0, hz1, hz2⟩ := info_parts info_int
  have l1 : ws.length = n := by have := hs.1; simpa using this
  obtain ⟨W0, hW0⟩ : ∃ W0, W0 = w.alloc (.cells #[.int .i64 h0, .int .i64 len] 23) := ⟨_, rfl⟩
  obtain ⟨R, hR⟩ : ∃ R, cList ws (h0, len) = R := ⟨_, rfl⟩
  rw [hR]
  have hz : W0.heap.size = w.heap.size + 1 := by rw [hW0]; simp
  have HB0 : Hid (Below w.heap.size w W0) := hidb (by rw [hW0]; exact (Below.refl _ _).alloc (Nat.le_refl _) _)
  have q0 : W0.cell? ⟨w.heap.size, 0, none⟩ = some (.int .i64 h0) := by rw [hW0]; simp
  have q1 : W0.cell? ⟨w.heap.size, 1, none⟩ = some (.int .i64 len) := by rw [hW0]; simp
  have HQ : Hid (∀ W, Below W0.heap.size W0 W → W.cell? ⟨w.heap.size, 1, none⟩ = some (.int .i64 len)) := hidb (fun W hb => by
    rw [hb.cell (p := ⟨w.heap.size, 1, none⟩) (by show w.heap.size < _; omega)]; exact q1)
  have HS0 : Hid (∀ W, Below W0.heap.size W0 W → Sl W w.heap.size A n (ws.map wv)) := hidb (fun W hb => hs.below (HB0.out.trans (hb.mono HB0.out.size)))
  have HW0 := hidb hW0
  have HFIN : Hid (∀ W (A' : Option Addr) (m c' : Nat) (out : List Int) (b : Bool), Below W0.heap.size W0 W → Sl W W.heap.size A' m (out.map iv) → R.isSome = b → (∀ l, R = some l → out = l) → (∀ a, A' = some a → 0 < m → w.heap.size ≤ a.block) → ResChain w R (.returned (.tuple #[.slice A' m c', .bool b])) W) := hidb (fun W A' m c' out b hb h1 h2 h3 h4 => by
    subst h2
    exact ⟨A', m, c', out, rfl, h1, h3, HB0.out.trans (hb.mono HB0.out.size), h4⟩)
  have hl0 := hl.1
  have hl1 := hl.2
  have hh0 := hh.1
  have hh1 := hh.2
  have L1 := hidb l1
  have HR := hidb hR
  clear hs l1 hR q0 q1 hh hl
  go_enter Try.func17, Try.ntmps17
  go_wp2
  rw [← hW0, ← hz]
  have hzz : w.heap.size < W0.heap.size := by omega
  clear hW0 hz
  go_loopw [6, 7] (fun ov hv wr => ∃ (h : Int) (out : List Int) (A2 : Option Addr) (m c2 : Nat), hv = .int .i64 h ∧ ov = .slice A2 m c2 ∧ -9223372036854775808 ≤ h ∧ h ≤ 9223372036854775807 ∧ m ≤ len.toNat ∧ Hid (out.length = m ∧ out.Nodup ∧ ∀ x ∈ out, 0 ≤ x ∧ x < (ws.length : Int)) ∧ Hid (wr.ownsRow W0.heap.size 3 1 (.slice A2 m c2) m (out.map iv)) ∧ Hid (cGo ws len (len.toNat + 1 - m) h out = R) ∧ Hid (Below W0.heap.size W0 wr)) (fun ov _ _ => len.toNat - lenOf ov)
  case atStart => exact ⟨h0, [], _, 0, 0, rfl, rfl, hh0, hh1, Nat.zero_le _, hidb ⟨rfl, List.nodup_nil, fun x hx => by cases hx⟩, hidb (ownsRow_empty W0 _), hidb HR.out, hidb ((Below.refl _ _).alloc (Nat.le_refl _) _)⟩
  case round =>
    obtain ⟨h, out, A2, m, c2, rfl, rfl, hh0, hh1, hm, HO, HOWN, HG, HB⟩ := hrel
    have hsl := Sl.of_own HOWN.out
    have q1 := HQ.out _ HB.out
    have hno : HO.out.1 = HO.out.1 := rfl
    have hm2 : m ≤ 65536 := by
      have h1 := nodup_le ws.length out HO.out.2.1 HO.out.2.2
      have h2 := HO.out.1
      have h3 := L1.out
      omega
    by_cases g0 : h = 0
    · subst g0
      obtain ⟨b, hb⟩ : ∃ b, ((m : Int) == len) = b := ⟨_, rfl⟩
      have P : Hid (∀ W, Below wr.heap.size wr W → ResChain w R (.returned (.tuple #[.slice A2 m c2, .bool b])) W) := hidb (fun W hW => by
        have h1 := HG.out
        rw [show len.toNat + 1 - m = (len.toNat - m) + 1 by omega, cGo_zero, HO.out.1] at h1
        refine HFIN.out W A2 m c2 out b (HB.out.trans (hW.mono HB.out.size)) ((hsl.below hW).more hW.size) ?_ ?_ (fun a e _ => by
          subst e
          exact Nat.le_trans HB0.out.size (HOWN.out.lt a.block rfl).1)
        · rw [← h1, ← hb]
          by_cases e : (m : Int) = len
          · rw [if_pos e]; simp [e]
          · rw [if_neg e]; simp [e]
        · intro l e
          rw [← h1] at e
          split at e
          · exact Option.some.inj e
          · cases e)
      clear hsl HOWN
      go_wp2
      go_quiet (fail)
      go_wp2
      go_ret2
      first | exact P.out _ (Below.refl _ _).drew | exact P.out _ (belowN (Below.refl _ _) _)
    · have hg : decide (h ≠ 0) = true := decide_eq_true g0
      have hnz : (h == 0) = false := by simpa using g0
      have cin := fun v W (hb : Below wr.heap.size wr W) => ref_bin A2 m c2 out v W W.heap.size ((hsl.below hb).more hb.size) (by omega)
      have BAD : Hid (h < 0 ∨ (ws.length : Int) < h ∨ (h - 1) ∈ out ∨ len ≤ (out.length : Int) → R = none) := hidb (fun hb => by
        rw [← HG.out, show len.toNat + 1 - m = (len.toNat - m) + 1 by omega, cGo_bad _ _ _ _ _ g0 hb])
      have HNO : Hid (R = none → ∀ W W', Below wr.heap.size wr W → W' = W.alloc (.cells #[] 3) → ResChain w R (.returned (.tuple #[.slice (some ⟨W.heap.size, 0, none⟩) 0 0, .bool false])) W') := hidb (fun e W W' hW eW => by
        subst eW
        exact HFIN.out _ _ 0 0 [] false ((HB.out.trans (hW.mono HB.out.size)).alloc (Nat.le_trans HB.out.size hW.size) _) Sl.nil_ (by rw [e]; rfl) (fun l h => by rw [e] at h; cases h) (fun a _ h => absurd h (by omega)))
      by_cases g1 : h < 0
      · have e := BAD.out (Or.inl g1)
        have HE := hidb e
        clear e hsl HOWN
        go_wp2
        go_ret2
        exact HNO.out HE.out _ _ (Below.refl _ _) rfl
      have hp : 0 < h := by omega
      have hp1 : 1 ≤ h := by omega
      by_cases g2 : (n : Int) < h
      · have e := BAD.out (Or.inr (Or.inl (by rw [L1.out]; exact g2)))
        have HE := hidb e
        clear e hsl HOWN
        go_wp2
        go_ret2
        exact HNO.out HE.out _ _ (Below.refl _ _) rfl
      have hw1 : IntKind.i64.wrap (h - 1) = h - 1 := IntWalk.i64_in _ (by omega)
      by_cases g3 : (h - 1) ∈ out
      · have e := BAD.out (Or.inr (Or.inr (Or.inl g3)))
        have HE := hidb e
        have ci := cin (h - 1) wr (Below.refl _ _)
        rw [decide_eq_true g3] at ci
        clear e hsl HOWN g3
        go_wp2_with (first | (go_at_call 23; (with_reducible refine ci.mono ?_); rintro e w' ⟨rfl, rfl⟩))
        go_ret2
        exact HNO.out HE.out _ _ (Below.refl _ _) rfl
      by_cases g4 : len ≤ (m : Int)
      · have e := BAD.out (Or.inr (Or.inr (Or.inr (by rw [HO.out.1]; exact g4))))
        have HE := hidb e
        have ci := cin (h - 1) wr (Below.refl _ _)
        rw [decide_eq_false g3] at ci
        clear e hsl HOWN g3
        go_wp2_with (first | (go_at_call 23; (with_reducible refine ci.mono ?_); rintro e w' ⟨rfl, rfl⟩))
        go_ret2
        exact HNO.out HE.out _ _ (Below.refl _ _) rfl
      obtain ⟨b, off, x, hA, hx, hcell⟩ := (HS0.out _ HB.out).word (j := h.toNat - 1) (by omega)
      have ci := cin (h - 1) wr (Below.refl _ _)
      rw [decide_eq_false g3] at ci
      have hx' : ws[(h - 1).toNat]? = some x := by rw [show (h - 1).toNat = h.toNat - 1 by omega]; exact hx
      have hsz := HB.out.size
      have hown := HOWN.out
      have HC : Hid (∀ W, Below W0.heap.size W0 W → W.cell? ⟨b, off + (h.toNat - 1), none⟩ = some (.int .u64 (x : Int))) := hidb (fun W hb => by
        obtain ⟨b2, off2, x2, hA2, hx2, hc2⟩ := (HS0.out W hb).word (j := h.toNat - 1) (by omega)
        rw [hA] at hA2
        obtain ⟨rfl, rfl⟩ : b = b2 ∧ off = off2 := by simpa using hA2
        obtain rfl : x = x2 := by rw [hx] at hx2; exact Option.some.inj hx2
        exact hc2)
      have G1 : Hid (¬ (h < 0 ∨ (ws.length : Int) < h ∨ (h - 1) ∈ out ∨ len ≤ (out.length : Int))) := hidb (by
        rw [L1.out, HO.out.1]; simp only [not_or]; exact ⟨g1, g2, g3, g4⟩)
      subst hA
      by_cases g5 : n < x
      · have HE : Hid (R = none) := hidb (by
          rw [← HG.out, show len.toNat + 1 - m = (len.toNat - m) + 1 by omega, cGo_far _ _ _ _ _ _ g0 hx' (by rw [L1.out]; exact g5)])
        clear hsl HOWN g3 hx hx'
        go_wp2_with (first
          | (go_at_call 23; (with_reducible refine ci.mono ?_); rintro e w' ⟨rfl, rfl⟩)
          | (at_builtin; refine wpList_append_one wr rfl _ _ 32 rfl W0.heap.size 3 i0 (.int .i64 0) 8 Try.underlying32 hi hz0 hz1 hz2 rfl _ _ _ rfl (by exact hown) hsz (.int .i64 (h - 1)) rfl _ rfl (by unfold maxLen; omega) (by omega) ?_; intro v1 w1 hown1 hb1; obtain ⟨A3, c3, rfl⟩ := own_form hown1; have hc1 := HC.out _ (HB.out.trans hb1); have q2 := HQ.out _ (HB.out.trans hb1); have HO1 := hidb hown1; have HB1 := hidb (HB.out.trans hb1); clear hown1 hb1))
        go_ret2
        exact HFIN.out _ _ 0 0 [] false (HB1.out.alloc (by have := HB1.out.size; omega) _) Sl.nil_ (by rw [HE.out]; rfl) (fun l h => by rw [HE.out] at h; cases h) (fun a _ h => absurd h (by omega))
      · have HG2 : Hid (cGo ws len (len.toNat + 1 - (m + 1)) (x : Int) (out ++ [h - 1]) = R) := hidb (by
          rw [← HG.out, show len.toNat + 1 - m = (len.toNat - m) + 1 by omega, cGo_next _ _ _ _ _ _ g0 G1.out hx' (by rw [L1.out]; exact g5)]
          congr 1; omega)
        have HO2 : Hid ((out ++ [h - 1]).length = m + 1 ∧ (out ++ [h - 1]).Nodup ∧ ∀ y ∈ out ++ [h - 1], 0 ≤ y ∧ y < (ws.length : Int)) := hidb ⟨by rw [List.length_append, HO.out.1]; rfl, List.nodup_append.2 ⟨HO.out.2.1, by simp, fun a ha b hb' => by
            obtain rfl := List.mem_singleton.1 hb'
            exact fun e => g3 (e ▸ ha)⟩, fun y hy => by
          rcases List.mem_append.1 hy with hy | hy
          · exact HO.out.2.2 y hy
          · obtain rfl := List.mem_singleton.1 hy
            have := L1.out
            omega⟩
        clear hsl HOWN g3 hx hx'
        go_wp2_with (first
          | (go_at_call 23; (with_reducible refine ci.mono ?_); rintro e w' ⟨rfl, rfl⟩)
          | (at_builtin; refine wpList_append_one wr rfl _ _ 32 rfl W0.heap.size 3 i0 (.int .i64 0) 8 Try.underlying32 hi hz0 hz1 hz2 rfl _ _ _ rfl (by exact hown) hsz (.int .i64 (h - 1)) rfl _ rfl (by unfold maxLen; omega) (by omega) ?_; intro v1 w1 hown1 hb1; obtain ⟨A3, c3, rfl⟩ := own_form hown1; have hc1 := HC.out _ (HB.out.trans hb1); have q2 := HQ.out _ (HB.out.trans hb1); have HO1 := hidb hown1; have HB1 := hidb (HB.out.trans hb1); clear hown1 hb1))
        go_roundw
        case rel => exact ⟨x, out ++ [h - 1], _, m + 1, _, rfl, rfl, by omega, by omega, by omega, HO2, hidb (by rw [List.map_append]; exact HO1.out), HG2, HB1⟩
        case measure => simp [lenOf]; omega

end Go.Proofs.Ytcngcibiibchiaa
