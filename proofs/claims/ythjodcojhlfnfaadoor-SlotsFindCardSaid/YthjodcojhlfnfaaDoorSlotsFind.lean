/- Layer 16's statement SlotsFind. -/
import Derived.Test.YthjodcojhlfnfaaDoorSltLaws
namespace Go.Proofs.YthjodcojhlfnfaaDoor
open Go.RowKit Go.ChangeShapes Go.WideShapes
set_option linter.unusedVariables false

theorem findC_parts (r : Option (Nat × Nat)) : ∃ (z0 z1 : Int) (zb : Bool), findC r = .tuple #[.int .i64 z0, .int .i64 z1, .bool zb] := by
  cases r with
  | none => exact ⟨_, _, _, rfl⟩
  | some x => exact ⟨_, _, _, rfl⟩

set_option maxRecDepth 100000 in
set_option maxHeartbeats 4000000 in
theorem slotsFind_any (A2 : Option Addr) (n2 c2 : Nat) (ys : List FnV) (A : Option Addr) (m c : Nat) (L : List FrV) (d i a : Int) (w : World) (hr : FnRow w 0 w.heap.size A2 n2 ys) (hy : ∀ y ∈ ys, y.n ≤ 17592186044416) (hm2 : n2 ≤ maxLen) (hL : FrRow w w.heap.size A m L) (hm : m ≤ maxLen) (h2 : in64 a) (ht : TabDB w) :
    Calls Tryd.prog 3 #[.slice A2 n2 c2, .slice A m c, .int .i64 d, .int .i64 i, .int .i64 a] w fun e w' => e = .returned (.bool true) ∧ Below w.heap.size w w' := by
  unfold maxLen at hm hm2
  have HT := hidb ht
  have KA := fun W (s : Hid (Below w.heap.size w W)) => (awake16 W (TabDB.below HT.out s.out)).mono fun e w' h => (⟨h.1, hidb (belF_tr s.out h.2)⟩ : e = _ ∧ Hid (Below w.heap.size w w'))
  obtain ⟨b, hb⟩ : ∃ b, gr16 0 (vals ys) m = b := ⟨_, rfl⟩
  have HRX := hidb hr
  have KG : Hid (∀ W A9 c9, Below w.heap.size w W → Calls Tryd.prog 7 #[.slice A9 0 c9, .slice A2 n2 c2, .slice A m c] W fun e w' => e = .returned (.bool b) ∧ W = w') := hidb (fun W A9 c9 hbw => c_great16 ((HRX.out.below hbw).more (Nat.le_refl _) hbw.size) (by omega) b hb)
  cases hT : fTab (vals ys) with
  | false =>
    have kn := t_new_no (c2 := c2) hr hy (by omega) hT
    clear hr hL ht hT hy hb
    cases b with
    | true =>
      --@1
      go_enter Tryd.func3, Tryd.ntmps3
      go_wp2_with (first
        | (go_at_call 6; (with_reducible refine kn.mono ?_); rintro e w1 ⟨rfl, hs1⟩)
        | (go_at_call 7; (with_reducible refine (KG.out _ _ _ (by (repeat (first | with_reducible exact Hid.out (by assumption) | with_reducible apply belF_al)))).mono ?_); rintro e w2 ⟨rfl, rfl⟩)
        | (go_at_call 8; (with_reducible refine (KA _ (hidb (by (repeat (first | with_reducible exact Hid.out (by assumption) | with_reducible apply belF_al))))).mono ?_); rintro e w3 ⟨rfl, hs3⟩))
      go_ret
      exact ⟨rfl, hs3.out⟩
    | false =>
      --@2
      go_enter Tryd.func3, Tryd.ntmps3
      go_wp2_with (first
        | (go_at_call 6; (with_reducible refine kn.mono ?_); rintro e w1 ⟨rfl, hs1⟩)
        | (go_at_call 7; (with_reducible refine (KG.out _ _ _ (by (repeat (first | with_reducible exact Hid.out (by assumption) | with_reducible apply belF_al)))).mono ?_); rintro e w2 ⟨rfl, rfl⟩)
        | (go_at_call 8; (with_reducible refine (KA _ (hidb (by (repeat (first | with_reducible exact Hid.out (by assumption) | with_reducible apply belF_al))))).mono ?_); rintro e w3 ⟨rfl, hs3⟩))
      go_ret
      exact ⟨rfl, hs3.out⟩
  | true =>
    have kn := t_new_yes (c2 := c2) hr hy ht hT
    have hsz := fTab_sizes hT
    have HSZ := hidb hsz
    have HSZ2 := hidb (fOwns_sizes hsz)
    cases b with
    | true =>
      clear hr hL ht hT hy hb
      --@3
      go_enter Tryd.func3, Tryd.ntmps3
      go_wp2_with (first
        | (go_at_call 6; (with_reducible refine kn.mono ?_); rintro e w1 ⟨tb, rfl, hs1⟩; have hw1 := hidb hs1.out.1)
        | (go_at_call 7; (with_reducible refine (KG.out _ _ _ (by (repeat (first | with_reducible exact Hid.out (by assumption) | with_reducible apply belF_al)))).mono ?_); rintro e w2 ⟨rfl, rfl⟩)
        | (go_at_call 8; (with_reducible refine (KA _ (hidb (by (repeat (first | with_reducible exact Hid.out (by assumption) | with_reducible apply belF_al))))).mono ?_); rintro e w3 ⟨rfl, hs3⟩))
      go_ret
      exact ⟨rfl, hs3.out⟩
    | false =>
      have hm40 : m ≤ 40 := by unfold gr16 at hb; simp at hb; omega
      have hn120 : n2 ≤ 100 := by unfold fTab at hT; rw [Bool.and_eq_true, decide_eq_true_iff, vals_length, hr.len] at hT; omega
      obtain ⟨q, hq⟩ : ∃ q, slAdr (vals ys) L d i = q := ⟨_, rfl⟩
      have hq2 : slAdr (fOwns (vals ys)) L d i = q := by rw [← hq]; unfold slAdr; rw [slAddr_owns]
      obtain ⟨u, hu⟩ : ∃ u, slAddr (vals ys) L d i = u := ⟨_, rfl⟩
      obtain ⟨r, hr1⟩ : ∃ r, slFind (vals ys) 0 L a = r := ⟨_, rfl⟩
      have hr2 : slFind (fOwns (vals ys)) 0 L a = r := by rw [slFind_owns]; exact hr1
      obtain ⟨z0, z1, zb, hz⟩ := findC_parts r
      have HL := hidb hL
      have H2 := hidb h2
      have KCA : Hid (∀ W tb, Hid (S13 w W (some ⟨tb, 0, none⟩) (fOwns (vals ys))) → Calls Tryd.prog 9 #[.pointer (some ⟨tb, 0, none⟩), .slice A m c, .int .i64 d, .int .i64 i] W fun e w' => e = .returned (.tuple #[.int .i64 q.1, .int .i64 q.2]) ∧ Hid (S13 w w' (some ⟨tb, 0, none⟩) (fOwns (vals ys)))) := hidb (fun W tb s => by
        obtain ⟨h1, lo, hi, h2, h3, h4⟩ := s.out
        refine (code_sladdr (c := c) h2 h3 HSZ2.out ((HL.out.below h1).more h1.size) (by omega) d i q hq2).mono ?_
        rintro e w1 ⟨rfl, h⟩
        exact ⟨rfl, hidb (s.out.step h)⟩)
      have KCF : Hid (∀ W tb, Hid (S13 w W (some ⟨tb, 0, none⟩) (fOwns (vals ys))) → Calls Tryd.prog 11 #[.pointer (some ⟨tb, 0, none⟩), .slice A m c, .int .i64 a] W fun e w' => e = .returned (.tuple #[.int .i64 z0, .int .i64 z1, .bool zb]) ∧ Hid (S13 w w' (some ⟨tb, 0, none⟩) (fOwns (vals ys)))) := hidb (fun W tb s => by
        obtain ⟨h1, lo, hi, h2, h3, h4⟩ := s.out
        rw [← hz]
        refine (code_slfind (c := c) h2 h3 HSZ2.out ((HL.out.below h1).more h1.size) (by omega) a H2.out r hr2).mono ?_
        rintro e w1 ⟨rfl, h⟩
        exact ⟨rfl, hidb (s.out.step h)⟩)
      have KRA : Hid (∀ W tb, Hid (S13 w W (some ⟨tb, 0, none⟩) (fOwns (vals ys))) → Calls Tryd.prog 10 #[.slice A2 n2 c2, .slice A m c, .int .i64 d, .int .i64 i] W fun e w' => e = .returned (.int .i64 u) ∧ Hid (S13 w w' (some ⟨tb, 0, none⟩) (fOwns (vals ys)))) := hidb (fun W tb s => by
        have h1 := s.out.1
        rw [← hu]
        refine (ref_sladdr (c := c) (c2 := c2) ((HRX.out.below h1).more (Nat.le_refl _) h1.size) (Nat.le_refl _) (by omega) HSZ.out ((HL.out.below h1).more h1.size) (by omega) d i).mono ?_
        rintro e w1 ⟨rfl, h⟩
        exact ⟨rfl, hidb (s.out.step h)⟩)
      have KRF : Hid (∀ W tb, Hid (S13 w W (some ⟨tb, 0, none⟩) (fOwns (vals ys))) → Calls Tryd.prog 12 #[.slice A2 n2 c2, .slice A m c, .int .i64 a] W fun e w' => e = .returned (.tuple #[.int .i64 z0, .int .i64 z1, .bool zb]) ∧ Hid (S13 w w' (some ⟨tb, 0, none⟩) (fOwns (vals ys)))) := hidb (fun W tb s => by
        have h1 := s.out.1
        rw [← hz, ← hr1]
        refine (ref_slfind (c := c) (c2 := c2) ((HRX.out.below h1).more (Nat.le_refl _) h1.size) (Nat.le_refl _) (by omega) HSZ.out ((HL.out.below h1).more h1.size) (by omega) a).mono ?_
        rintro e w1 ⟨rfl, h⟩
        exact ⟨rfl, hidb (s.out.step h)⟩)
      have e0 : (z0 != z0) = false := by simp
      have e1 : (z1 != z1) = false := by simp
      have e2 : (zb != zb) = false := by simp
      unfold slAdr at hq
      rw [hu] at hq
      generalize fOwns (vals ys) = O at *
      clear hr hL ht hT hy hb hu hr1 hr2 hz hq2 h2 hsz
      by_cases hu0 : u < 0
      · rw [if_pos hu0] at hq
        subst hq
        --@4
        go_enter Tryd.func3, Tryd.ntmps3
        go_wp2_with (first
          | (go_at_call 6; (with_reducible refine kn.mono ?_); rintro e w1 ⟨tb, rfl, hs1⟩; have hw1 := hidb hs1.out.1)
          | (go_at_call 7; (with_reducible refine (KG.out _ _ _ (by (repeat (first | with_reducible exact Hid.out (by assumption) | with_reducible apply belF_al)))).mono ?_); rintro e w2 ⟨rfl, rfl⟩)
          | (go_at_call 9; (with_reducible refine (KCA.out _ tb (hidb (by first | exact hs1.out | exact hs1.out.alloc _))).mono ?_); rintro e w3 ⟨rfl, hs3⟩)
          | (go_at_call 10; (with_reducible refine (KRA.out _ tb hs3).mono ?_); rintro e w4 ⟨rfl, hs4⟩)
          | (go_at_call 11; (with_reducible refine (KCF.out _ tb hs4).mono ?_); rintro e w5 ⟨rfl, hs5⟩)
          | (go_at_call 12; (with_reducible refine (KRF.out _ tb hs5).mono ?_); rintro e w6 ⟨rfl, hs6⟩; have hw6 := hidb hs6.out.1)
          | (go_at_call 8; (with_reducible refine (KA _ hw6).mono ?_); rintro e w7 ⟨rfl, hs7⟩))
        go_ret
        exact ⟨rfl, hs7.out⟩
      · rw [if_neg hu0] at hq
        subst hq
        have e3 : (u == u) = true := by simp
        --@5
        go_enter Tryd.func3, Tryd.ntmps3
        go_wp2_with (first
          | (go_at_call 6; (with_reducible refine kn.mono ?_); rintro e w1 ⟨tb, rfl, hs1⟩; have hw1 := hidb hs1.out.1)
          | (go_at_call 7; (with_reducible refine (KG.out _ _ _ (by (repeat (first | with_reducible exact Hid.out (by assumption) | with_reducible apply belF_al)))).mono ?_); rintro e w2 ⟨rfl, rfl⟩)
          | (go_at_call 9; (with_reducible refine (KCA.out _ tb (hidb (by first | exact hs1.out | exact hs1.out.alloc _))).mono ?_); rintro e w3 ⟨rfl, hs3⟩)
          | (go_at_call 10; (with_reducible refine (KRA.out _ tb hs3).mono ?_); rintro e w4 ⟨rfl, hs4⟩)
          | (go_at_call 11; (with_reducible refine (KCF.out _ tb hs4).mono ?_); rintro e w5 ⟨rfl, hs5⟩)
          | (go_at_call 12; (with_reducible refine (KRF.out _ tb hs5).mono ?_); rintro e w6 ⟨rfl, hs6⟩; have hw6 := hidb hs6.out.1)
          | (go_at_call 8; (with_reducible refine (KA _ hw6).mono ?_); rintro e w7 ⟨rfl, hs7⟩))
        go_ret
        exact ⟨rfl, hs7.out⟩
end Go.Proofs.YthjodcojhlfnfaaDoor
