/- Layer 19's statement ModelBack. -/
import Derived.Test.YtdcnpaodcjfdbaaDoorModelRight
namespace Go.Proofs.YtdcnpaodcjfdbaaDoor
open Go.RowKit Go.ChangeShapes Go.WideShapes
set_option linter.unusedVariables false

set_option maxRecDepth 100000 in
set_option maxHeartbeats 8000000 in
theorem modelBack_any (A2 : Option Addr) (n2 c2 : Nat) (ys : List FnV) (A : Option Addr) (n c : Nat) (zs : List AfS) (f i : Int) (v : VlV) (w : World) (hr : FnRow w 0 w.heap.size A2 n2 ys) (hy : ∀ y ∈ ys, y.n ≤ 17592186044416) (hm2 : n2 ≤ maxLen) (hs : AfRow w w.heap.size A n zs) (hn9 : n ≤ maxLen) (hf : in64 f) (hi64 : in64 i) (hv : VIn v) (ht : TabDB w) :
    Calls Tryd.prog 5 #[.slice A2 n2 c2, .slice A n c, .int .i64 f, .int .i64 i, .agg #[.int .u8 (v.kind : Int), .int .u64 (v.bits : Int), .int .i64 v.depth, .int .i64 v.slot]] w fun e w' => e = .returned (.bool true) ∧ Below w.heap.size w w' := by
  unfold maxLen at hn9 hm2
  have HT := hidb ht
  have KA : Hid (∀ W, Hid (Below w.heap.size w W) → Calls Tryd.prog 9 #[] W fun e w' => e = .returned (.bool true) ∧ Hid (Below w.heap.size w w')) := hidb (fun W s => (awake19 W (TabDB.below HT.out s.out)).mono fun e w' h => ⟨h.1, hidb (belF_tr s.out h.2)⟩)
  obtain ⟨X, hX⟩ : ∃ X, X = w.alloc (.cells #[.int .u8 (v.kind : Int), .int .u64 (v.bits : Int), .int .i64 v.depth, .int .i64 v.slot] 26) := ⟨_, rfl⟩
  have hbX : Below w.heap.size w X := by rw [hX]; exact belF_al (Below.refl _ _) _
  have HX := hidb hX
  have HBX := hidb hbX
  have HC : Hid (∀ W, Below X.heap.size X W → W.cell? ⟨w.heap.size, 0, none⟩ = some (.int .u8 (v.kind : Int)) ∧ W.cell? ⟨w.heap.size, 1, none⟩ = some (.int .u64 (v.bits : Int)) ∧ W.cell? ⟨w.heap.size, 2, none⟩ = some (.int .i64 v.depth) ∧ W.cell? ⟨w.heap.size, 3, none⟩ = some (.int .i64 v.slot)) := hidb (fun W hb => by
    have hz : X.heap.size = w.heap.size + 1 := by rw [hX]; simp
    have e : ∀ k, W.cell? ⟨w.heap.size, k, none⟩ = X.cell? ⟨w.heap.size, k, none⟩ := fun k => hb.cell (by show w.heap.size < _; omega)
    refine ⟨?_, ?_, ?_, ?_⟩ <;> (rw [e, hX]; simp))
  have hrX : FnRow X 0 X.heap.size A2 n2 ys := (hr.below hbX).more (Nat.le_refl _) hbX.size
  have HG1 : Hid (∀ W, Below w.heap.size w W → Calls Tryd.prog 7 #[.slice A2 n2 c2] W fun e w' => e = .returned (.bool (fGreat (vals ys))) ∧ W = w') := hidb (fun W hb => ref_fgreat A2 n2 c2 ys _ _ W (hr.below hb) (by omega))
  have HG2 : Hid (∀ W, Below w.heap.size w W → Calls Tryd.prog 8 #[.slice A n c] W fun e w' => e = .returned (.bool (mdGreat (afvals zs))) ∧ W = w') := hidb (fun W hb => ref_mdgreat (hs.below hb) (by omega))
  cases hT : fTab (vals ys) with
  | false =>
    have kn := t_new_no (c2 := c2) hrX hy (by omega) hT
    cases hG1 : fGreat (vals ys) with
    | true =>
      rw [hG1] at HG1
      clear hr hs ht hT hG1 hy hX hbX hrX HG2
      --@1
      go_enter Tryd.func5, Tryd.ntmps5
      go_wp2_with (first
        | (go_at_call 6; rw [← HX.out]; (with_reducible refine kn.mono ?_); rintro e w1 ⟨rfl, hs1⟩; have hw1 := hidb (belF_tr HBX.out hs1.out))
        | (go_at_call 7; (with_reducible refine (HG1.out _ hw1.out).mono ?_); rintro e w2 ⟨rfl, rfl⟩)
        | (go_at_call 8; (with_reducible refine (HG2.out _ hw1.out).mono ?_); rintro e w2 ⟨rfl, rfl⟩)
        | (go_at_call 9; (with_reducible refine (KA.out _ hw1).mono ?_); rintro e w4 ⟨rfl, hs4⟩))
      go_ret
      exact ⟨rfl, hs4.out⟩
    | false =>
      rw [hG1] at HG1
      cases hG2 : mdGreat (afvals zs) with
      | true =>
        rw [hG2] at HG2
        clear hr hs ht hT hG1 hG2 hy hX hbX hrX
        --@2
        go_enter Tryd.func5, Tryd.ntmps5
        go_wp2_with (first
          | (go_at_call 6; rw [← HX.out]; (with_reducible refine kn.mono ?_); rintro e w1 ⟨rfl, hs1⟩; have hw1 := hidb (belF_tr HBX.out hs1.out))
          | (go_at_call 7; (with_reducible refine (HG1.out _ hw1.out).mono ?_); rintro e w2 ⟨rfl, rfl⟩)
          | (go_at_call 8; (with_reducible refine (HG2.out _ hw1.out).mono ?_); rintro e w2 ⟨rfl, rfl⟩)
          | (go_at_call 9; (with_reducible refine (KA.out _ hw1).mono ?_); rintro e w4 ⟨rfl, hs4⟩))
        go_ret
        exact ⟨rfl, hs4.out⟩
      | false =>
        rw [hG2] at HG2
        by_cases h29 : 29 < n
        · have g29 : (29 : Int) < (n : Int) := by omega
          clear hr hs ht hT hG1 hG2 hy hX hbX hrX h29
          --@3
          go_enter Tryd.func5, Tryd.ntmps5
          go_wp2_with (first
            | (go_at_call 6; rw [← HX.out]; (with_reducible refine kn.mono ?_); rintro e w1 ⟨rfl, hs1⟩; have hw1 := hidb (belF_tr HBX.out hs1.out))
            | (go_at_call 7; (with_reducible refine (HG1.out _ hw1.out).mono ?_); rintro e w2 ⟨rfl, rfl⟩)
            | (go_at_call 8; (with_reducible refine (HG2.out _ hw1.out).mono ?_); rintro e w2 ⟨rfl, rfl⟩)
            | (go_at_call 9; (with_reducible refine (KA.out _ hw1).mono ?_); rintro e w4 ⟨rfl, hs4⟩))
          go_ret
          exact ⟨rfl, hs4.out⟩
        · have g29 : ¬ ((29 : Int) < (n : Int)) := by omega
          clear hr hs ht hT hG1 hG2 hy hX hbX hrX h29
          --@4
          go_enter Tryd.func5, Tryd.ntmps5
          go_wp2_with (first
            | (go_at_call 6; rw [← HX.out]; (with_reducible refine kn.mono ?_); rintro e w1 ⟨rfl, hs1⟩; have hw1 := hidb (belF_tr HBX.out hs1.out))
            | (go_at_call 7; (with_reducible refine (HG1.out _ hw1.out).mono ?_); rintro e w2 ⟨rfl, rfl⟩)
            | (go_at_call 8; (with_reducible refine (HG2.out _ hw1.out).mono ?_); rintro e w2 ⟨rfl, rfl⟩)
            | (go_at_call 9; (with_reducible refine (KA.out _ hw1).mono ?_); rintro e w4 ⟨rfl, hs4⟩))
          go_ret
          exact ⟨rfl, hs4.out⟩
  | true =>
    have kn := t_new_yes (c2 := c2) hrX hy (TabDB.below ht hbX) hT
    cases hG1 : fGreat (vals ys) with
    | true =>
      rw [hG1] at HG1
      clear hr hs ht hT hG1 hy hX hbX hrX HG2
      --@5
      go_enter Tryd.func5, Tryd.ntmps5
      go_wp2_with (first
        | (go_at_call 6; rw [← HX.out]; (with_reducible refine kn.mono ?_); rintro e w1 ⟨tb, rfl, hs1⟩; have hw1 := hidb (belF_tr HBX.out hs1.out.1); have HS1 := hidb (S13.base HBX.out hs1.out); have HX1 := hidb hs1.out.1)
        | (go_at_call 7; (with_reducible refine (HG1.out _ hw1.out).mono ?_); rintro e w2 ⟨rfl, rfl⟩)
        | (go_at_call 8; (with_reducible refine (HG2.out _ hw1.out).mono ?_); rintro e w2 ⟨rfl, rfl⟩)
        | (go_at_call 9; (with_reducible refine (KA.out _ hw1).mono ?_); rintro e w4 ⟨rfl, hs4⟩))
      go_ret
      exact ⟨rfl, hs4.out⟩
    | false =>
      rw [hG1] at HG1
      cases hG2 : mdGreat (afvals zs) with
      | true =>
        rw [hG2] at HG2
        clear hr hs ht hT hG1 hG2 hy hX hbX hrX
        --@6
        go_enter Tryd.func5, Tryd.ntmps5
        go_wp2_with (first
          | (go_at_call 6; rw [← HX.out]; (with_reducible refine kn.mono ?_); rintro e w1 ⟨tb, rfl, hs1⟩; have hw1 := hidb (belF_tr HBX.out hs1.out.1); have HS1 := hidb (S13.base HBX.out hs1.out); have HX1 := hidb hs1.out.1)
          | (go_at_call 7; (with_reducible refine (HG1.out _ hw1.out).mono ?_); rintro e w2 ⟨rfl, rfl⟩)
          | (go_at_call 8; (with_reducible refine (HG2.out _ hw1.out).mono ?_); rintro e w2 ⟨rfl, rfl⟩)
          | (go_at_call 9; (with_reducible refine (KA.out _ hw1).mono ?_); rintro e w4 ⟨rfl, hs4⟩))
        go_ret
        exact ⟨rfl, hs4.out⟩
      | false =>
        rw [hG2] at HG2
        by_cases h29 : 29 < n
        · have g29 : (29 : Int) < (n : Int) := by omega
          clear hr hs ht hT hG1 hG2 hy hX hbX hrX h29
          --@7
          go_enter Tryd.func5, Tryd.ntmps5
          go_wp2_with (first
            | (go_at_call 6; rw [← HX.out]; (with_reducible refine kn.mono ?_); rintro e w1 ⟨tb, rfl, hs1⟩; have hw1 := hidb (belF_tr HBX.out hs1.out.1); have HS1 := hidb (S13.base HBX.out hs1.out); have HX1 := hidb hs1.out.1)
            | (go_at_call 7; (with_reducible refine (HG1.out _ hw1.out).mono ?_); rintro e w2 ⟨rfl, rfl⟩)
            | (go_at_call 8; (with_reducible refine (HG2.out _ hw1.out).mono ?_); rintro e w2 ⟨rfl, rfl⟩)
            | (go_at_call 9; (with_reducible refine (KA.out _ hw1).mono ?_); rintro e w4 ⟨rfl, hs4⟩))
          go_ret
          exact ⟨rfl, hs4.out⟩
        · have g29 : ¬ ((29 : Int) < (n : Int)) := by omega
          obtain ⟨k1, k2⟩ := mdGreat_in hG2
          have hln := hs.len
          rw [afvals_length, hln] at k1
          have hR19 : R19 w A2 n2 ys A n zs := ⟨hr, hs, k1, k2, hT⟩
          have hsz := fTab_sizes hT
          have hall := fTab_all hT
          have KR : Hid (∀ W tb, Hid (S13 w W (some ⟨tb, 0, none⟩) (fOwns (vals ys))) → Calls Tryd.prog 10 #[.slice A2 n2 c2, .slice A n c] W fun e w' => e = .returned (.bool (mdRight (vals ys) (afvals zs))) ∧ Hid (S13 w w' (some ⟨tb, 0, none⟩) (fOwns (vals ys))) ∧ Hid (Below W.heap.size W w')) := hidb (fun W tb s => (ref_mdright (c := c) (c2 := c2) (hs.step s.out.1) (by omega) (hr.below s.out.1) s.out.1.size hR19.fn9 hsz).mono fun e w' ⟨h1, h2⟩ => ⟨h1, hidb (s.out.step h2), hidb h2⟩)
          cases hR : mdRight (vals ys) (afvals zs) with
          | false =>
            rw [hR] at KR
            clear hr hs ht hT hG1 hG2 hy hX hbX hrX h29 hR hR19 k1 k2 hsz hall
            --@8
            go_enter Tryd.func5, Tryd.ntmps5
            go_wp2_with (first
              | (go_at_call 6; rw [← HX.out]; (with_reducible refine kn.mono ?_); rintro e w1 ⟨tb, rfl, hs1⟩; have hw1 := hidb (belF_tr HBX.out hs1.out.1); have HS1 := hidb (S13.base HBX.out hs1.out); have HX1 := hidb hs1.out.1)
              | (go_at_call 7; (with_reducible refine (HG1.out _ hw1.out).mono ?_); rintro e w2 ⟨rfl, rfl⟩)
              | (go_at_call 8; (with_reducible refine (HG2.out _ hw1.out).mono ?_); rintro e w2 ⟨rfl, rfl⟩)
              | (go_at_call 10; (with_reducible refine (KR.out _ tb HS1).mono ?_); rintro e w3 ⟨rfl, hs3, hx3⟩; have hw3 := hidb hs3.out.1)
              | (go_at_call 9; (with_reducible refine (KA.out _ hw3).mono ?_); rintro e w4 ⟨rfl, hs4⟩))
            go_ret
            exact ⟨rfl, hs4.out⟩
          | true =>
            rw [hR] at KR
            obtain ⟨M, hM⟩ : ∃ M, mdCall (vals ys) (afvals zs) f = M := ⟨_, rfl⟩
            have KC0 : Hid (∀ W tb, Hid (S13 w W (some ⟨tb, 0, none⟩) (fOwns (vals ys))) → Calls Tryd.prog 14 #[.pointer (some ⟨tb, 0, none⟩), .slice A n c, .int .i64 f] W fun e w' => ∃ B m b us, e = .returned (.tuple #[.slice B m b, .int .i64 M.2]) ∧ Hid ((S13 w w' (some ⟨tb, 0, none⟩) (fOwns (vals ys)) ∧ Below W.heap.size W w') ∧ AfRow w' w'.heap.size B m us ∧ afvals us = M.1)) := hidb (fun W tb s => by
              obtain ⟨h1, lo, hi, h2, h3, h4⟩ := s.out
              have hd := code_mdcall (c := c) h2 h3 (hs.step h1) (by omega) (fun x hx => by have := k2 x hx; omega) (fOwns_sizes hsz) f hf
              rw [mdCall_owns hall, hM] at hd
              refine hd.mono fun e w' ⟨B, m, b, us, q1, q2, q3, q4, q5, q6⟩ => ⟨B, m, b, us, q1, hidb ⟨⟨s.out.step q6, q6⟩, q2, q3⟩⟩)
            have KSM : Hid (∀ W tb B m b us, S13 w W (some ⟨tb, 0, none⟩) (fOwns (vals ys)) → AfRow W W.heap.size B m us → m ≤ 100 → Calls Tryd.prog 12 #[.slice B m b, .slice A n c] W fun e w' => e = .returned (.bool (decide (afvals us = afvals zs))) ∧ Hid (S13 w w' (some ⟨tb, 0, none⟩) (fOwns (vals ys)))) := hidb (fun W tb B m b us s hu hm => t_refsame s hu (hs.step s.1) (by omega) (by omega))
            have hcr := mdCall_right hR f
            rw [hM] at hcr
            by_cases hno : M.2 = 0
            · obtain ⟨ML, no⟩ := M
              simp only at hno hcr KC0
              subst hno
              have hsize := mdWant_size hsz (L := afvals zs) (fun x hx => by have := k2 x hx; omega) ⟨0, f, 0, 0, vl0, 0, 0, none, 0, 0, []⟩
              have hw0 : (mdWant (vals ys) (afvals zs) ⟨0, f, 0, 0, vl0, 0, 0, none, 0, 0, []⟩).1 = ML := by unfold mdWant; simp [hM]
              rw [hw0, afvals_length, hln] at hsize
              have KC : Hid (∀ W tb, Hid (S13 w W (some ⟨tb, 0, none⟩) (fOwns (vals ys))) → Below X.heap.size X W → Calls Tryd.prog 14 #[.pointer (some ⟨tb, 0, none⟩), .slice A n c, .int .i64 f] W fun e w' => ∃ B m b us, e = .returned (.tuple #[.slice B m b, .int .i64 (0)]) ∧ Hid ((S13 w w' (some ⟨tb, 0, none⟩) (fOwns (vals ys)) ∧ Below X.heap.size X w') ∧ AfRow w' w'.heap.size B m us ∧ afvals us = ML ∧ m ≤ 100 ∧ ∀ x ∈ afvals us, x.2.length ≤ 1000)) := hidb (fun W tb s hbx => by
                refine (KC0.out W tb s).mono fun e w' ⟨B, m, b, us, q1, q2⟩ => ⟨B, m, b, us, q1, hidb ?_⟩
                obtain ⟨⟨p1, p2⟩, p3, p4⟩ := q2.out
                refine ⟨⟨p1, belF_tr hbx p2⟩, p3, p4, ?_, ?_⟩
                · have e1 := congrArg List.length p4
                  rw [afvals_length, p3.len] at e1
                  omega
                · rw [p4]; exact hsize.2)
              obtain ⟨SL, hSL⟩ : ∃ SL, mdSet (vals ys) ML (n : Int) i v = SL := ⟨_, rfl⟩
              have hset : SL.1.length = ML.length ∧ ∀ x ∈ SL.1, x.2.length ≤ 1000 := by
                rw [← hSL]
                unfold mdSet
                split
                · exact ⟨rfl, hsize.2⟩
                split
                · exact ⟨rfl, hsize.2⟩
                split
                · exact ⟨rfl, hsize.2⟩
                · exact ⟨mdWith_length _ _ _ _, fun x hx => mdWith_mem hsize.2 hx⟩
              have KS : Hid (∀ W tb B m b us, Hid ((S13 w W (some ⟨tb, 0, none⟩) (fOwns (vals ys)) ∧ Below X.heap.size X W) ∧ AfRow W W.heap.size B m us ∧ afvals us = ML ∧ m ≤ 100 ∧ ∀ x ∈ afvals us, x.2.length ≤ 1000) → Calls Tryd.prog 15 #[.pointer (some ⟨tb, 0, none⟩), .slice B m b, .int .i64 (n : Int), .int .i64 i, .agg #[.int .u8 (v.kind : Int), .int .u64 (v.bits : Int), .int .i64 v.depth, .int .i64 v.slot]] W fun e w' => ∃ B m b us, e = .returned (.tuple #[.slice B m b, .int .i64 (SL.2)]) ∧ Hid ((S13 w w' (some ⟨tb, 0, none⟩) (fOwns (vals ys)) ∧ Below X.heap.size X w') ∧ AfRow w' w'.heap.size B m us ∧ afvals us = SL.1 ∧ m ≤ 100 ∧ ∀ x ∈ afvals us, x.2.length ≤ 1000)) := hidb (fun W tb B m b us s => by
                obtain ⟨⟨s0, s1⟩, s2, s3, s4, s5⟩ := s.out
                obtain ⟨h1, lo, hi, h2, h3, h4⟩ := s0
                have hd := code_mdset (c := b) h2 h3 s2 (by omega) (fun x hx => by have := s5 x hx; omega) (n : Int) i (by unfold in64; omega) hi64 v hv
                rw [mdSet_owns hall, s3, hSL] at hd
                refine hd.mono fun e w' ⟨B, m, b, us, q1, q2, q3, q4, q5, q6⟩ => ⟨B, m, b, us, q1, hidb ⟨⟨S13.step ⟨h1, lo, hi, h2, h3, h4⟩ q6, belF_tr s1 q6⟩, q2, q3, ?_, ?_⟩⟩
                · have e1 := congrArg List.length q3
                  rw [afvals_length, q2.len, hset.1] at e1
                  omega
                · rw [q3]; exact hset.2)
              have hback := md_back hR hM i v
              rw [afvals_length, hln, hSL] at hback
              have KRT : Hid (∀ W tb B m b us, Hid ((S13 w W (some ⟨tb, 0, none⟩) (fOwns (vals ys)) ∧ Below X.heap.size X W) ∧ AfRow W W.heap.size B m us ∧ afvals us = SL.1 ∧ m ≤ 100 ∧ ∀ x ∈ afvals us, x.2.length ≤ 1000) → Calls Tryd.prog 16 #[.pointer (some ⟨tb, 0, none⟩), .slice B m b] W fun e w' => ∃ B m b us, e = .returned (.tuple #[.slice B m b, .int .i64 (mdReturn (vals ys) SL.1).2]) ∧ Hid (S13 w w' (some ⟨tb, 0, none⟩) (fOwns (vals ys)) ∧ AfRow w' w'.heap.size B m us ∧ afvals us = (mdReturn (vals ys) SL.1).1)) := hidb (fun W tb B m b us s => by
                obtain ⟨⟨s0, s1⟩, s2, s3, s4, s5⟩ := s.out
                obtain ⟨h1, lo, hi, h2, h3, h4⟩ := s0
                have hd := code_mdreturn (c := b) h2 h3 s2 (by omega) (fun x hx => by have := s5 x hx; omega)
                rw [mdReturn_owns hall, s3] at hd
                refine hd.mono fun e w' ⟨B, m, b, us, q1, q2, q3, q4, q5, q6⟩ => ⟨B, m, b, us, q1, hidb ⟨S13.step ⟨h1, lo, hi, h2, h3, h4⟩ q6, q2, q3⟩⟩)
              have HCS : Hid (∀ W tb B m us, Hid ((S13 w W (some ⟨tb, 0, none⟩) (fOwns (vals ys)) ∧ Below X.heap.size X W) ∧ AfRow W W.heap.size B m us ∧ afvals us = ML ∧ m ≤ 100 ∧ ∀ x ∈ afvals us, x.2.length ≤ 1000) → W.cell? ⟨w.heap.size, 0, none⟩ = some (.int .u8 (v.kind : Int)) ∧ W.cell? ⟨w.heap.size, 1, none⟩ = some (.int .u64 (v.bits : Int)) ∧ W.cell? ⟨w.heap.size, 2, none⟩ = some (.int .i64 v.depth) ∧ W.cell? ⟨w.heap.size, 3, none⟩ = some (.int .i64 v.slot)) := hidb (fun W tb B m us s => HC.out W s.out.1.2)
              rw [hback] at KRT
              obtain ⟨SL1, SL2⟩ := SL
              simp only at KS KRT
              by_cases h0 : n = 0
              · rw [if_pos h0] at KRT
                simp only at KRT
                have KRT2 : Hid (∀ W tb B m b us, Hid ((S13 w W (some ⟨tb, 0, none⟩) (fOwns (vals ys)) ∧ Below X.heap.size X W) ∧ AfRow W W.heap.size B m us ∧ afvals us = SL1 ∧ m ≤ 100 ∧ ∀ x ∈ afvals us, x.2.length ≤ 1000) → Calls Tryd.prog 16 #[.pointer (some ⟨tb, 0, none⟩), .slice B m b] W fun e w' => ∃ B m b, e = .returned (.tuple #[.slice B m b, .int .i64 8]) ∧ Hid (Below w.heap.size w w')) := hidb (fun W tb B m b us s => (KRT.out W tb B m b us s).mono fun e w' ⟨B, m, b, us, q1, q2⟩ => ⟨B, m, b, q1, hidb q2.out.1.1⟩)
                have e0 : ((n : Int) == 0) = true := by simp; omega
                clear hr hs ht hT hG1 hG2 hy hX hbX hrX h29 hR hR19 k1 k2 hsz hall KSM hcr hM hsize hw0 hSL hset hback KRT KC0 h0 hln
                --@9
                go_enter Tryd.func5, Tryd.ntmps5
                go_wp2_with (first
                  | (go_at_call 6; rw [← HX.out]; (with_reducible refine kn.mono ?_); rintro e w1 ⟨tb, rfl, hs1⟩; have hw1 := hidb (belF_tr HBX.out hs1.out.1); have HS1 := hidb (S13.base HBX.out hs1.out); have HX1 := hidb hs1.out.1)
                  | (go_at_call 7; (with_reducible refine (HG1.out _ hw1.out).mono ?_); rintro e w2 ⟨rfl, rfl⟩)
                  | (go_at_call 8; (with_reducible refine (HG2.out _ hw1.out).mono ?_); rintro e w2 ⟨rfl, rfl⟩)
                  | (go_at_call 10; (with_reducible refine (KR.out _ tb HS1).mono ?_); rintro e w3 ⟨rfl, hs3, hx3⟩)
                  | (go_at_call 14; (with_reducible refine (KC.out _ tb hs3 (belF_tr HX1.out hx3.out)).mono ?_); rintro e w5 ⟨A5, n5, c5, zs5, rfl, hs5⟩; obtain ⟨y0, y1, y2, y3⟩ := HCS.out _ _ _ _ _ hs5)
                  | (go_at_call 15; (with_reducible refine (KS.out _ tb _ _ _ _ hs5).mono ?_); rintro e w6 ⟨A6, n6, c6, zs6, rfl, hs6⟩)
                  | (go_at_call 16; (with_reducible refine (KRT2.out _ tb _ _ _ _ hs6).mono ?_); rintro e w7 ⟨A7, n7, c7, rfl, hs7⟩)
                  | (go_at_call 9; (with_reducible refine (KA.out _ hs7).mono ?_); rintro e w8 ⟨rfl, hs8⟩))
                go_ret
                exact ⟨rfl, hs8.out⟩
              · rw [if_neg h0] at KRT
                simp only at KRT
                have KRT2 : Hid (∀ W tb B m b us, Hid ((S13 w W (some ⟨tb, 0, none⟩) (fOwns (vals ys)) ∧ Below X.heap.size X W) ∧ AfRow W W.heap.size B m us ∧ afvals us = SL1 ∧ m ≤ 100 ∧ ∀ x ∈ afvals us, x.2.length ≤ 1000) → Calls Tryd.prog 16 #[.pointer (some ⟨tb, 0, none⟩), .slice B m b] W fun e w' => ∃ B m b us, e = .returned (.tuple #[.slice B m b, .int .i64 0]) ∧ Hid (S13 w w' (some ⟨tb, 0, none⟩) (fOwns (vals ys)) ∧ AfRow w' w'.heap.size B m us ∧ afvals us = afvals zs)) := KRT
                have KS9 : Hid (∀ W tb B m b us, Hid (S13 w W (some ⟨tb, 0, none⟩) (fOwns (vals ys)) ∧ AfRow W W.heap.size B m us ∧ afvals us = afvals zs) → Calls Tryd.prog 12 #[.slice B m b, .slice A n c] W fun e w' => e = .returned (.bool true) ∧ Hid (Below w.heap.size w w')) := hidb (fun W tb B m b us s => by
                  obtain ⟨s1, s2, s3⟩ := s.out
                  have e1 := congrArg List.length s3
                  rw [afvals_length, afvals_length, s2.len, hln] at e1
                  refine (KSM.out _ tb B m b us s1 s2 (by omega)).mono fun e w' ⟨h1, h2⟩ => ⟨by rw [h1, s3]; simp, hidb h2.out.1⟩)
                have e0 : ((n : Int) == 0) = false := by simp; omega
                clear hr hs ht hT hG1 hG2 hy hX hbX hrX h29 hR hR19 k1 k2 hsz hall KSM hcr hM hsize hw0 hSL hset hback KRT KC0 h0 hln
                --@10
                go_enter Tryd.func5, Tryd.ntmps5
                go_wp2_with (first
                  | (go_at_call 6; rw [← HX.out]; (with_reducible refine kn.mono ?_); rintro e w1 ⟨tb, rfl, hs1⟩; have hw1 := hidb (belF_tr HBX.out hs1.out.1); have HS1 := hidb (S13.base HBX.out hs1.out); have HX1 := hidb hs1.out.1)
                  | (go_at_call 7; (with_reducible refine (HG1.out _ hw1.out).mono ?_); rintro e w2 ⟨rfl, rfl⟩)
                  | (go_at_call 8; (with_reducible refine (HG2.out _ hw1.out).mono ?_); rintro e w2 ⟨rfl, rfl⟩)
                  | (go_at_call 10; (with_reducible refine (KR.out _ tb HS1).mono ?_); rintro e w3 ⟨rfl, hs3, hx3⟩)
                  | (go_at_call 14; (with_reducible refine (KC.out _ tb hs3 (belF_tr HX1.out hx3.out)).mono ?_); rintro e w5 ⟨A5, n5, c5, zs5, rfl, hs5⟩; obtain ⟨y0, y1, y2, y3⟩ := HCS.out _ _ _ _ _ hs5)
                  | (go_at_call 15; (with_reducible refine (KS.out _ tb _ _ _ _ hs5).mono ?_); rintro e w6 ⟨A6, n6, c6, zs6, rfl, hs6⟩)
                  | (go_at_call 16; (with_reducible refine (KRT2.out _ tb _ _ _ _ hs6).mono ?_); rintro e w7 ⟨A7, n7, c7, zs7, rfl, hs7⟩)
                  | (go_at_call 12; (with_reducible refine (KS9.out _ tb _ _ _ _ hs7).mono ?_); rintro e w8 ⟨rfl, hs8⟩)
                  | (go_at_call 9; (with_reducible refine (KA.out _ hs8).mono ?_); rintro e w9 ⟨rfl, hs9⟩))
                go_ret
                exact ⟨rfl, hs9.out⟩
            · have bno : (M.2 != 0) = true := by simpa using hno
              have heq := hcr.2.2 hno
              have KS9 : Hid (∀ W tb B m b us, Hid ((S13 w W (some ⟨tb, 0, none⟩) (fOwns (vals ys)) ∧ Below X.heap.size X W) ∧ AfRow W W.heap.size B m us ∧ afvals us = M.1) → Calls Tryd.prog 12 #[.slice B m b, .slice A n c] W fun e w' => e = .returned (.bool true) ∧ Hid (Below w.heap.size w w')) := hidb (fun W tb B m b us s => by
                obtain ⟨⟨s1, -⟩, s2, s3⟩ := s.out
                rw [heq] at s3
                have e1 := congrArg List.length s3
                rw [afvals_length, afvals_length, s2.len, hln] at e1
                refine (KSM.out _ tb B m b us s1 s2 (by omega)).mono fun e w' ⟨h1, h2⟩ => ⟨by rw [h1, s3]; simp, hidb h2.out.1⟩)
              have KC : Hid (∀ W tb, Hid (S13 w W (some ⟨tb, 0, none⟩) (fOwns (vals ys))) → Below X.heap.size X W → Calls Tryd.prog 14 #[.pointer (some ⟨tb, 0, none⟩), .slice A n c, .int .i64 f] W fun e w' => ∃ B m b us, e = .returned (.tuple #[.slice B m b, .int .i64 M.2]) ∧ Hid ((S13 w w' (some ⟨tb, 0, none⟩) (fOwns (vals ys)) ∧ Below X.heap.size X w') ∧ AfRow w' w'.heap.size B m us ∧ afvals us = M.1)) := hidb (fun W tb s hbx => (KC0.out W tb s).mono fun e w' ⟨B, m, b, us, q1, q2⟩ => ⟨B, m, b, us, q1, hidb ⟨⟨q2.out.1.1, belF_tr hbx q2.out.1.2⟩, q2.out.2⟩⟩)
              clear hr hs ht hT hG1 hG2 hy hX hbX hrX h29 hR hR19 k1 k2 hsz hall KSM hcr hM KC0 hno heq hln
              --@11
              go_enter Tryd.func5, Tryd.ntmps5
              go_wp2_with (first
                | (go_at_call 6; rw [← HX.out]; (with_reducible refine kn.mono ?_); rintro e w1 ⟨tb, rfl, hs1⟩; have hw1 := hidb (belF_tr HBX.out hs1.out.1); have HS1 := hidb (S13.base HBX.out hs1.out); have HX1 := hidb hs1.out.1)
                | (go_at_call 7; (with_reducible refine (HG1.out _ hw1.out).mono ?_); rintro e w2 ⟨rfl, rfl⟩)
                | (go_at_call 8; (with_reducible refine (HG2.out _ hw1.out).mono ?_); rintro e w2 ⟨rfl, rfl⟩)
                | (go_at_call 10; (with_reducible refine (KR.out _ tb HS1).mono ?_); rintro e w3 ⟨rfl, hs3, hx3⟩)
                | (go_at_call 14; (with_reducible refine (KC.out _ tb hs3 (belF_tr HX1.out hx3.out)).mono ?_); rintro e w5 ⟨A5, n5, c5, zs5, rfl, hs5⟩)
                | (go_at_call 12; (with_reducible refine (KS9.out _ tb _ _ _ _ hs5).mono ?_); rintro e w8 ⟨rfl, hs8⟩)
                | (go_at_call 9; (with_reducible refine (KA.out _ hs8).mono ?_); rintro e w9 ⟨rfl, hs9⟩))
              go_ret
              exact ⟨rfl, hs9.out⟩
end Go.Proofs.YtdcnpaodcjfdbaaDoor
