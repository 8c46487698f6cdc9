/- Layer 19's statement ModelRight. -/
import Derived.Test.YtdcnpaodcjfdbaaDoorMdcTop
namespace Go.Proofs.YtdcnpaodcjfdbaaDoor
open Go.RowKit Go.ChangeShapes Go.WideShapes
set_option linter.unusedVariables false

theorem eql_val0 (v : VlV) (W : World) : (binOp .eql 26 (.agg #[.int .u8 (v.kind : Int), .int .u64 (v.bits : Int), .int .i64 v.depth, .int .i64 v.slot]) (.agg #[.int .u8 0, .int .u64 0, .int .i64 0, .int .i64 0])).run Tryd.prog W = .ok (.bool (decide (v = vl0))) W := by
  obtain ⟨a, b, c, d⟩ := v
  unfold vl0
  simp [go_sem]
  by_cases h1 : a = 0 <;> by_cases h2 : b = 0 <;> by_cases h3 : c = 0 <;> by_cases h4 : d = 0 <;> simp [h1, h2, h3, h4] <;> omega
/-- A table, and rows that came in. -/
structure R19 (w : World) (A2 : Option Addr) (n2 : Nat) (ys : List FnV) (A : Option Addr) (n : Nat) (zs : List AfS) : Prop where
  fns : FnRow w 0 w.heap.size A2 n2 ys
  row : AfRow w w.heap.size A n zs
  few : n ≤ 30
  slots : ∀ x ∈ afvals zs, x.2.length ≤ 100
  tab : fTab (vals ys) = true
theorem R19.fn9 {w : World} {A2 : Option Addr} {n2 : Nat} {ys : List FnV} {A : Option Addr} {n : Nat} {zs : List AfS} (h : R19 w A2 n2 ys A n zs) : n2 ≤ 1000 := by
  have := fTab_few h.tab
  rw [vals_length, h.fns.len] at this
  omega
section
variable {w : World} {A2 : Option Addr} {n2 c2 : Nat} {ys : List FnV} {A : Option Addr} {n c : Nat} {zs : List AfS}
/-- The document's own question whether a row is right, of any row at hand. -/
theorem t_refright {W : World} {p : Option Addr} {O : Fns} (h : R19 w A2 n2 ys A n zs) (s : S13 w W p O) {B : Option Addr} {m d : Nat} {us : List AfS} (hu : AfRow W W.heap.size B m us) (hm : m ≤ 1000000) :
    Calls Tryd.prog 10 #[.slice A2 n2 c2, .slice B m d] W fun e w' => e = .returned (.bool (mdRight (vals ys) (afvals us))) ∧ Hid (S13 w w' p O) :=
  (ref_mdright (c := d) (c2 := c2) hu hm ((h.fns.below s.1)) s.1.size h.fn9 (fTab_sizes h.tab)).mono fun e w' ⟨h1, h2⟩ => ⟨h1, hidb (s.step h2)⟩
theorem t_refsame {W : World} {p : Option Addr} {O : Fns} (s : S13 w W p O) {B B2 : Option Addr} {m d m2 d2 : Nat} {us vs : List AfS} (hu : AfRow W W.heap.size B m us) (hv : AfRow W W.heap.size B2 m2 vs) (hm : m ≤ 1000000) (hm2 : m2 ≤ 1000000) :
    Calls Tryd.prog 12 #[.slice B m d, .slice B2 m2 d2] W fun e w' => e = .returned (.bool (decide (afvals us = afvals vs))) ∧ Hid (S13 w w' p O) :=
  (ref_mdsame B B2 m d m2 d2 us vs W _ _ hu hv (by omega) (by omega)).mono fun e w' ⟨h1, q, h2⟩ => ⟨h1, hidb (by rw [h2]; exact s.drewN q)⟩
end
set_option maxRecDepth 100000 in
set_option maxHeartbeats 8000000 in
theorem modelRight_any (A2 : Option Addr) (n2 c2 : Nat) (ys : List FnV) (A : Option Addr) (n c : Nat) (zs : List AfS) (a : A19) (w : World) (hr : FnRow w 0 w.heap.size A2 n2 ys) (hy : ∀ y ∈ ys, y.n ≤ 17592186044416) (hm2 : n2 ≤ maxLen) (hs : AfRow w w.heap.size A n zs) (hc : n ≤ c) (hc9 : c ≤ maxLen) (ha : A19Ok w w.heap.size a) (ht : TabDB w) :
    Calls Tryd.prog 3 #[.slice A2 n2 c2, .slice A n c, .agg (a19cells a).toArray] w fun e w' => e = .returned (.bool true) ∧ Below w.heap.size w w' := by
  unfold maxLen at hc9 hm2
  have HT := hidb ht
  have KA : Hid (∀ W, Hid (Below w.heap.size w W) → Calls Tryd.prog 9 #[] W fun e w' => e = .returned (.bool true) ∧ Hid (Below w.heap.size w w')) := hidb (fun W s => (awake19 W (TabDB.below HT.out s.out)).mono fun e w' h => ⟨h.1, hidb (belF_tr s.out h.2)⟩)
  obtain ⟨aa, haa⟩ : ∃ aa, aa = a := ⟨_, rfl⟩
  obtain ⟨kind, f, d, i, ⟨vk, vb, vd, vi⟩, bits, op, A3, n3, c3, ks⟩ := a
  unfold a19cells
  simp only
  obtain ⟨X, hX⟩ : ∃ X, X = w.alloc (.cells #[.int .i64 kind, .int .i64 f, .int .i64 d, .int .i64 i, .int .u8 (vk : Int), .int .u64 (vb : Int), .int .i64 vd, .int .i64 vi, .int .u64 (bits : Int), .int .u8 (op : Int), .slice A3 n3 c3] 29) := ⟨_, rfl⟩
  have hbX : Below w.heap.size w X := by rw [hX]; exact belF_al (Below.refl _ _) _
  have HX := hidb hX
  have HBX := hidb hbX
  have HC : Hid (∀ W, Below X.heap.size X W → W.cell? ⟨w.heap.size, 0, none⟩ = some (.int .i64 kind) ∧ W.cell? ⟨w.heap.size, 1, none⟩ = some (.int .i64 f) ∧ W.cell? ⟨w.heap.size, 2, none⟩ = some (.int .i64 d) ∧ W.cell? ⟨w.heap.size, 3, none⟩ = some (.int .i64 i) ∧ W.cell? ⟨w.heap.size, 4, none⟩ = some (.int .u8 (vk : Int)) ∧ W.cell? ⟨w.heap.size, 5, none⟩ = some (.int .u64 (vb : Int)) ∧ W.cell? ⟨w.heap.size, 6, none⟩ = some (.int .i64 vd) ∧ W.cell? ⟨w.heap.size, 7, none⟩ = some (.int .i64 vi) ∧ W.cell? ⟨w.heap.size, 8, none⟩ = some (.int .u64 (bits : Int)) ∧ W.cell? ⟨w.heap.size, 9, none⟩ = some (.int .u8 (op : Int)) ∧ W.cell? ⟨w.heap.size, 10, none⟩ = some (.slice A3 n3 c3)) := hidb (fun W hb => by
    have hz : X.heap.size = w.heap.size + 1 := by rw [hX]; simp
    have e : ∀ k, W.cell? ⟨w.heap.size, k, none⟩ = X.cell? ⟨w.heap.size, k, none⟩ := fun k => hb.cell (by show w.heap.size < _; omega)
    refine ⟨?_, ?_, ?_, ?_, ?_, ?_, ?_, ?_, ?_, ?_, ?_⟩ <;> (rw [e, hX]; simp))
  have hrX : FnRow X 0 X.heap.size A2 n2 ys := (hr.below hbX).more (Nat.le_refl _) hbX.size
  have HG1 : Hid (∀ W, Below w.heap.size w W → Calls Tryd.prog 7 #[.slice A2 n2 c2] W fun e w' => e = .returned (.bool (fGreat (vals ys))) ∧ W = w') := hidb (fun W hb => ref_fgreat A2 n2 c2 ys _ _ W (hr.below hb) (by omega))
  have HG2 : Hid (∀ W, Below w.heap.size w W → Calls Tryd.prog 8 #[.slice A n c] W fun e w' => e = .returned (.bool (mdGreat (afvals zs))) ∧ W = w') := hidb (fun W hb => ref_mdgreat (hs.below hb) (by omega))
  cases hT : fTab (vals ys) with
  | false =>
    have kn := t_new_no (c2 := c2) hrX hy (by omega) hT
    cases hG1 : fGreat (vals ys) with
    | true =>
      rw [hG1] at HG1
      clear hr hs ht ha hT hG1 hy hX hbX hrX HG2 haa
      --@1
      go_enter Tryd.func3, Tryd.ntmps3
      go_wp2_with (first
        | (go_at_call 6; rw [← HX.out]; (with_reducible refine kn.mono ?_); rintro e w1 ⟨rfl, hs1⟩; have hw1 := hidb (belF_tr HBX.out hs1.out); have hc1 := HC.out w1 hs1.out; obtain ⟨-, -, -, -, -, -, -, -, -, -, x10⟩ := hc1)
        | (go_at_call 7; (with_reducible refine (HG1.out _ hw1.out).mono ?_); rintro e w2 ⟨rfl, rfl⟩)
        | (go_at_call 8; (with_reducible refine (HG2.out _ hw1.out).mono ?_); rintro e w2 ⟨rfl, rfl⟩)
        | (go_at_call 9; (with_reducible refine (KA.out _ hw1).mono ?_); rintro e w3 ⟨rfl, hs3⟩))
      go_ret
      exact ⟨rfl, hs3.out⟩
    | false =>
      rw [hG1] at HG1
      cases hG2 : mdGreat (afvals zs) with
      | true =>
        rw [hG2] at HG2
        clear hr hs ht ha hT hG1 hG2 hy hX hbX hrX haa
        --@2
        go_enter Tryd.func3, Tryd.ntmps3
        go_wp2_with (first
          | (go_at_call 6; rw [← HX.out]; (with_reducible refine kn.mono ?_); rintro e w1 ⟨rfl, hs1⟩; have hw1 := hidb (belF_tr HBX.out hs1.out); have hc1 := HC.out w1 hs1.out; obtain ⟨-, -, -, -, -, -, -, -, -, -, x10⟩ := hc1)
          | (go_at_call 7; (with_reducible refine (HG1.out _ hw1.out).mono ?_); rintro e w2 ⟨rfl, rfl⟩)
          | (go_at_call 8; (with_reducible refine (HG2.out _ hw1.out).mono ?_); rintro e w2 ⟨rfl, rfl⟩)
          | (go_at_call 9; (with_reducible refine (KA.out _ hw1).mono ?_); rintro e w3 ⟨rfl, hs3⟩))
        go_ret
        exact ⟨rfl, hs3.out⟩
      | false =>
        rw [hG2] at HG2
        clear hr hs ht ha hT hG1 hG2 hy hX hbX hrX haa
        --@3
        go_enter Tryd.func3, Tryd.ntmps3
        go_wp2_with (first
          | (go_at_call 6; rw [← HX.out]; (with_reducible refine kn.mono ?_); rintro e w1 ⟨rfl, hs1⟩; have hw1 := hidb (belF_tr HBX.out hs1.out); have hc1 := HC.out w1 hs1.out; obtain ⟨-, -, -, -, -, -, -, -, -, -, x10⟩ := hc1)
          | (go_at_call 7; (with_reducible refine (HG1.out _ hw1.out).mono ?_); rintro e w2 ⟨rfl, rfl⟩)
          | (go_at_call 8; (with_reducible refine (HG2.out _ hw1.out).mono ?_); rintro e w2 ⟨rfl, rfl⟩)
          | (go_at_call 9; (with_reducible refine (KA.out _ hw1).mono ?_); rintro e w3 ⟨rfl, hs3⟩))
        go_ret
        exact ⟨rfl, hs3.out⟩
  | true =>
    have kn := t_new_yes (c2 := c2) hrX hy (TabDB.below ht hbX) hT
    cases hG1 : fGreat (vals ys) with
    | true =>
      rw [hG1] at HG1
      clear hr hs ht ha hT hG1 hy hX hbX hrX HG2 haa
      --@4
      go_enter Tryd.func3, Tryd.ntmps3
      go_wp2_with (first
        | (go_at_call 6; rw [← HX.out]; (with_reducible refine kn.mono ?_); rintro e w1 ⟨tb, rfl, hs1⟩; have hw1 := hidb (belF_tr HBX.out hs1.out.1); have HS1 := hidb (S13.base HBX.out hs1.out); have HX1 := hidb hs1.out.1; obtain ⟨-, -, -, -, -, -, -, -, -, -, x10⟩ := HC.out w1 hs1.out.1)
        | (go_at_call 7; (with_reducible refine (HG1.out _ hw1.out).mono ?_); rintro e w2 ⟨rfl, rfl⟩)
        | (go_at_call 8; (with_reducible refine (HG2.out _ hw1.out).mono ?_); rintro e w2 ⟨rfl, rfl⟩)
        | (go_at_call 9; (with_reducible refine (KA.out _ hw1).mono ?_); rintro e w3 ⟨rfl, hs3⟩))
      go_ret
      exact ⟨rfl, hs3.out⟩
    | false =>
      rw [hG1] at HG1
      cases hG2 : mdGreat (afvals zs) with
      | true =>
        rw [hG2] at HG2
        clear hr hs ht ha hT hG1 hG2 hy hX hbX hrX haa
        --@5
        go_enter Tryd.func3, Tryd.ntmps3
        go_wp2_with (first
          | (go_at_call 6; rw [← HX.out]; (with_reducible refine kn.mono ?_); rintro e w1 ⟨tb, rfl, hs1⟩; have hw1 := hidb (belF_tr HBX.out hs1.out.1); have HS1 := hidb (S13.base HBX.out hs1.out); have HX1 := hidb hs1.out.1; obtain ⟨-, -, -, -, -, -, -, -, -, -, x10⟩ := HC.out w1 hs1.out.1)
          | (go_at_call 7; (with_reducible refine (HG1.out _ hw1.out).mono ?_); rintro e w2 ⟨rfl, rfl⟩)
          | (go_at_call 8; (with_reducible refine (HG2.out _ hw1.out).mono ?_); rintro e w2 ⟨rfl, rfl⟩)
          | (go_at_call 9; (with_reducible refine (KA.out _ hw1).mono ?_); rintro e w3 ⟨rfl, hs3⟩))
        go_ret
        exact ⟨rfl, hs3.out⟩
      | false =>
        rw [hG2] at HG2
        by_cases h10 : 10 < n3
        · have g10 : (10 : Int) < (n3 : Int) := by omega
          clear hr hs ht ha hT hG1 hG2 hy hX hbX hrX haa h10
          --@6
          go_enter Tryd.func3, Tryd.ntmps3
          go_wp2_with (first
            | (go_at_call 6; rw [← HX.out]; (with_reducible refine kn.mono ?_); rintro e w1 ⟨tb, rfl, hs1⟩; have hw1 := hidb (belF_tr HBX.out hs1.out.1); have HS1 := hidb (S13.base HBX.out hs1.out); have HX1 := hidb hs1.out.1; obtain ⟨-, -, -, -, -, -, -, -, -, -, x10⟩ := HC.out w1 hs1.out.1)
            | (go_at_call 7; (with_reducible refine (HG1.out _ hw1.out).mono ?_); rintro e w2 ⟨rfl, rfl⟩)
            | (go_at_call 8; (with_reducible refine (HG2.out _ hw1.out).mono ?_); rintro e w2 ⟨rfl, rfl⟩)
            | (go_at_call 9; (with_reducible refine (KA.out _ hw1).mono ?_); rintro e w3 ⟨rfl, hs3⟩))
          go_ret
          exact ⟨rfl, hs3.out⟩
        · have g10 : ¬ ((10 : Int) < (n3 : Int)) := by omega
          obtain ⟨k1, k2⟩ := mdGreat_in hG2
          rw [afvals_length, hs.len] at k1
          have hR19 : R19 w A2 n2 ys A n zs := ⟨hr, hs, k1, k2, hT⟩
          have KR : Hid (∀ W tb, Hid (S13 w W (some ⟨tb, 0, none⟩) (fOwns (vals ys))) → Calls Tryd.prog 10 #[.slice A2 n2 c2, .slice A n c] W fun e w' => e = .returned (.bool (mdRight (vals ys) (afvals zs))) ∧ Hid (S13 w w' (some ⟨tb, 0, none⟩) (fOwns (vals ys))) ∧ Hid (Below W.heap.size W w')) := hidb (fun W tb s => (ref_mdright (c := c) (c2 := c2) (hs.step s.out.1) (by omega) (hr.below s.out.1) s.out.1.size hR19.fn9 (fTab_sizes hT)).mono fun e w' ⟨h1, h2⟩ => ⟨h1, hidb (s.out.step h2), hidb h2⟩)
          have KD : Hid (∀ W tb, Hid (S13 w W (some ⟨tb, 0, none⟩) (fOwns (vals ys))) → Calls Tryd.prog 11 #[.pointer (some ⟨tb, 0, none⟩), .slice A n c, .agg #[.int .i64 kind, .int .i64 f, .int .i64 d, .int .i64 i, .int .u8 (vk : Int), .int .u64 (vb : Int), .int .i64 vd, .int .i64 vi, .int .u64 (bits : Int), .int .u8 (op : Int), .slice A3 n3 c3]] W fun e w' => ∃ A4 n4 c4 zs4, e = .returned (.tuple #[.slice A4 n4 c4, vlC (mdWant (vals ys) (afvals zs) aa).2.1, .int .i64 (mdWant (vals ys) (afvals zs) aa).2.2]) ∧ Hid (S13 w w' (some ⟨tb, 0, none⟩) (fOwns (vals ys)) ∧ AfRow w' w'.heap.size A4 n4 zs4 ∧ afvals zs4 = (mdWant (vals ys) (afvals zs) aa).1 ∧ n4 ≤ 1000)) := hidb (fun W tb s => by
            obtain ⟨h1, lo, hi, h2, h3, h4⟩ := s.out
            have hd := code_does (c := c) (hs.step h1) (by omega) ⟨hc, by omega⟩ h2 h3 (fun x hx => by have := k2 x hx; omega) (fOwns_sizes (fTab_sizes hT)) aa (by rw [haa]; exact ha.step h1) (by rw [haa]; show n3 ≤ 1000; omega)
            rw [mdWant_owns (fTab_all hT)] at hd
            rw [haa] at hd ⊢
            refine hd.mono fun e w' ⟨A4, n4, c4, zs4, q1, q2, q3, q4, q5, q6⟩ => ⟨A4, n4, c4, zs4, q1, hidb ⟨s.out.step q6, q2, q3, ?_⟩⟩
            have := (mdWant_size (fTab_sizes hT) (L := afvals zs) (fun x hx => by have := k2 x hx; omega) (⟨kind, f, d, i, ⟨vk, vb, vd, vi⟩, bits, op, A3, n3, c3, ks⟩ : A19)).1
            rw [← q3, afvals_length, afvals_length, q2.len, hs.len] at this
            omega)
          have HBK : Hid (∀ W tb, S13 w W (some ⟨tb, 0, none⟩) (fOwns (vals ys)) → Below w.heap.size w W) := hidb (fun W tb s => s.1)
          have KSM : Hid (∀ W tb B m b us, Hid (S13 w W (some ⟨tb, 0, none⟩) (fOwns (vals ys))) → AfRow W W.heap.size B m us → m ≤ 1000 → Calls Tryd.prog 12 #[.slice B m b, .slice A n c] W fun e w' => e = .returned (.bool (decide (afvals us = afvals zs))) ∧ Hid (S13 w w' (some ⟨tb, 0, none⟩) (fOwns (vals ys)))) := hidb (fun W tb B m b us s hu hm => t_refsame s.out hu (hs.step s.out.1) (by omega) (by omega))
          have KRO : Hid (∀ W tb B m b us, Hid (S13 w W (some ⟨tb, 0, none⟩) (fOwns (vals ys))) → AfRow W W.heap.size B m us → m ≤ 1000 → Calls Tryd.prog 10 #[.slice A2 n2 c2, .slice B m b] W fun e w' => e = .returned (.bool (mdRight (vals ys) (afvals us))) ∧ Hid (S13 w w' (some ⟨tb, 0, none⟩) (fOwns (vals ys)) ∧ Below W.heap.size W w')) := hidb (fun W tb B m b us s hu hm => (ref_mdright (c := b) (c2 := c2) hu (by omega) (hr.below s.out.1) s.out.1.size hR19.fn9 (fTab_sizes hT)).mono fun e w' ⟨h1, h2⟩ => ⟨h1, hidb ⟨s.out.step h2, h2⟩⟩)
          cases hR : mdRight (vals ys) (afvals zs) with
          | false =>
            rw [hR] at KR
            rw [mdWant_wrong hR aa] at KD
            unfold vlC vl0 at KD
            simp only at KD
            have KS9 : Hid (∀ W tb B m b us, Hid (S13 w W (some ⟨tb, 0, none⟩) (fOwns (vals ys)) ∧ AfRow W W.heap.size B m us ∧ afvals us = afvals zs ∧ m ≤ 1000) → Calls Tryd.prog 12 #[.slice B m b, .slice A n c] (W.alloc (.cells #[.int .u8 0, .int .u64 0, .int .i64 0, .int .i64 0] 26)) fun e w' => e = .returned (.bool true) ∧ Hid (Below w.heap.size w w')) := hidb (fun W tb B m b us s => by
              obtain ⟨s1, s2, s3, s4⟩ := s.out
              have hb := belF_al (Below.refl W.heap.size W) (.cells #[.int .u8 0, .int .u64 0, .int .i64 0, .int .i64 0] 26)
              refine (KSM.out _ tb B m b us (hidb (s1.step hb)) (s2.step hb) s4).mono fun e w' ⟨h1, h2⟩ => ⟨by rw [h1, s3]; simp, hidb h2.out.1⟩)
            have e0 : ∀ W, (binOp .eql 26 (.agg #[.int .u8 0, .int .u64 0, .int .i64 0, .int .i64 0]) (.agg #[.int .u8 0, .int .u64 0, .int .i64 0, .int .i64 0])).run Tryd.prog W = .ok (.bool true) W := fun W => by kernel_rfl
            clear hr hs ht ha hT hG1 hG2 hy hX hbX hrX haa h10 hR hR19 k1 k2 KSM KRO
            --@7
            go_enter Tryd.func3, Tryd.ntmps3
            go_wp2_with (first
              | (go_at_call 6; rw [← HX.out]; (with_reducible refine kn.mono ?_); rintro e w1 ⟨tb, rfl, hs1⟩; have hw1 := hidb (belF_tr HBX.out hs1.out.1); have HS1 := hidb (S13.base HBX.out hs1.out); have HX1 := hidb hs1.out.1; obtain ⟨-, -, -, -, -, -, -, -, -, -, x10⟩ := HC.out w1 hs1.out.1)
              | (go_at_call 7; (with_reducible refine (HG1.out _ hw1.out).mono ?_); rintro e w2 ⟨rfl, rfl⟩)
              | (go_at_call 8; (with_reducible refine (HG2.out _ hw1.out).mono ?_); rintro e w2 ⟨rfl, rfl⟩)
              | (go_at_call 10; (with_reducible refine (KR.out _ tb HS1).mono ?_); rintro e w3 ⟨rfl, hs3, hx3⟩; obtain ⟨y0, y1, y2, y3, y4, y5, y6, y7, y8, y9, y10⟩ := HC.out w3 (belF_tr HX1.out hx3.out))
              | (go_at_call 11; (with_reducible refine (KD.out _ tb hs3).mono ?_); rintro e w4 ⟨A4, n4, c4, zs4, rfl, hs4⟩)
              | (go_at_call 12; (with_reducible refine (KS9.out _ tb _ _ _ _ hs4).mono ?_); rintro e w5 ⟨rfl, hs5⟩)
              | (go_at_call 9; (with_reducible refine (KA.out _ hs5).mono ?_); rintro e w6 ⟨rfl, hs6⟩))
            go_ret
            exact ⟨rfl, hs6.out⟩
          | true =>
            rw [hR] at KR
            obtain ⟨m9, mr, me⟩ := mdWant_right hR aa
            obtain ⟨r, hrr⟩ : ∃ r, mdWant (vals ys) (afvals zs) aa = r := ⟨_, rfl⟩
            rw [hrr] at KD m9 mr me
            obtain ⟨rL, ⟨gk, gb, gd, gi⟩, no⟩ := r
            unfold vlC at KD
            simp only at KD m9 mr me
            have b9 : (no != 9) = true := by simpa using m9
            have KR2 : Hid (∀ W tb B m b us, Hid (S13 w W (some ⟨tb, 0, none⟩) (fOwns (vals ys)) ∧ AfRow W W.heap.size B m us ∧ afvals us = rL ∧ m ≤ 1000) → Calls Tryd.prog 10 #[.slice A2 n2 c2, .slice B m b] (W.alloc (.cells #[.int .u8 (gk : Int), .int .u64 (gb : Int), .int .i64 gd, .int .i64 gi] 26)) fun e w' => e = .returned (.bool true) ∧ Hid (S13 w w' (some ⟨tb, 0, none⟩) (fOwns (vals ys)) ∧ AfRow w' w'.heap.size B m us ∧ afvals us = rL ∧ m ≤ 1000)) := hidb (fun W tb B m b us s => by
              obtain ⟨s1, s2, s3, s4⟩ := s.out
              have hb := belF_al (Below.refl W.heap.size W) (.cells #[.int .u8 (gk : Int), .int .u64 (gb : Int), .int .i64 gd, .int .i64 gi] 26)
              refine (KRO.out _ tb B m b us (hidb (s1.step hb)) (s2.step hb) s4).mono fun e w' ⟨h1, h2⟩ => ⟨by rw [h1, s3, mr], hidb ⟨h2.out.1, (s2.step hb).step h2.out.2, s3, s4⟩⟩)
            have HB9 : Hid (∀ W tb B m us, Hid (S13 w W (some ⟨tb, 0, none⟩) (fOwns (vals ys)) ∧ AfRow W W.heap.size B m us ∧ afvals us = rL ∧ m ≤ 1000) → Hid (Below w.heap.size w W)) := hidb (fun W tb B m us s => hidb s.out.1.1)
            by_cases hno : no = 0
            · subst hno
              clear hr hs ht ha hT hG1 hG2 hy hX hbX hrX haa h10 hR hR19 k1 k2 KSM KRO mr me m9 hrr
              --@8
              go_enter Tryd.func3, Tryd.ntmps3
              go_wp2_with (first
                | (go_at_call 6; rw [← HX.out]; (with_reducible refine kn.mono ?_); rintro e w1 ⟨tb, rfl, hs1⟩; have hw1 := hidb (belF_tr HBX.out hs1.out.1); have HS1 := hidb (S13.base HBX.out hs1.out); have HX1 := hidb hs1.out.1; obtain ⟨-, -, -, -, -, -, -, -, -, -, x10⟩ := HC.out w1 hs1.out.1)
                | (go_at_call 7; (with_reducible refine (HG1.out _ hw1.out).mono ?_); rintro e w2 ⟨rfl, rfl⟩)
                | (go_at_call 8; (with_reducible refine (HG2.out _ hw1.out).mono ?_); rintro e w2 ⟨rfl, rfl⟩)
                | (go_at_call 10; (with_reducible refine (KR.out _ tb HS1).mono ?_); rintro e w3 ⟨rfl, hs3, hx3⟩; obtain ⟨y0, y1, y2, y3, y4, y5, y6, y7, y8, y9, y10⟩ := HC.out w3 (belF_tr HX1.out hx3.out))
                | (go_at_call 11; (with_reducible refine (KD.out _ tb hs3).mono ?_); rintro e w4 ⟨A4, n4, c4, zs4, rfl, hs4⟩)
                | (go_at_call 10; (with_reducible refine (KR2.out _ tb _ _ _ _ hs4).mono ?_); rintro e w5 ⟨rfl, hs5⟩; have hw5 := HB9.out _ _ _ _ _ hs5)
                | (go_at_call 9; (with_reducible refine (KA.out _ hw5).mono ?_); rintro e w6 ⟨rfl, hs6⟩))
              go_ret
              exact ⟨rfl, hs6.out⟩
            · have bno : (no == 0) = false := by simpa using hno
              have heq := me hno
              have KS9 : Hid (∀ W tb B m b us, Hid (S13 w W (some ⟨tb, 0, none⟩) (fOwns (vals ys)) ∧ AfRow W W.heap.size B m us ∧ afvals us = rL ∧ m ≤ 1000) → Calls Tryd.prog 12 #[.slice B m b, .slice A n c] W fun e w' => e = .returned (.bool true) ∧ Hid (Below w.heap.size w w')) := hidb (fun W tb B m b us s => by
                obtain ⟨s1, s2, s3, s4⟩ := s.out
                refine (KSM.out _ tb B m b us (hidb s1) s2 s4).mono fun e w' ⟨h1, h2⟩ => ⟨by rw [h1, s3, heq]; simp, hidb h2.out.1⟩)
              clear hr hs ht ha hT hG1 hG2 hy hX hbX hrX haa h10 hR hR19 k1 k2 KSM KRO mr me m9 hrr heq hno
              --@9
              go_enter Tryd.func3, Tryd.ntmps3
              go_wp2_with (first
                | (go_at_call 6; rw [← HX.out]; (with_reducible refine kn.mono ?_); rintro e w1 ⟨tb, rfl, hs1⟩; have hw1 := hidb (belF_tr HBX.out hs1.out.1); have HS1 := hidb (S13.base HBX.out hs1.out); have HX1 := hidb hs1.out.1; obtain ⟨-, -, -, -, -, -, -, -, -, -, x10⟩ := HC.out w1 hs1.out.1)
                | (go_at_call 7; (with_reducible refine (HG1.out _ hw1.out).mono ?_); rintro e w2 ⟨rfl, rfl⟩)
                | (go_at_call 8; (with_reducible refine (HG2.out _ hw1.out).mono ?_); rintro e w2 ⟨rfl, rfl⟩)
                | (go_at_call 10; (with_reducible refine (KR.out _ tb HS1).mono ?_); rintro e w3 ⟨rfl, hs3, hx3⟩; obtain ⟨y0, y1, y2, y3, y4, y5, y6, y7, y8, y9, y10⟩ := HC.out w3 (belF_tr HX1.out hx3.out))
                | (go_at_call 11; (with_reducible refine (KD.out _ tb hs3).mono ?_); rintro e w4 ⟨A4, n4, c4, zs4, rfl, hs4⟩)
                | (go_at_call 10; (with_reducible refine (KR2.out _ tb _ _ _ _ hs4).mono ?_); rintro e w5 ⟨rfl, hs5⟩)
                | (go_at_call 12; (with_reducible refine (KS9.out _ tb _ _ _ _ hs5).mono ?_); rintro e w6 ⟨rfl, hs6⟩)
                | (go_at_call 9; (with_reducible refine (KA.out _ hs6).mono ?_); rintro e w7 ⟨rfl, hs7⟩))
              go_ret
              exact ⟨rfl, hs7.out⟩
end Go.Proofs.YtdcnpaodcjfdbaaDoor
