/- Layer 19's statement ModelPlays. -/
import Derived.Test.YtdcnpaodcjfdbaaGreatDoorMdcTop
namespace Go.Proofs.YtdcnpaodcjfdbaaGreatDoor
open Go.RowKit Go.ChangeShapes Go.WideShapes
set_option linter.unusedVariables false

set_option maxRecDepth 100000 in
set_option maxHeartbeats 16000000 in
theorem modelPlays_any (A2 : Option Addr) (n2 c2 : Nat) (ys : List FnV) (A : Option Addr) (n c : Nat) (zs : List AfS) (A9 : Option Addr) (na ca : Nat) (acs : List A19) (w : World) (hr : FnRow w 0 w.heap.size A2 n2 ys) (hy : ∀ y ∈ ys, y.n ≤ 17592186044416) (hm2 : n2 ≤ maxLen) (hs : AfRow w w.heap.size A n zs) (hc : n ≤ c) (hc9 : c ≤ maxLen) (hna : na ≤ maxLen) (hact : RowOf (fun cs a => cs = a19cells a) 11 w w.heap.size A9 na acs) (haok : ∀ a ∈ acs, A19Ok w w.heap.size a) (ht : TabDB w) :
    Calls Tryz.prog 3 #[.slice A2 n2 c2, .slice A n c, .slice A9 na ca] w fun e w' => e = .returned (.bool true) ∧ Below w.heap.size w w' := by
  unfold maxLen at hc9 hm2 hna
  have HT := hidb ht
  have KA : Hid (∀ W, Hid (Below w.heap.size w W) → Calls Tryz.prog 7 #[] W fun e w' => e = .returned (.bool true) ∧ Hid (Below w.heap.size w w')) := hidb (fun W s => (awake19 W (TabDB.below HT.out s.out)).mono fun e w' h => ⟨h.1, hidb (belF_tr s.out h.2)⟩)
  have HG1 : Hid (∀ W, Below w.heap.size w W → Calls Tryz.prog 5 #[.slice A2 n2 c2] W fun e w' => e = .returned (.bool (fGreat (vals ys))) ∧ W = w') := hidb (fun W hb => ref_fgreat A2 n2 c2 ys _ _ W (hr.below hb) (by omega))
  have HG2 : Hid (∀ W, Below w.heap.size w W → Calls Tryz.prog 6 #[.slice A n c] W fun e w' => e = .returned (.bool (mdGreat (afvals zs))) ∧ W = w') := hidb (fun W hb => ref_mdgreat (hs.below hb) (by omega))
  cases hT : fTab (vals ys) with
  | false =>
    have kn := t_new_no (c2 := c2) hr hy (by omega) hT
    cases hG1 : fGreat (vals ys) with
    | true =>
      rw [hG1] at HG1
      clear hr hs ht hT hG1 hy HG2 hact haok
      --@1
      go_enter Tryz.func3, Tryz.ntmps3
      go_wp2_with (first
        | (go_at_call 4; (with_reducible refine kn.mono ?_); rintro e w1 ⟨rfl, hs1⟩; have hw1 := hs1)
        | (go_at_call 5; (with_reducible refine (HG1.out _ hw1.out).mono ?_); rintro e w2 ⟨rfl, rfl⟩)
        | (go_at_call 6; (with_reducible refine (HG2.out _ hw1.out).mono ?_); rintro e w2 ⟨rfl, rfl⟩)
        | (go_at_call 7; (with_reducible refine (KA.out _ hw1).mono ?_); rintro e w9 ⟨rfl, hs9⟩))
      go_ret
      exact ⟨rfl, hs9.out⟩
    | false =>
      rw [hG1] at HG1
      cases hG2 : mdGreat (afvals zs) with
      | true =>
        rw [hG2] at HG2
        clear hr hs ht hT hG1 hG2 hy hact haok
        --@2
        go_enter Tryz.func3, Tryz.ntmps3
        go_wp2_with (first
          | (go_at_call 4; (with_reducible refine kn.mono ?_); rintro e w1 ⟨rfl, hs1⟩; have hw1 := hs1)
          | (go_at_call 5; (with_reducible refine (HG1.out _ hw1.out).mono ?_); rintro e w2 ⟨rfl, rfl⟩)
          | (go_at_call 6; (with_reducible refine (HG2.out _ hw1.out).mono ?_); rintro e w2 ⟨rfl, rfl⟩)
          | (go_at_call 7; (with_reducible refine (KA.out _ hw1).mono ?_); rintro e w9 ⟨rfl, hs9⟩))
        go_ret
        exact ⟨rfl, hs9.out⟩
      | false =>
        rw [hG2] at HG2
        by_cases h60 : 60 < na
        · have g60 : (60 : Int) < (na : Int) := by omega
          clear hr hs ht hT hG1 hG2 hy hact haok h60
          --@3
          go_enter Tryz.func3, Tryz.ntmps3
          go_wp2_with (first
            | (go_at_call 4; (with_reducible refine kn.mono ?_); rintro e w1 ⟨rfl, hs1⟩; have hw1 := hs1)
            | (go_at_call 5; (with_reducible refine (HG1.out _ hw1.out).mono ?_); rintro e w2 ⟨rfl, rfl⟩)
            | (go_at_call 6; (with_reducible refine (HG2.out _ hw1.out).mono ?_); rintro e w2 ⟨rfl, rfl⟩)
            | (go_at_call 7; (with_reducible refine (KA.out _ hw1).mono ?_); rintro e w9 ⟨rfl, hs9⟩))
          go_ret
          exact ⟨rfl, hs9.out⟩
        · have g60 : ¬ ((60 : Int) < (na : Int)) := by omega
          clear hr hs ht hT hG1 hG2 hy hact haok h60
          --@4
          go_enter Tryz.func3, Tryz.ntmps3
          go_wp2_with (first
            | (go_at_call 4; (with_reducible refine kn.mono ?_); rintro e w1 ⟨rfl, hs1⟩; have hw1 := hs1)
            | (go_at_call 5; (with_reducible refine (HG1.out _ hw1.out).mono ?_); rintro e w2 ⟨rfl, rfl⟩)
            | (go_at_call 6; (with_reducible refine (HG2.out _ hw1.out).mono ?_); rintro e w2 ⟨rfl, rfl⟩)
            | (go_at_call 7; (with_reducible refine (KA.out _ hw1).mono ?_); rintro e w9 ⟨rfl, hs9⟩))
          go_ret
          exact ⟨rfl, hs9.out⟩
  | true =>
    have kn := t_new_yes (c2 := c2) hr hy ht hT
    cases hG1 : fGreat (vals ys) with
    | true =>
      rw [hG1] at HG1
      clear hr hs ht hT hG1 hy HG2 hact haok
      --@5
      go_enter Tryz.func3, Tryz.ntmps3
      go_wp2_with (first
        | (go_at_call 4; (with_reducible refine kn.mono ?_); rintro e w1 ⟨tb, rfl, hs1⟩; have hw1 := hidb hs1.out.1)
        | (go_at_call 5; (with_reducible refine (HG1.out _ hw1.out).mono ?_); rintro e w2 ⟨rfl, rfl⟩)
        | (go_at_call 6; (with_reducible refine (HG2.out _ hw1.out).mono ?_); rintro e w2 ⟨rfl, rfl⟩)
        | (go_at_call 7; (with_reducible refine (KA.out _ hw1).mono ?_); rintro e w9 ⟨rfl, hs9⟩))
      go_ret
      exact ⟨rfl, hs9.out⟩
    | false =>
      rw [hG1] at HG1
      cases hG2 : mdGreat (afvals zs) with
      | true =>
        rw [hG2] at HG2
        clear hr hs ht hT hG1 hG2 hy hact haok
        --@6
        go_enter Tryz.func3, Tryz.ntmps3
        go_wp2_with (first
          | (go_at_call 4; (with_reducible refine kn.mono ?_); rintro e w1 ⟨tb, rfl, hs1⟩; have hw1 := hidb hs1.out.1)
          | (go_at_call 5; (with_reducible refine (HG1.out _ hw1.out).mono ?_); rintro e w2 ⟨rfl, rfl⟩)
          | (go_at_call 6; (with_reducible refine (HG2.out _ hw1.out).mono ?_); rintro e w2 ⟨rfl, rfl⟩)
          | (go_at_call 7; (with_reducible refine (KA.out _ hw1).mono ?_); rintro e w9 ⟨rfl, hs9⟩))
        go_ret
        exact ⟨rfl, hs9.out⟩
      | false =>
        rw [hG2] at HG2
        by_cases h60 : 60 < na
        · have g60 : (60 : Int) < (na : Int) := by omega
          clear hr hs ht hT hG1 hG2 hy hact haok h60
          --@7
          go_enter Tryz.func3, Tryz.ntmps3
          go_wp2_with (first
            | (go_at_call 4; (with_reducible refine kn.mono ?_); rintro e w1 ⟨tb, rfl, hs1⟩; have hw1 := hidb hs1.out.1)
            | (go_at_call 5; (with_reducible refine (HG1.out _ hw1.out).mono ?_); rintro e w2 ⟨rfl, rfl⟩)
            | (go_at_call 6; (with_reducible refine (HG2.out _ hw1.out).mono ?_); rintro e w2 ⟨rfl, rfl⟩)
            | (go_at_call 7; (with_reducible refine (KA.out _ hw1).mono ?_); rintro e w9 ⟨rfl, hs9⟩))
          go_ret
          exact ⟨rfl, hs9.out⟩
        · have g60 : ¬ ((60 : Int) < (na : Int)) := by omega
          have g60n : na ≤ 60 := by omega
          obtain ⟨k1, k2⟩ := mdGreat_in hG2
          have hln := hs.len
          rw [afvals_length, hln] at k1
          have hsz := fTab_sizes hT
          have hall := fTab_all hT
          have hn2 : n2 ≤ 1000 := by
            have := fTab_few hT
            rw [vals_length, hr.len] at this
            omega
          have HSZ := hidb hsz
          have HSZ2 := hidb (fOwns_sizes hsz)
          have HALL := hidb hall
          have HR := hidb hr
          have HSS := hidb (And.intro hs k2)
          have HACT := hidb (And.intro hact haok)
          clear hr hs ht hT hG1 hG2 hy hact haok h60 k2 hln hsz hall
          --@8
          go_enter Tryz.func3, Tryz.ntmps3
          go_wp2_with (first
            | (go_at_call 4; (with_reducible refine kn.mono ?_); rintro e w1 ⟨tb, rfl, hs1⟩; have hw1 := hidb hs1.out.1)
            | (go_at_call 5; (with_reducible refine (HG1.out _ hw1.out).mono ?_); rintro e w2 ⟨rfl, rfl⟩)
            | (go_at_call 6; (with_reducible refine (HG2.out _ hw1.out).mono ?_); rintro e w2 ⟨rfl, rfl⟩))
          clear kn HG1 HG2
          have HST0 := HSS
          go_loopw [9, 1, 10, 11, 12, 13, 14, 15, 16, 17] (fun v9 v1 _ _ _ _ _ _ _ _ wr => ∃ (j : Nat) (B : Option Addr) (m b : Nat) (us : List AfS), j ≤ na ∧ v9 = .int .i64 j ∧ v1 = .slice B m b ∧ Hid ((S13 w wr (some ⟨tb, 0, none⟩) (fOwns (vals ys)) ∧ AfRow wr wr.heap.size B m us) ∧ (m ≤ b ∧ b ≤ 9223372036854775807) ∧ m ≤ 100 ∧ ∀ x ∈ afvals us, x.2.length ≤ 1000)) (fun v9 _ _ _ _ _ _ _ _ _ _ => (na - intOf v9).toNat)
          case atStart => exact ⟨0, A, n, c, zs, by omega, rfl, rfl, hidb ⟨⟨hs1.out, HSS.out.1.step hs1.out.1⟩, ⟨hc, by omega⟩, by omega, fun x hx => by have := HSS.out.2 x hx; omega⟩⟩
          case round =>
            clear HST0
            obtain ⟨j, B, m, b, us, hj, rfl, rfl, HI⟩ := hrel
            have HST : Hid (S13 w wr (some ⟨tb, 0, none⟩) (fOwns (vals ys)) ∧ AfRow wr wr.heap.size B m us) := hidb HI.out.1
            have hwr : Hid (Below w.heap.size w wr) := hidb HI.out.1.1.1
            by_cases hlt : j < na
            · obtain ⟨ab, aoff, a, cs, rfl, hbl, hx, -, hcc, rfl⟩ := RowOf.at_ HACT.out.1 hlt
              have hok := HACT.out.2 a (List.mem_of_getElem? hx)
              have HCELL : Hid (∀ W, Below w.heap.size w W → W.cell? ⟨ab, aoff + j * 11, none⟩ = some (.int .i64 a.kind) ∧ W.cell? ⟨ab, aoff + j * 11 + 1, none⟩ = some (.int .i64 a.f) ∧ W.cell? ⟨ab, aoff + j * 11 + 2, none⟩ = some (.int .i64 a.d) ∧ W.cell? ⟨ab, aoff + j * 11 + 3, none⟩ = some (.int .i64 a.i) ∧ W.cell? ⟨ab, aoff + j * 11 + 4, none⟩ = some (.int .u8 (a.v.kind : Int)) ∧ W.cell? ⟨ab, aoff + j * 11 + 5, none⟩ = some (.int .u64 (a.v.bits : Int)) ∧ W.cell? ⟨ab, aoff + j * 11 + 6, none⟩ = some (.int .i64 a.v.depth) ∧ W.cell? ⟨ab, aoff + j * 11 + 7, none⟩ = some (.int .i64 a.v.slot) ∧ W.cell? ⟨ab, aoff + j * 11 + 8, none⟩ = some (.int .u64 (a.bits : Int)) ∧ W.cell? ⟨ab, aoff + j * 11 + 9, none⟩ = some (.int .u8 (a.op : Int)) ∧ W.cell? ⟨ab, aoff + j * 11 + 10, none⟩ = some (.slice a.A a.n a.c)) := hidb (fun W hb => by
                have e : ∀ k u, (a19cells a)[k]? = some u → k < 11 → W.cell? ⟨ab, aoff + j * 11 + k, none⟩ = some u := fun k u hu hk => by
                  rw [hb.cell (by show ab < _; exact hbl), hcc k hk, hu]
                exact ⟨e 0 _ rfl (by omega), e 1 _ rfl (by omega), e 2 _ rfl (by omega), e 3 _ rfl (by omega), e 4 _ rfl (by omega), e 5 _ rfl (by omega), e 6 _ rfl (by omega), e 7 _ rfl (by omega), e 8 _ rfl (by omega), e 9 _ rfl (by omega), e 10 _ rfl (by omega)⟩)
              have x10 := (HCELL.out wr hwr.out).2.2.2.2.2.2.2.2.2.2
              have hj0 : (0 : Int) ≤ (j : Int) := by omega
              have hj1 : (j : Int) < (na : Int) := by omega
              have HOK := hidb hok
              have hm100 := HI.out.2.2.1
              by_cases h10 : 10 < a.n
              · have g10 : (10 : Int) < (a.n : Int) := by omega
                clear hok hx hcc h10
                --@9
                go_wp2_with (first
                  | (go_at_call 7; (with_reducible refine (KA.out _ hwr).mono ?_); rintro e w9 ⟨rfl, hs9⟩))
                go_ret
                exact ⟨rfl, hs9.out⟩
              · have g10 : ¬ ((10 : Int) < (a.n : Int)) := by omega
                have kg := ref_mdgreat (c := b) HST.out.2 (by omega)
                cases hG : mdGreat (afvals us) with
                | true =>
                  rw [hG] at kg
                  clear hok hx hcc h10 hG
                  --@10
                  go_wp2_with (first
                    | (go_at_call 6; (with_reducible refine kg.mono ?_); rintro e w2 ⟨rfl, rfl⟩)
                    | (go_at_call 7; (with_reducible refine (KA.out _ hwr).mono ?_); rintro e w9 ⟨rfl, hs9⟩))
                  go_ret
                  exact ⟨rfl, hs9.out⟩
                | false =>
                  rw [hG] at kg
                  obtain ⟨q1, q2⟩ := mdGreat_in hG
                  rw [afvals_length, HST.out.2.len] at q1
                  have hw := mdWant_size HSZ.out (L := afvals us) (fun x hx => by have := q2 x hx; omega) a
                  rw [afvals_length, HST.out.2.len] at hw
                  obtain ⟨r, hrr⟩ : ∃ r, mdWant (vals ys) (afvals us) a = r := ⟨_, rfl⟩
                  rw [hrr] at hw
                  obtain ⟨rL, ⟨gk, gb, gd, gi⟩, no⟩ := r
                  simp only at hw
                  obtain ⟨R, hRR⟩ : ∃ R, mdRight (vals ys) (afvals us) = R := ⟨_, rfl⟩
                  obtain ⟨words, hww⟩ : ∃ words, mdWords (vals ys) (afvals us) = words := ⟨_, rfl⟩
                  have KRR : Hid (∀ W, Hid (S13 w W (some ⟨tb, 0, none⟩) (fOwns (vals ys)) ∧ AfRow W W.heap.size B m us) → Calls Tryz.prog 8 #[.slice A2 n2 c2, .slice B m b] W fun e w' => e = .returned (.bool R) ∧ Hid (S13 w w' (some ⟨tb, 0, none⟩) (fOwns (vals ys)) ∧ AfRow w' w'.heap.size B m us)) := hidb (fun W s => by
                    have := ref_mdright (c := b) (c2 := c2) s.out.2 (by omega) (HR.out.below s.out.1.1) s.out.1.1.size hn2 HSZ.out
                    rw [hRR] at this
                    exact this.mono fun e w' ⟨h1, h2⟩ => ⟨h1, hidb ⟨s.out.1.step h2, s.out.2.step h2⟩⟩)
                  have KRW : Hid (∀ W, Hid (S13 w W (some ⟨tb, 0, none⟩) (fOwns (vals ys)) ∧ AfRow W W.heap.size B m us) → Calls Tryz.prog 9 #[.slice A2 n2 c2, .slice B m b] W fun e w' => e = .returned (.int .i64 words) ∧ W = w') := hidb (fun W s => by
                    have := ref_mdwords (c := b) (c2 := c2) s.out.2 (by omega) (HR.out.below s.out.1.1) hn2 HSZ.out
                    rw [hww] at this
                    exact this)
                  have KCR : Hid (∀ W, Hid (S13 w W (some ⟨tb, 0, none⟩) (fOwns (vals ys)) ∧ AfRow W W.heap.size B m us) → Calls Tryz.prog 10 #[.pointer (some ⟨tb, 0, none⟩), .slice B m b] W fun e w' => e = .returned (.bool R) ∧ Hid (S13 w w' (some ⟨tb, 0, none⟩) (fOwns (vals ys)) ∧ AfRow w' w'.heap.size B m us)) := hidb (fun W s => by
                    obtain ⟨h1, lo, hi, h2, h3, h4⟩ := s.out.1
                    have := code_mdright (c := b) h2 h3 s.out.2 (by omega)
                    rw [mdRight_owns HALL.out, hRR] at this
                    exact this.mono fun e w' ⟨h1, h2⟩ => ⟨h1, hidb ⟨s.out.1.step h2, s.out.2.step h2⟩⟩)
                  have KCW0 : Hid (∀ W (q : Int), (if R = true then words else 0) = q → Hid (S13 w W (some ⟨tb, 0, none⟩) (fOwns (vals ys)) ∧ AfRow W W.heap.size B m us) → Calls Tryz.prog 11 #[.pointer (some ⟨tb, 0, none⟩), .slice B m b] W fun e w' => e = .returned (.int .i64 q) ∧ Hid (S13 w w' (some ⟨tb, 0, none⟩) (fOwns (vals ys)) ∧ AfRow w' w'.heap.size B m us)) := hidb (fun W q hq s => by
                    obtain ⟨h1, lo, hi, h2, h3, h4⟩ := s.out.1
                    have := code_mdwords (c := b) h2 h3 HSZ2.out s.out.2 (by omega) q (by rw [mdRight_owns HALL.out, mdWords_owns, hRR, hww]; exact hq)
                    exact this.mono fun e w' ⟨h1, h2⟩ => ⟨h1, hidb ⟨s.out.1.step h2, s.out.2.step h2⟩⟩)
                  have KD : Hid (∀ W, Hid (S13 w W (some ⟨tb, 0, none⟩) (fOwns (vals ys)) ∧ AfRow W W.heap.size B m us) → Calls Tryz.prog 12 #[.pointer (some ⟨tb, 0, none⟩), .slice B m b, .agg #[.int .i64 a.kind, .int .i64 a.f, .int .i64 a.d, .int .i64 a.i, .int .u8 (a.v.kind : Int), .int .u64 (a.v.bits : Int), .int .i64 a.v.depth, .int .i64 a.v.slot, .int .u64 (a.bits : Int), .int .u8 (a.op : Int), .slice a.A a.n a.c]] W fun e w' => ∃ A4 n4 c4 zs4, e = .returned (.tuple #[.slice A4 n4 c4, .agg #[.int .u8 (gk : Int), .int .u64 (gb : Int), .int .i64 gd, .int .i64 gi], .int .i64 no]) ∧ Hid ((S13 w w' (some ⟨tb, 0, none⟩) (fOwns (vals ys)) ∧ AfRow w' w'.heap.size B m us) ∧ AfRow w' w'.heap.size A4 n4 zs4 ∧ afvals zs4 = rL ∧ n4 ≤ 100 ∧ n4 ≤ c4 ∧ c4 ≤ 9223372036854775807)) := hidb (fun W s => by
                    obtain ⟨h1, lo, hi, h2, h3, h4⟩ := s.out.1
                    have hd := code_does (c := b) s.out.2 (by omega) HI.out.2.1 h2 h3 (fun x hx => by have := q2 x hx; omega) HSZ2.out a (hok.step h1) (by omega)
                    rw [mdWant_owns HALL.out, hrr] at hd
                    refine hd.mono fun e w' ⟨A4, n4, c4, zs4, q1, q2, q3, q4, q5, q6⟩ => ⟨A4, n4, c4, zs4, q1, hidb ⟨⟨s.out.1.step q6, s.out.2.step q6⟩, q2, q3, ?_, q4, q5⟩⟩
                    have e1 := congrArg List.length q3
                    rw [afvals_length, q2.len] at e1
                    simp only at e1
                    omega)
                  have KW : Hid (∀ W A4 n4 c4 zs4, Hid ((S13 w W (some ⟨tb, 0, none⟩) (fOwns (vals ys)) ∧ AfRow W W.heap.size B m us) ∧ AfRow W W.heap.size A4 n4 zs4 ∧ afvals zs4 = rL ∧ n4 ≤ 100 ∧ n4 ≤ c4 ∧ c4 ≤ 9223372036854775807) → Calls Tryz.prog 13 #[.slice A2 n2 c2, .slice B m b, .agg #[.int .i64 a.kind, .int .i64 a.f, .int .i64 a.d, .int .i64 a.i, .int .u8 (a.v.kind : Int), .int .u64 (a.v.bits : Int), .int .i64 a.v.depth, .int .i64 a.v.slot, .int .u64 (a.bits : Int), .int .u8 (a.op : Int), .slice a.A a.n a.c]] (W.alloc (.cells #[.int .u8 (gk : Int), .int .u64 (gb : Int), .int .i64 gd, .int .i64 gi] 34)) fun e w' => ∃ A5 n5 c5 zs5, e = .returned (.tuple #[.slice A5 n5 c5, .agg #[.int .u8 (gk : Int), .int .u64 (gb : Int), .int .i64 gd, .int .i64 gi], .int .i64 no]) ∧ Hid (((S13 w w' (some ⟨tb, 0, none⟩) (fOwns (vals ys)) ∧ AfRow w' w'.heap.size B m us) ∧ AfRow w' w'.heap.size A4 n4 zs4 ∧ afvals zs4 = rL ∧ n4 ≤ 100) ∧ AfRow w' w'.heap.size A5 n5 zs5 ∧ afvals zs5 = rL ∧ n5 ≤ 100 ∧ n5 ≤ c5 ∧ c5 ≤ 9223372036854775807) ∧ Hid (Below (W.alloc (.cells #[.int .u8 (gk : Int), .int .u64 (gb : Int), .int .i64 gd, .int .i64 gi] 34)).heap.size (W.alloc (.cells #[.int .u8 (gk : Int), .int .u64 (gb : Int), .int .i64 gd, .int .i64 gi] 34)) w')) := hidb (fun W A4 n4 c4 zs4 s => by
                    obtain ⟨⟨s1, s2⟩, s3, s4, s5, s6, s7⟩ := s.out
                    have hb := belF_al (Below.refl W.heap.size W) (.cells #[.int .u8 (gk : Int), .int .u64 (gb : Int), .int .i64 gd, .int .i64 gi] 34)
                    have hbw := belF_tr s1.1 hb
                    have hd := ref_want (c := b) (c2 := c2) (s2.step hb) (by omega) HI.out.2.1 (HR.out.below hbw) hbw.size hn2 HSZ.out a (hok.step hbw) (by omega)
                    rw [hrr] at hd
                    refine hd.mono fun e w' ⟨A5, n5, c5, zs5, q1, q2, q3, q4, q5, q6⟩ => ⟨A5, n5, c5, zs5, q1, hidb ⟨⟨⟨(s1.step hb).step q6, (s2.step hb).step q6⟩, (s3.step hb).step q6, s4, s5⟩, q2, q3, ?_, q4, q5⟩, hidb q6⟩
                    have e1 := congrArg List.length q3
                    rw [afvals_length, q2.len] at e1
                    simp only at e1
                    omega)
                  have KRS : Hid (∀ W A4 n4 c4 zs4 A5 n5 c5 zs5, Hid (((S13 w W (some ⟨tb, 0, none⟩) (fOwns (vals ys)) ∧ AfRow W W.heap.size B m us) ∧ AfRow W W.heap.size A4 n4 zs4 ∧ afvals zs4 = rL ∧ n4 ≤ 100) ∧ AfRow W W.heap.size A5 n5 zs5 ∧ afvals zs5 = rL ∧ n5 ≤ 100 ∧ n5 ≤ c5 ∧ c5 ≤ 9223372036854775807) → Calls Tryz.prog 14 #[.slice A4 n4 c4, .slice A5 n5 c5] (W.alloc (.cells #[.int .u8 (gk : Int), .int .u64 (gb : Int), .int .i64 gd, .int .i64 gi] 34)) fun e w' => e = .returned (.bool true) ∧ Hid (((S13 w w' (some ⟨tb, 0, none⟩) (fOwns (vals ys)) ∧ AfRow w' w'.heap.size B m us) ∧ AfRow w' w'.heap.size A4 n4 zs4 ∧ afvals zs4 = rL ∧ n4 ≤ 100) ∧ AfRow w' w'.heap.size A5 n5 zs5 ∧ afvals zs5 = rL ∧ n5 ≤ 100 ∧ n5 ≤ c5 ∧ c5 ≤ 9223372036854775807)) := hidb (fun W A4 n4 c4 zs4 A5 n5 c5 zs5 s => by
                    obtain ⟨⟨⟨s1, s2⟩, s3, s4, s5⟩, s6, s7, s8, s9, s10⟩ := s.out
                    have hb := belF_al (Below.refl W.heap.size W) (.cells #[.int .u8 (gk : Int), .int .u64 (gb : Int), .int .i64 gd, .int .i64 gi] 34)
                    have := ref_mdsame A4 A5 n4 c4 n5 c5 zs4 zs5 (W.alloc (.cells #[.int .u8 (gk : Int), .int .u64 (gb : Int), .int .i64 gd, .int .i64 gi] 34)) _ _ (s3.step hb) (s6.step hb) (by omega) (by omega)
                    rw [s4, s7, decide_eq_true rfl] at this
                    refine this.mono fun e w' ⟨h1, q, h2⟩ => ⟨h1, hidb ?_⟩
                    have hq : Below W.heap.size W w' := by rw [h2]; exact belowN hb _
                    exact ⟨⟨⟨s1.step hq, s2.step hq⟩, s3.step hq, s4, s5⟩, s6.step hq, s7, s8, s9, s10⟩)
                  have KCS : Hid (∀ W A4 n4 c4 zs4 A5 n5 c5 zs5, Hid (((S13 w W (some ⟨tb, 0, none⟩) (fOwns (vals ys)) ∧ AfRow W W.heap.size B m us) ∧ AfRow W W.heap.size A4 n4 zs4 ∧ afvals zs4 = rL ∧ n4 ≤ 100) ∧ AfRow W W.heap.size A5 n5 zs5 ∧ afvals zs5 = rL ∧ n5 ≤ 100 ∧ n5 ≤ c5 ∧ c5 ≤ 9223372036854775807) → Calls Tryz.prog 15 #[.slice A4 n4 c4, .slice A5 n5 c5] W fun e w' => e = .returned (.bool true) ∧ Hid (((S13 w w' (some ⟨tb, 0, none⟩) (fOwns (vals ys)) ∧ AfRow w' w'.heap.size B m us) ∧ AfRow w' w'.heap.size A4 n4 zs4 ∧ afvals zs4 = rL ∧ n4 ≤ 100) ∧ AfRow w' w'.heap.size A5 n5 zs5 ∧ afvals zs5 = rL ∧ n5 ≤ 100 ∧ n5 ≤ c5 ∧ c5 ≤ 9223372036854775807)) := hidb (fun W A4 n4 c4 zs4 A5 n5 c5 zs5 s => by
                    obtain ⟨⟨⟨s1, s2⟩, s3, s4, s5⟩, s6, s7, s8, s9, s10⟩ := s.out
                    have := code_mdsame A4 A5 n4 c4 n5 c5 zs4 zs5 W s3 s6 (by omega) (by omega) (fun x hx => by rw [s4] at hx; have := hw.2 x hx; omega) (fun x hx => by rw [s7] at hx; have := hw.2 x hx; omega)
                    rw [s4, s7, decide_eq_true rfl] at this
                    exact this.mono fun e w' ⟨h1, hq⟩ => ⟨h1, hidb ⟨⟨⟨s1.step hq, s2.step hq⟩, s3.step hq, s4, s5⟩, s6.step hq, s7, s8, s9, s10⟩⟩)
                  have HFIN : Hid (∀ W A4 n4 zs4 A5 n5 c5 zs5, Hid (((S13 w W (some ⟨tb, 0, none⟩) (fOwns (vals ys)) ∧ AfRow W W.heap.size B m us) ∧ AfRow W W.heap.size A4 n4 zs4 ∧ afvals zs4 = rL ∧ n4 ≤ 100) ∧ AfRow W W.heap.size A5 n5 zs5 ∧ afvals zs5 = rL ∧ n5 ≤ 100 ∧ n5 ≤ c5 ∧ c5 ≤ 9223372036854775807) → Hid ((S13 w W (some ⟨tb, 0, none⟩) (fOwns (vals ys)) ∧ AfRow W W.heap.size A5 n5 zs5) ∧ (n5 ≤ c5 ∧ c5 ≤ 9223372036854775807) ∧ n5 ≤ 100 ∧ ∀ x ∈ afvals zs5, x.2.length ≤ 1000)) := hidb (fun W A4 n4 zs4 A5 n5 c5 zs5 s => by
                    obtain ⟨⟨⟨s1, s2⟩, s3, s4, s5⟩, s6, s7, s8, s9, s10⟩ := s.out
                    exact hidb ⟨⟨s1, s6⟩, ⟨s9, s10⟩, s8, fun x hx => by rw [s7] at hx; exact hw.2 x hx⟩)
                  have hnq := fun W => neq_val ⟨gk, gb, gd, gi⟩ ⟨gk, gb, gd, gi⟩ W
                  rw [show (!decide ((⟨gk, gb, gd, gi⟩ : VlV) = ⟨gk, gb, gd, gi⟩)) = false by simp] at hnq
                  simp only at hnq
                  have enn : (no != no) = false := by simp
                  have eww : (words != words) = false := by simp
                  cases R with
                  | true =>
                    have KCW := hidb (fun W => KCW0.out W words (if_pos rfl))
                    clear hok hx hcc h10 hG q1 q2 hw hrr hRR hww KCW0 HI HSS HACT
                    --@11
                    go_wp2_with (first
                      | (go_at_call 6; (with_reducible refine kg.mono ?_); rintro e w2 ⟨rfl, rfl⟩)
                      | (go_at_call 8; (with_reducible refine (KRR.out _ HST).mono ?_); rintro e w3 ⟨rfl, hs3⟩)
                      | (go_at_call 9; (with_reducible refine (KRW.out _ hs3).mono ?_); rintro e w4 ⟨rfl, rfl⟩)
                      | (go_at_call 10; (with_reducible refine (KCR.out _ hs3).mono ?_); rintro e w5 ⟨rfl, hs5⟩)
                      | (go_at_call 11; (with_reducible refine (KCW.out _ hs5).mono ?_); rintro e w6 ⟨rfl, hs6⟩; obtain ⟨y0, y1, y2, y3, y4, y5, y6, y7, y8, y9, y10⟩ := HCELL.out w6 hs6.out.1.1)
                      | (go_at_call 12; (with_reducible refine (KD.out _ hs6).mono ?_); rintro e w7 ⟨A4, n4, c4, zs4, rfl, hs7⟩; obtain ⟨z0, z1, z2, z3, z4, z5, z6, z7, z8, z9, z10⟩ := HCELL.out _ (belF_al hs7.out.1.1.1 (.cells #[.int .u8 (gk : Int), .int .u64 (gb : Int), .int .i64 gd, .int .i64 gi] 34)); have HV := new_four w7 (.int .u8 (gk : Int)) (.int .u64 (gb : Int)) (.int .i64 gd) (.int .i64 gi) 34)
                      | (go_at_call 13; (with_reducible refine (KW.out _ _ _ _ _ hs7).mono ?_); rintro e w8 ⟨A5, n5, c5, zs5, rfl, hs8, hb8⟩; obtain ⟨⟨v0, v1, v2, v3⟩, -⟩ := HV.out _ (belF_al hb8.out (.cells #[.int .u8 (gk : Int), .int .u64 (gb : Int), .int .i64 gd, .int .i64 gi] 34)))
                      | (go_at_call 14; (with_reducible refine (KRS.out _ _ _ _ _ _ _ _ _ hs8).mono ?_); rintro e w10 ⟨rfl, hs10⟩)
                      | (go_at_call 15; (with_reducible refine (KCS.out _ _ _ _ _ _ _ _ _ hs10).mono ?_); rintro e w11 ⟨rfl, hs11⟩))
                    go_roundw
                    case rel => exact ⟨j + 1, A5, n5, c5, zs5, by omega, by go_num, rfl, HFIN.out _ _ _ _ _ _ _ _ hs11⟩
                    case measure => simp [intOf]; omega
                  | false =>
                    have KCW := hidb (fun W => KCW0.out W 0 (if_neg (by simp)))
                    clear hok hx hcc h10 hG q1 q2 hw hrr hRR hww KCW0 HI HSS HACT
                    --@12
                    go_wp2_with (first
                      | (go_at_call 6; (with_reducible refine kg.mono ?_); rintro e w2 ⟨rfl, rfl⟩)
                      | (go_at_call 8; (with_reducible refine (KRR.out _ HST).mono ?_); rintro e w3 ⟨rfl, hs3⟩)
                      | (go_at_call 10; (with_reducible refine (KCR.out _ hs3).mono ?_); rintro e w5 ⟨rfl, hs5⟩)
                      | (go_at_call 11; (with_reducible refine (KCW.out _ hs5).mono ?_); rintro e w6 ⟨rfl, hs6⟩; obtain ⟨y0, y1, y2, y3, y4, y5, y6, y7, y8, y9, y10⟩ := HCELL.out w6 hs6.out.1.1)
                      | (go_at_call 12; (with_reducible refine (KD.out _ hs6).mono ?_); rintro e w7 ⟨A4, n4, c4, zs4, rfl, hs7⟩; obtain ⟨z0, z1, z2, z3, z4, z5, z6, z7, z8, z9, z10⟩ := HCELL.out _ (belF_al hs7.out.1.1.1 (.cells #[.int .u8 (gk : Int), .int .u64 (gb : Int), .int .i64 gd, .int .i64 gi] 34)); have HV := new_four w7 (.int .u8 (gk : Int)) (.int .u64 (gb : Int)) (.int .i64 gd) (.int .i64 gi) 34)
                      | (go_at_call 13; (with_reducible refine (KW.out _ _ _ _ _ hs7).mono ?_); rintro e w8 ⟨A5, n5, c5, zs5, rfl, hs8, hb8⟩; obtain ⟨⟨v0, v1, v2, v3⟩, -⟩ := HV.out _ (belF_al hb8.out (.cells #[.int .u8 (gk : Int), .int .u64 (gb : Int), .int .i64 gd, .int .i64 gi] 34)))
                      | (go_at_call 14; (with_reducible refine (KRS.out _ _ _ _ _ _ _ _ _ hs8).mono ?_); rintro e w10 ⟨rfl, hs10⟩)
                      | (go_at_call 15; (with_reducible refine (KCS.out _ _ _ _ _ _ _ _ _ hs10).mono ?_); rintro e w11 ⟨rfl, hs11⟩))
                    go_roundw
                    case rel => exact ⟨j + 1, A5, n5, c5, zs5, by omega, by go_num, rfl, HFIN.out _ _ _ _ _ _ _ _ hs11⟩
                    case measure => simp [intOf]; omega
            · --@13
              go_wp2_with (first
                | (go_at_call 7; (with_reducible refine (KA.out _ hwr).mono ?_); rintro e w9 ⟨rfl, hs9⟩))
              go_ret
              exact ⟨rfl, hs9.out⟩
end Go.Proofs.YtdcnpaodcjfdbaaGreatDoor
