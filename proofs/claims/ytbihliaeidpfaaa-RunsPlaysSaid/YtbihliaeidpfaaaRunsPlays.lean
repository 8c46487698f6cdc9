/- The walk of layer 6's statement on rows of acts. -/
import Derived.Test.YtbihliaeidpfaaaRunsPlays0
namespace Go.Proofs.Ytbihliaeidpfaaa
open Go.RowKit
set_option linter.unusedVariables false

theorem in64_mk6 {z : Int} (h : -9223372036854775808 ≤ z) (h2 : z ≤ 9223372036854775807) : in64 z := ⟨h, h2⟩

/-- The document's first row. -/
theorem t_put0 {W : World} {A1 A2 : Option Addr} {n c1 m d : Nat} {F0 F : List Bool} {no : Int} (hs : Sl W W.heap.size A1 n (F0.map bv)) (h0 : 1024 ≤ n) (h1 : n ≤ 1024) (k1 : n ≤ c1) (k2 : c1 ≤ 9223372036854775807) (rs : List (Int × Int))
    (hN : fPut F0 rs true = (F, no)) (hs2 : Rn W W.heap.size A2 m rs) (hm : m ≤ 65536) (hr : ∀ r ∈ rs, in64 r.1 ∧ in64 r.2) :
    Calls Try.prog 9 #[.slice A1 n c1, .slice A2 m d, .bool true] W fun e w' => ∃ A' c', e = .returned (.tuple #[.slice A' n c', .int .i64 no]) ∧ Sl w' w'.heap.size A' n (F.map bv) ∧ n ≤ c' ∧ c' ≤ 9223372036854775807 ∧ Below W.heap.size W w' := by
  have hl : F0.length = n := by have := hs.1; simpa using this
  have hl2 := fPut_length F0 rs true
  rw [hN] at hl2
  refine (ref_fput A1 A2 n c1 m d F0 rs true W hs hs2 h1 h0 hm k1 k2 hr).mono ?_
  rw [hN]
  rintro e w' ⟨A', c', rfl, k1, k2, k3, k5, hb, k4⟩
  have e : F.length = n := by simp only at hl2; omega
  simp only [e] at k1 k5 ⊢
  exact ⟨A', c', rfl, k5, k1, k2, hb⟩

set_option maxRecDepth 100000 in
set_option maxHeartbeats 4000000 in
theorem runsPlays_any (A : Option Addr) (m d : Nat) (rs : List (Int × Int)) (A1 : Option Addr) (L c : Nat) (l : List Act6) (n : Int) (w : World) (hm : m ≤ maxLen) (hs : Rn w w.heap.size A m rs) (hr : ∀ r ∈ rs, in64 r.1 ∧ in64 r.2)
    (hL : L ≤ maxLen) (hl : RowOf (Act6Is w) 5 w w.heap.size A1 L l) (hn : in64 n) :
    Calls Try.prog 3 #[.slice A m d, .slice A1 L c, .int .i64 n] w fun e w' => e = .returned (.bool true) ∧ Below w.heap.size w w' := by
  have cw := fun W => awake6 W
  unfold maxLen at hm hL
  by_cases g1 : 20 < m
  · clear hs hr hl hn
    go_enter Try.func3, Try.ntmps3
    go_wp2_with (first | (go_at_call 8; (with_reducible refine (cw _).mono ?_); rintro e w1 ⟨rfl, hb1⟩))
    go_ret
    exact ⟨rfl, hb1⟩
  by_cases g2 : 100 < L
  · clear hs hr hl hn
    go_enter Try.func3, Try.ntmps3
    go_wp2_with (first | (go_at_call 8; (with_reducible refine (cw _).mono ?_); rintro e w1 ⟨rfl, hb1⟩))
    go_ret
    exact ⟨rfl, hb1⟩
  obtain ⟨F0, hF0⟩ : ∃ F0, List.replicate 1024 false = F0 := ⟨_, rfl⟩
  obtain ⟨k, hk⟩ : ∃ k, F0.length = k := ⟨_, rfl⟩
  have hk2 : k = 1024 := by rw [← hk, ← hF0, List.length_replicate]
  have hk0 : 1024 ≤ k := by omega
  have hk1 : k ≤ 1024 := by omega
  obtain ⟨P, hP⟩ : ∃ P, fPut F0 rs true = P := ⟨_, rfl⟩
  obtain ⟨F, no⟩ := P
  have cm := fun W => ref_fnew W
  unfold OwnBools at cm
  rw [hF0, hk] at cm
  have HP := hidb hP
  have HF0 := hidb hF0
  have HS := hidb hs
  have HR := hidb hr
  have HN := hidb hn
  have HRow := hidb hl
  by_cases hno : no = 0
  · subst hno
    clear hs hr hl hn hP hF0 hk hk2
    go_enter Try.func3, Try.ntmps3
    go_wp2_with (first
      | (go_at_call 10; (with_reducible refine (cm _).mono ?_); rintro e w1 ⟨A2, c2, rfl, hown, hb1⟩; have hcap := own_caps hown; have hsl1 := Sl.of_own hown)
      | (go_at_call 9; (with_reducible refine (t_put0 hsl1 hk0 hk1 hcap.1 hcap.2.1 rs HP.out ((HS.out.below hb1).more hb1.size) (by omega) HR.out).mono ?_); rintro e w2 ⟨A3, c3, rfl, hsl2, hc0, hc1, hb2⟩; have hall := hb1.trans (hb2.mono hb1.size))
      | (go_at_call 11; (with_reducible refine (t_new (w := w) _ _ _ rs ((HS.out.below hall).more hall.size) (by omega) HR.out (by rw [HF0.out]; exact HP.out) hall.size (Nat.le_refl _) hsl2 hk0 hk1 hc0 hc1 hall).mono ?_); rintro e w3 ⟨p, S, rfl, hst⟩))
    have R0 := hidb hst
    clear hst hsl2 hc0 hc1 hb2 hall hsl1 hcap hb1 hown cm
    go_loopw [7, 11] (fun v iv wr => ∃ (j : Nat) (f : List Bool) (S : Nat → Prop) (Am : Option Addr) (cm : Nat), j ≤ L ∧ v = .slice Am k cm ∧ iv = .int .i64 j ∧ Hid (St6 w wr p k S f f Am cm)) (fun _ i _ => (L - intOf i).toNat)
    case atStart => exact ⟨0, F, S, A3, c3, Nat.zero_le _, rfl, rfl, R0⟩
    case round =>
      clear R0
      obtain ⟨j, f, S, Am, cm, hj, rfl, rfl, HR6⟩ := hrel
      have hj0 : (0 : Int) ≤ (j : Int) := by omega
      by_cases hjl : j < L
      · have hj1 : (j : Int) < (L : Int) := by omega
        obtain ⟨b, off, y, cs, rfl, hbw, hy, hcl, hcs, hact⟩ := HRow.out.at_ hjl
        obtain ⟨kind, an, ⟨axs, axl⟩, A2, len2, cap2, rs2⟩ := y
        obtain ⟨rfl, ik, ian, ix, il, iR, ir⟩ := hact
        simp only at ik ian ix il iR ir hcs
        have q0 : wr.cell? ⟨b, off + j * 5, none⟩ = some (.int .i64 kind) := (HR6.out.bel.cell (p := ⟨b, off + j * 5, none⟩) hbw).trans (hcs 0 (by decide))
        have q1 : wr.cell? ⟨b, off + j * 5 + 1, none⟩ = some (.int .i64 an) := (HR6.out.bel.cell (p := ⟨b, off + j * 5 + 1, none⟩) hbw).trans (hcs 1 (by decide))
        have q2 : wr.cell? ⟨b, off + j * 5 + 2, none⟩ = some (.int .i64 axs) := (HR6.out.bel.cell (p := ⟨b, off + j * 5 + 2, none⟩) hbw).trans (hcs 2 (by decide))
        have q3 : wr.cell? ⟨b, off + j * 5 + 3, none⟩ = some (.int .i64 axl) := (HR6.out.bel.cell (p := ⟨b, off + j * 5 + 3, none⟩) hbw).trans (hcs 3 (by decide))
        have q4 : wr.cell? ⟨b, off + j * 5 + 4, none⟩ = some (.slice A2 len2 cap2) := (HR6.out.bel.cell (p := ⟨b, off + j * 5 + 4, none⟩) hbw).trans (hcs 4 (by decide))
        clear hcs hcl hy
        unfold maxLen at il
        have HB := hidb HR6.out.bel
        by_cases g4 : 20 < len2
        · clear iR ir ik ian ix hbw
          go_wp2_with (first | (go_at_call 8; (with_reducible refine (cw _).mono ?_); rintro e w4 ⟨rfl, hb4⟩))
          go_ret
          exact ⟨rfl, ((HB.out.alloc HB.out.size _).trans (hb4.mono (by simp; have := HB.out.size; omega)))⟩
        have HRS : Hid (∀ W, Below w.heap.size w W → Rn W W.heap.size A2 len2 rs2) := hidb (fun W hB => (iR.below hB).more hB.size)
        have HIR := hidb ir
        have HIA := hidb ian
        have HIX := hidb ix
        have K0 : Hid (Keeps S (wr.alloc (.cells #[.int .i64 kind, .int .i64 an, .int .i64 axs, .int .i64 axl, .slice A2 len2 cap2] 36)) wr.heap.size [.int .i64 kind, .int .i64 an, .int .i64 axs, .int .i64 axl, .slice A2 len2 cap2]) := hidb (Keeps.new_ HR6.out [.int .i64 kind, .int .i64 an, .int .i64 axs, .int .i64 axl, .slice A2 len2 cap2] _)
        have S0 := HR6.out.alloc (.cells #[.int .i64 kind, .int .i64 an, .int .i64 axs, .int .i64 axl, .slice A2 len2 cap2] 36)
        clear iR ir ian ix hbw
        by_cases k0 : kind = 0
        · subst k0
          obtain ⟨N, hN⟩ : ∃ N, fPut f rs2 true = N := ⟨_, rfl⟩
          obtain ⟨f', no⟩ := N
          have HNN := hidb hN
          have cput := t_fput S0 A2 len2 cap2 rs2 true f' no hN (HRS.out _ S0.bel) (by omega) HIR.out
          have hni : (no != no) = false := by simp
          obtain ⟨xs, xl, ok, hX⟩ : ∃ xs xl ok, ((fBest f' n).getD (0, 0)).1 = xs ∧ ((fBest f' n).getD (0, 0)).2 = xl ∧ (fBest f' n).isSome = ok := ⟨_, _, _, rfl, rfl, rfl⟩
          have HX := hidb hX
          clear S0 hN hX
          go_wp2_with (first
            | (go_at_call 9; (with_reducible refine cput.mono ?_); rintro e w4 ⟨A4, c4, rfl, S4, T4⟩; have K4 := hidb (T4 _ _ K0.out); obtain ⟨y0, y1, y2, y3, y4⟩ := K4.out.act; clear cput T4)
            | (go_at_call 12; (with_reducible refine (t_radd S4 A2 len2 cap2 rs2 f' no HNN.out (HRS.out _ S4.bel) (by omega) HIR.out).mono ?_); rintro e w5 ⟨rfl, S', S5, T5⟩; have K5 := hidb (T5 _ _ K4.out); clear S4 T5)
            | (go_at_call 14; (with_reducible refine (t_fbest S5 n HN.out xs xl ok HX.out.1 HX.out.2.1 HX.out.2.2).mono ?_); rintro e w6 ⟨rfl, S6, T6⟩; have K6 := hidb (T6 _ _ K5.out); clear T6; have X6 := Keeps.new_ S6 [.int .i64 xs, .int .i64 xl] 34; replace S6 := S6.alloc (.cells #[.int .i64 xs, .int .i64 xl] 34))
            | (go_at_call 16; (with_reducible refine (t_rbest S6 n HN.out xs xl ok HX.out.1 HX.out.2.1 HX.out.2.2).mono ?_); rintro e w7 ⟨rfl, S7, T7⟩; have K7 := hidb (T7 _ _ (K6.out.alloc _)); have X7 := hidb (T7 _ _ X6); clear T7 S6))
          have Hb : ∃ bh, fHas f' (axs, axl) = bh := ⟨_, rfl⟩
          obtain ⟨bh, hbh⟩ := Hb
          have HBH := hidb hbh
          have HL : ∃ lst, fList f' = lst := ⟨_, rfl⟩
          obtain ⟨lst, hlst⟩ := HL
          have HLST := hidb hlst
          have hlen : lst.length ≤ 65536 := by
            have h1 := fList_len f'
            have h2 := S7.fr.flen
            rw [hlst] at h1
            omega
          have HLEN := hidb hlen
          obtain ⟨w8, hw8⟩ : ∃ w8, w8 = w7.alloc (.cells #[.int .i64 xs, .int .i64 xl] 34) := ⟨_, rfl⟩
          have Y8 := hidb (Keeps.new_ S7 [.int .i64 xs, .int .i64 xl] 34)
          replace S7 := S7.alloc (.cells #[.int .i64 xs, .int .i64 xl] 34)
          replace K7 := hidb (K7.out.alloc (.cells #[.int .i64 xs, .int .i64 xl] 34))
          replace X7 := hidb (X7.out.alloc (.cells #[.int .i64 xs, .int .i64 xl] 34))
          rw [← hw8] at S7 K7 X7 Y8 ⊢
          clear hw8 hbh hlst hlen
          have HC : Hid (∀ W, To S' w8 S' W → W.cell? ⟨w6.heap.size, 0, none⟩ = some (.int .i64 xs) ∧ W.cell? ⟨w6.heap.size, 1, none⟩ = some (.int .i64 xl) ∧ W.cell? ⟨w7.heap.size, 0, none⟩ = some (.int .i64 xs) ∧ W.cell? ⟨w7.heap.size, 1, none⟩ = some (.int .i64 xl) ∧ W.cell? ⟨wr.heap.size, 2, none⟩ = some (.int .i64 axs) ∧ W.cell? ⟨wr.heap.size, 3, none⟩ = some (.int .i64 axl)) := hidb (fun W hT =>
            ⟨(hT _ _ X7.out).two.1, (hT _ _ X7.out).two.2, (hT _ _ Y8.out).two.1, (hT _ _ Y8.out).two.2, (hT _ _ K7.out).act.2.2.1, (hT _ _ K7.out).act.2.2.2.1⟩)
          have hT : To S' w8 S' w8.drew := To.below S' (Below.refl _ _).drew
          replace S7 := S7.below ((Below.refl w8.heap.size w8).drew)
          obtain ⟨z0, z1, z2, z3, z4, z5⟩ := HC.out _ hT
          have hqs : (ok != ok) = false := by simp
          have hqb : (bh != bh) = false := by simp
          clear q0 q1 q2 q3 q4 HB HRS HIR K0 ik K4 y0 y1 y2 y3 y4 K5 K6 X6 HX HNN HRow g4 il hni hm hL g1 g2 HF0 HS HR HP cw
          clear K7 X7 Y8
          go_region_held3 (fun W => W.cell? ⟨w6.heap.size, 0, none⟩ = some (.int .i64 xs) ∧ W.cell? ⟨w6.heap.size, 1, none⟩ = some (.int .i64 xl) ∧ W.cell? ⟨w7.heap.size, 0, none⟩ = some (.int .i64 xs) ∧ W.cell? ⟨w7.heap.size, 1, none⟩ = some (.int .i64 xl) ∧ W.cell? ⟨wr.heap.size, 2, none⟩ = some (.int .i64 axs) ∧ W.cell? ⟨wr.heap.size, 3, none⟩ = some (.int .i64 axl))
            (first | (go_keep; done) | (exact ⟨by assumption, by assumption, by assumption, by assumption, by assumption, by assumption⟩))
            (first
              | (go_at_call 18; ((with_reducible refine (t_rlist S7 lst HLST.out).mono ?_); rintro e w9 ⟨A9, c9, rfl, rn9, S9, T9⟩; replace hT := hT.trans T9; obtain ⟨a0, a1, a2, a3, a4, a5⟩ := HC.out _ hT; clear S7 T9))
              | (go_at_call 19; ((with_reducible refine (t_flist S9 lst HLST.out _ rn9).mono ?_); rintro e w10 ⟨A10, c10, rfl, rn10, rn9', S10, T10⟩; replace hT := hT.trans T10; obtain ⟨b0, b1, b2, b3, b4, b5⟩ := HC.out _ hT; clear S9 T10 rn9))
              | (go_at_call 17; ((with_reducible refine (t_fsame S10 rn9' rn10 HLEN.out).mono ?_); rintro e w11 ⟨rfl, S11, T11⟩; replace hT := hT.trans T11; obtain ⟨d0, d1, d2, d3, d4, d5⟩ := HC.out _ hT; clear S10 T11 rn10 rn9'))
              | (go_at_call 20; ((with_reducible refine (t_rhas S11 axs axl HIX.out.1 HIX.out.2 bh HBH.out).mono ?_); rintro e w12 ⟨rfl, S12, T12⟩; replace hT := hT.trans T12; obtain ⟨e0, e1, e2, e3, e4, e5⟩ := HC.out _ hT; clear S11 T12))
              | (go_at_call 21; ((with_reducible refine (t_fhas S12 axs axl HIX.out.1 HIX.out.2 bh HBH.out).mono ?_); rintro e w13 ⟨rfl, S13, T13⟩; replace hT := hT.trans T13; obtain ⟨f0, f1, f2, f3, f4, f5⟩ := HC.out _ hT; clear S12 T13)))
          clear HC hT a0 a1 a2 a3 a4 a5 b0 b1 b2 b3 b4 b5 d0 d1 d2 d3 d4 d5 e0 e1 e2 e3 e4 e5 f0 f1 f2 f3 f4 f5 z0 z1 z2 z3 z4 z5
          go_wp2
          go_roundw
          case rel => exact ⟨j + 1, f', S', A4, c4, by omega, rfl, by go_num, hidb S13⟩
          case measure => simp [intOf]; omega
        by_cases k1 : kind = 1
        · subst k1
          obtain ⟨N, hN⟩ : ∃ N, fPut f [(axs, axl)] false = N := ⟨_, rfl⟩
          obtain ⟨f', no⟩ := N
          have HNN := hidb hN
          have S1 := S0.alloc (.cells #[.int .i64 axs, .int .i64 axl] 34)
          have hrow := Rn.one6 (w := wr.alloc (.cells #[.int .i64 1, .int .i64 an, .int .i64 axs, .int .i64 axl, .slice A2 len2 cap2] 36)) axs axl 34
          rw [World.size_alloc] at hrow
          have cput := t_fput S1 (some ⟨wr.heap.size + 1, 0, none⟩) 1 1 [(axs, axl)] false f' no hN (hrow.more (by simp)) (by omega) (fun r hr => by obtain rfl := List.mem_singleton.1 hr; exact HIX.out)
          have hni : (no != no) = false := by simp
          obtain ⟨xs, xl, ok, hX⟩ : ∃ xs xl ok, ((fBest f' n).getD (0, 0)).1 = xs ∧ ((fBest f' n).getD (0, 0)).2 = xl ∧ (fBest f' n).isSome = ok := ⟨_, _, _, rfl, rfl, rfl⟩
          have HX := hidb hX
          clear S0 S1 hrow hN hX
          go_wp2_with (first
            | (go_at_call 9; (with_reducible refine cput.mono ?_); rintro e w4 ⟨A4, c4, rfl, S4, T4⟩; have K4 := hidb (T4 _ _ (K0.out.alloc _)); obtain ⟨y0, y1, y2, y3, y4⟩ := K4.out.act; clear cput T4)
            | (go_at_call 13; (with_reducible refine (t_rcut S4 axs axl f' no HNN.out HIX.out.1 HIX.out.2).mono ?_); rintro e w5 ⟨rfl, S', S5, T5⟩; have K5 := hidb (T5 _ _ K4.out); clear S4 T5)
            | (go_at_call 14; (with_reducible refine (t_fbest S5 n HN.out xs xl ok HX.out.1 HX.out.2.1 HX.out.2.2).mono ?_); rintro e w6 ⟨rfl, S6, T6⟩; have K6 := hidb (T6 _ _ K5.out); clear T6; have X6 := Keeps.new_ S6 [.int .i64 xs, .int .i64 xl] 34; replace S6 := S6.alloc (.cells #[.int .i64 xs, .int .i64 xl] 34))
            | (go_at_call 16; (with_reducible refine (t_rbest S6 n HN.out xs xl ok HX.out.1 HX.out.2.1 HX.out.2.2).mono ?_); rintro e w7 ⟨rfl, S7, T7⟩; have K7 := hidb (T7 _ _ (K6.out.alloc _)); have X7 := hidb (T7 _ _ X6); clear T7 S6))
          have Hb : ∃ bh, fHas f' (axs, axl) = bh := ⟨_, rfl⟩
          obtain ⟨bh, hbh⟩ := Hb
          have HBH := hidb hbh
          have HL : ∃ lst, fList f' = lst := ⟨_, rfl⟩
          obtain ⟨lst, hlst⟩ := HL
          have HLST := hidb hlst
          have hlen : lst.length ≤ 65536 := by
            have h1 := fList_len f'
            have h2 := S7.fr.flen
            rw [hlst] at h1
            omega
          have HLEN := hidb hlen
          obtain ⟨w8, hw8⟩ : ∃ w8, w8 = w7.alloc (.cells #[.int .i64 xs, .int .i64 xl] 34) := ⟨_, rfl⟩
          have Y8 := hidb (Keeps.new_ S7 [.int .i64 xs, .int .i64 xl] 34)
          replace S7 := S7.alloc (.cells #[.int .i64 xs, .int .i64 xl] 34)
          replace K7 := hidb (K7.out.alloc (.cells #[.int .i64 xs, .int .i64 xl] 34))
          replace X7 := hidb (X7.out.alloc (.cells #[.int .i64 xs, .int .i64 xl] 34))
          rw [← hw8] at S7 K7 X7 Y8 ⊢
          clear hw8 hbh hlst hlen
          have HC : Hid (∀ W, To S' w8 S' W → W.cell? ⟨w6.heap.size, 0, none⟩ = some (.int .i64 xs) ∧ W.cell? ⟨w6.heap.size, 1, none⟩ = some (.int .i64 xl) ∧ W.cell? ⟨w7.heap.size, 0, none⟩ = some (.int .i64 xs) ∧ W.cell? ⟨w7.heap.size, 1, none⟩ = some (.int .i64 xl) ∧ W.cell? ⟨wr.heap.size, 2, none⟩ = some (.int .i64 axs) ∧ W.cell? ⟨wr.heap.size, 3, none⟩ = some (.int .i64 axl)) := hidb (fun W hT =>
            ⟨(hT _ _ X7.out).two.1, (hT _ _ X7.out).two.2, (hT _ _ Y8.out).two.1, (hT _ _ Y8.out).two.2, (hT _ _ K7.out).act.2.2.1, (hT _ _ K7.out).act.2.2.2.1⟩)
          have hT : To S' w8 S' w8.drew := To.below S' (Below.refl _ _).drew
          replace S7 := S7.below ((Below.refl w8.heap.size w8).drew)
          obtain ⟨z0, z1, z2, z3, z4, z5⟩ := HC.out _ hT
          have hqs : (ok != ok) = false := by simp
          have hqb : (bh != bh) = false := by simp
          clear q0 q1 q2 q3 q4 HB HRS HIR K0 ik K4 y0 y1 y2 y3 y4 K5 K6 X6 HX HNN HRow g4 il hni hm hL g1 g2 HF0 HS HR HP cw
          clear K7 X7 Y8
          go_region_held3 (fun W => W.cell? ⟨w6.heap.size, 0, none⟩ = some (.int .i64 xs) ∧ W.cell? ⟨w6.heap.size, 1, none⟩ = some (.int .i64 xl) ∧ W.cell? ⟨w7.heap.size, 0, none⟩ = some (.int .i64 xs) ∧ W.cell? ⟨w7.heap.size, 1, none⟩ = some (.int .i64 xl) ∧ W.cell? ⟨wr.heap.size, 2, none⟩ = some (.int .i64 axs) ∧ W.cell? ⟨wr.heap.size, 3, none⟩ = some (.int .i64 axl))
            (first | (go_keep; done) | (exact ⟨by assumption, by assumption, by assumption, by assumption, by assumption, by assumption⟩))
            (first
              | (go_at_call 18; ((with_reducible refine (t_rlist S7 lst HLST.out).mono ?_); rintro e w9 ⟨A9, c9, rfl, rn9, S9, T9⟩; replace hT := hT.trans T9; obtain ⟨a0, a1, a2, a3, a4, a5⟩ := HC.out _ hT; clear S7 T9))
              | (go_at_call 19; ((with_reducible refine (t_flist S9 lst HLST.out _ rn9).mono ?_); rintro e w10 ⟨A10, c10, rfl, rn10, rn9', S10, T10⟩; replace hT := hT.trans T10; obtain ⟨b0, b1, b2, b3, b4, b5⟩ := HC.out _ hT; clear S9 T10 rn9))
              | (go_at_call 17; ((with_reducible refine (t_fsame S10 rn9' rn10 HLEN.out).mono ?_); rintro e w11 ⟨rfl, S11, T11⟩; replace hT := hT.trans T11; obtain ⟨d0, d1, d2, d3, d4, d5⟩ := HC.out _ hT; clear S10 T11 rn10 rn9'))
              | (go_at_call 20; ((with_reducible refine (t_rhas S11 axs axl HIX.out.1 HIX.out.2 bh HBH.out).mono ?_); rintro e w12 ⟨rfl, S12, T12⟩; replace hT := hT.trans T12; obtain ⟨e0, e1, e2, e3, e4, e5⟩ := HC.out _ hT; clear S11 T12))
              | (go_at_call 21; ((with_reducible refine (t_fhas S12 axs axl HIX.out.1 HIX.out.2 bh HBH.out).mono ?_); rintro e w13 ⟨rfl, S13, T13⟩; replace hT := hT.trans T13; obtain ⟨f0, f1, f2, f3, f4, f5⟩ := HC.out _ hT; clear S12 T13)))
          clear HC hT a0 a1 a2 a3 a4 a5 b0 b1 b2 b3 b4 b5 d0 d1 d2 d3 d4 d5 e0 e1 e2 e3 e4 e5 f0 f1 f2 f3 f4 f5 z0 z1 z2 z3 z4 z5
          go_wp2
          go_roundw
          case rel => exact ⟨j + 1, f', S', A4, c4, by omega, rfl, by go_num, hidb S13⟩
          case measure => simp [intOf]; omega
        obtain ⟨xs0, xl0, ok0, hX0⟩ : ∃ xs xl ok, ((fBest f an).getD (0, 0)).1 = xs ∧ ((fBest f an).getD (0, 0)).2 = xl ∧ (fBest f an).isSome = ok := ⟨_, _, _, rfl, rfl, rfl⟩
        obtain ⟨ys0, yl0, hY0⟩ : ∃ ys yl, (((fBest f an).map fun r => (r.1, an)).getD (0, 0)).1 = ys ∧ (((fBest f an).map fun r => (r.1, an)).getD (0, 0)).2 = yl := ⟨_, _, rfl, rfl⟩
        have hY1 : ((fBest f an).map fun r => (r.1, an)).isSome = ok0 := by rw [Option.isSome_map]; exact hX0.2.2
        obtain ⟨f', hf'⟩ : ∃ f', fTake f an = f' := ⟨_, rfl⟩
        have HX0 := hidb hX0
        have HY0 := hidb hY0
        have HY1 := hidb hY1
        have HF := hidb hf'
        obtain ⟨xs, xl, ok, hX⟩ : ∃ xs xl ok, ((fBest f' n).getD (0, 0)).1 = xs ∧ ((fBest f' n).getD (0, 0)).2 = xl ∧ (fBest f' n).isSome = ok := ⟨_, _, _, rfl, rfl, rfl⟩
        have HX := hidb hX
        have hk0' : (kind == 0) = false := by simpa using k0
        have hk1' : (kind == 1) = false := by simpa using k1
        clear hX0 hY0 hY1 hf' hX k0 k1
        have HS0 := hidb S0
        clear S0
        have cb := t_fbest HS0.out an HIA.out xs0 xl0 ok0 HX0.out.1 HX0.out.2.1 HX0.out.2.2
        cases hB : fBest f an with
        | none =>
          obtain ⟨e1, e2, e3⟩ := HX0.out
          obtain ⟨e4, e5⟩ := HY0.out
          rw [hB] at e1 e2 e3 e4 e5
          obtain rfl : xs0 = 0 := e1.symm
          obtain rfl : xl0 = 0 := e2.symm
          obtain rfl : ok0 = false := e3.symm
          obtain rfl : ys0 = 0 := e4.symm
          obtain rfl : yl0 = 0 := e5.symm
          have hff : f' = f := by rw [← HF.out]; unfold fTake; rw [hB]
          subst hff
          clear e1 e2 e3 e4 e5 hB
          go_wp2_with (first
            | (go_at_call 14; (with_reducible refine cb.mono ?_); rintro e w4 ⟨rfl, S4, T4⟩; have K4 := hidb ((T4 _ _ K0.out).alloc (.cells #[.int .i64 0, .int .i64 0] 34)); obtain ⟨y0, y1, y2, y3, y4⟩ := K4.out.act; have XX4 := Keeps.new_ S4 [.int .i64 0, .int .i64 0] 34; replace S4 := S4.alloc (.cells #[.int .i64 0, .int .i64 0] 34); clear cb T4)
            | (go_at_call 15; (with_reducible refine (t_rtake S4 an HIA.out 0 0 false HY0.out.1 HY0.out.2 HY1.out).mono ?_); rintro e w5 ⟨rfl, S', S5, T5⟩; have K5 := hidb ((T5 _ _ K4.out).alloc (.cells #[.int .i64 0, .int .i64 0] 34)); have XX5 := hidb ((T5 _ _ XX4).alloc (.cells #[.int .i64 0, .int .i64 0] 34)); have YY5 := hidb (Keeps.new_ S5 [.int .i64 0, .int .i64 0] 34); replace S5 := S5.alloc (.cells #[.int .i64 0, .int .i64 0] 34); rw [HF.out] at S5; obtain ⟨u0, u1⟩ := XX5.out.two; obtain ⟨v0, v1⟩ := YY5.out.two; clear S4 T5 XX4)
            | (go_at_call 14; (with_reducible refine (t_fbest S5 n HN.out xs xl ok HX.out.1 HX.out.2.1 HX.out.2.2).mono ?_); rintro e w6 ⟨rfl, S6, T6⟩; have K6 := hidb (T6 _ _ K5.out); clear T6; have X6 := Keeps.new_ S6 [.int .i64 xs, .int .i64 xl] 34; replace S6 := S6.alloc (.cells #[.int .i64 xs, .int .i64 xl] 34))
            | (go_at_call 16; (with_reducible refine (t_rbest S6 n HN.out xs xl ok HX.out.1 HX.out.2.1 HX.out.2.2).mono ?_); rintro e w7 ⟨rfl, S7, T7⟩; have K7 := hidb (T7 _ _ (K6.out.alloc _)); have X7 := hidb (T7 _ _ X6); clear T7 S6))
          clear HS0 K4 y0 y1 y2 y3 y4 K5 XX5 YY5 u0 u1 v0 v1
          have Hb : ∃ bh, fHas f' (axs, axl) = bh := ⟨_, rfl⟩
          obtain ⟨bh, hbh⟩ := Hb
          have HBH := hidb hbh
          have HL : ∃ lst, fList f' = lst := ⟨_, rfl⟩
          obtain ⟨lst, hlst⟩ := HL
          have HLST := hidb hlst
          have hlen : lst.length ≤ 65536 := by
            have h1 := fList_len f'
            have h2 := S7.fr.flen
            rw [hlst] at h1
            omega
          have HLEN := hidb hlen
          obtain ⟨w8, hw8⟩ : ∃ w8, w8 = w7.alloc (.cells #[.int .i64 xs, .int .i64 xl] 34) := ⟨_, rfl⟩
          have Y8 := hidb (Keeps.new_ S7 [.int .i64 xs, .int .i64 xl] 34)
          replace S7 := S7.alloc (.cells #[.int .i64 xs, .int .i64 xl] 34)
          replace K7 := hidb (K7.out.alloc (.cells #[.int .i64 xs, .int .i64 xl] 34))
          replace X7 := hidb (X7.out.alloc (.cells #[.int .i64 xs, .int .i64 xl] 34))
          rw [← hw8] at S7 K7 X7 Y8 ⊢
          clear hw8 hbh hlst hlen
          have HC : Hid (∀ W, To S' w8 S' W → W.cell? ⟨w6.heap.size, 0, none⟩ = some (.int .i64 xs) ∧ W.cell? ⟨w6.heap.size, 1, none⟩ = some (.int .i64 xl) ∧ W.cell? ⟨w7.heap.size, 0, none⟩ = some (.int .i64 xs) ∧ W.cell? ⟨w7.heap.size, 1, none⟩ = some (.int .i64 xl) ∧ W.cell? ⟨wr.heap.size, 2, none⟩ = some (.int .i64 axs) ∧ W.cell? ⟨wr.heap.size, 3, none⟩ = some (.int .i64 axl)) := hidb (fun W hT =>
            ⟨(hT _ _ X7.out).two.1, (hT _ _ X7.out).two.2, (hT _ _ Y8.out).two.1, (hT _ _ Y8.out).two.2, (hT _ _ K7.out).act.2.2.1, (hT _ _ K7.out).act.2.2.2.1⟩)
          have hT : To S' w8 S' w8.drew := To.below S' (Below.refl _ _).drew
          replace S7 := S7.below ((Below.refl w8.heap.size w8).drew)
          obtain ⟨z0, z1, z2, z3, z4, z5⟩ := HC.out _ hT
          have hqs : (ok != ok) = false := by simp
          have hqb : (bh != bh) = false := by simp
          clear q0 q1 q2 q3 q4 HB HRS HIR K0 ik K6 X6 HX HRow g4 il hm hL g1 g2 HF0 HS HR HP cw HX0 HY0 HY1 HF hk0' hk1'
          clear K7 X7 Y8
          go_region_held3 (fun W => W.cell? ⟨w6.heap.size, 0, none⟩ = some (.int .i64 xs) ∧ W.cell? ⟨w6.heap.size, 1, none⟩ = some (.int .i64 xl) ∧ W.cell? ⟨w7.heap.size, 0, none⟩ = some (.int .i64 xs) ∧ W.cell? ⟨w7.heap.size, 1, none⟩ = some (.int .i64 xl) ∧ W.cell? ⟨wr.heap.size, 2, none⟩ = some (.int .i64 axs) ∧ W.cell? ⟨wr.heap.size, 3, none⟩ = some (.int .i64 axl))
            (first | (go_keep; done) | (exact ⟨by assumption, by assumption, by assumption, by assumption, by assumption, by assumption⟩))
            (first
              | (go_at_call 18; ((with_reducible refine (t_rlist S7 lst HLST.out).mono ?_); rintro e w9 ⟨A9, c9, rfl, rn9, S9, T9⟩; replace hT := hT.trans T9; obtain ⟨a0, a1, a2, a3, a4, a5⟩ := HC.out _ hT; clear S7 T9))
              | (go_at_call 19; ((with_reducible refine (t_flist S9 lst HLST.out _ rn9).mono ?_); rintro e w10 ⟨A10, c10, rfl, rn10, rn9', S10, T10⟩; replace hT := hT.trans T10; obtain ⟨b0, b1, b2, b3, b4, b5⟩ := HC.out _ hT; clear S9 T10 rn9))
              | (go_at_call 17; ((with_reducible refine (t_fsame S10 rn9' rn10 HLEN.out).mono ?_); rintro e w11 ⟨rfl, S11, T11⟩; replace hT := hT.trans T11; obtain ⟨d0, d1, d2, d3, d4, d5⟩ := HC.out _ hT; clear S10 T11 rn10 rn9'))
              | (go_at_call 20; ((with_reducible refine (t_rhas S11 axs axl HIX.out.1 HIX.out.2 bh HBH.out).mono ?_); rintro e w12 ⟨rfl, S12, T12⟩; replace hT := hT.trans T12; obtain ⟨e0, e1, e2, e3, e4, e5⟩ := HC.out _ hT; clear S11 T12))
              | (go_at_call 21; ((with_reducible refine (t_fhas S12 axs axl HIX.out.1 HIX.out.2 bh HBH.out).mono ?_); rintro e w13 ⟨rfl, S13, T13⟩; replace hT := hT.trans T13; obtain ⟨f0, f1, f2, f3, f4, f5⟩ := HC.out _ hT; clear S12 T13)))
          clear HC hT a0 a1 a2 a3 a4 a5 b0 b1 b2 b3 b4 b5 d0 d1 d2 d3 d4 d5 e0 e1 e2 e3 e4 e5 f0 f1 f2 f3 f4 f5 z0 z1 z2 z3 z4 z5
          go_wp2
          go_roundw
          case rel => exact ⟨j + 1, f', S', Am, cm, by omega, rfl, by go_num, hidb S13⟩
          case measure => simp [intOf]; omega
        | some r =>
          obtain ⟨g, hg, hmay, _⟩ := take_ok HR6.out.fr.flen hB
          obtain ⟨m1, m2, m3⟩ := (fMay_iff (r.1, an)).1 hmay
          simp only at m1 m2 m3
          obtain ⟨e1, e2, e3⟩ := HX0.out
          obtain ⟨e4, e5⟩ := HY0.out
          rw [hB] at e1 e2 e3 e4 e5
          obtain rfl : r.1 = xs0 := e1
          obtain rfl : r.2 = xl0 := e2
          obtain rfl : ok0 = true := e3.symm
          obtain rfl : r.1 = ys0 := e4
          obtain rfl : an = yl0 := e5
          obtain ⟨xs0, xl0⟩ := r
          simp only at m1 m2 m3 hg hmay HX0 HY0 cb
          have hff : f' = g := by rw [← HF.out]; unfold fTake; rw [hB]; simp only; rw [hg]
          subst hff
          have HPUT := hidb hg
          have HI0 : Hid (in64 xs0 ∧ in64 an) := hidb ⟨⟨by omega, by omega⟩, HIA.out⟩
          clear e3 hB hg hmay m1 m2 m3
          go_wp2_with (first
            | (go_at_call 14; (with_reducible refine cb.mono ?_); rintro e w4 ⟨rfl, S4, T4⟩; have HAM := hidb S4.apLt; have HW4 := hidb S4.bel.size; have HLT4 := hidb (T4 _ _ K0.out).1; have K4 := hidb ((T4 _ _ K0.out).alloc (.cells #[.int .i64 xs0, .int .i64 xl0] 34)); obtain ⟨y0, y1, y2, y3, y4⟩ := K4.out.act; have XX4 := Keeps.new_ S4 [.int .i64 xs0, .int .i64 xl0] 34; replace S4 := S4.alloc (.cells #[.int .i64 xs0, .int .i64 xl0] 34); clear cb T4)
            | (go_at_call 15; (with_reducible refine (t_rtake S4 an HIA.out xs0 an true HY0.out.1 HY0.out.2 HY1.out).mono ?_); rintro e w5 ⟨rfl, S', S5, T5⟩; have HLT5 := hidb (T5 _ _ XX4).1; have K5 := hidb ((T5 _ _ K4.out).alloc (.cells #[.int .i64 xs0, .int .i64 an] 34)); have XX5 := hidb ((T5 _ _ XX4).alloc (.cells #[.int .i64 xs0, .int .i64 an] 34)); have YY5 := hidb (Keeps.new_ S5 [.int .i64 xs0, .int .i64 an] 34); replace S5 := S5.alloc (.cells #[.int .i64 xs0, .int .i64 an] 34); rw [HF.out] at S5; obtain ⟨u0, u1⟩ := XX5.out.two; have u2 := XX5.out.2.2.2 1; obtain ⟨v0, v1⟩ := YY5.out.two; have v5 := K5.out.act.2.1; clear S4 T5 XX4 y0 y1 y2 y3 y4))
          have hw4 := HW4.out
          have l4 := HLT4.out
          have l5 := HLT5.out
          obtain ⟨S6, XX6, hset⟩ := S5.set_ XX5.out (fun a e c => by have := HAM.out a e; omega) hw4 (.int .i64 an)
          have K6 := hset _ _ (by omega) K5.out
          have YY6 := hset _ _ (by omega) YY5.out
          obtain ⟨W6, hW6⟩ : ∃ W6, W6 = (w5.alloc (.cells #[.int .i64 xs0, .int .i64 an] 34)).setCell ⟨w4.heap.size, 1, none⟩ (.int .i64 an) := ⟨_, rfl⟩
          have hz6 : W6.heap.size = w5.heap.size + 1 := by rw [hW6]; simp
          rw [← hW6] at S6 XX6 K6 YY6 ⊢
          have hrow := Rn.one6 (w := W6) xs0 an 34
          rw [hz6] at hrow
          refine (t_fput (S6.alloc (.cells #[.int .i64 xs0, .int .i64 an] 34)) (some ⟨w5.heap.size + 1, 0, none⟩) 1 1 [(xs0, an)] false f' 0 HPUT.out (hrow.more (by simp; omega)) (by omega) (fun r hr => by obtain rfl := List.mem_singleton.1 hr; exact HI0.out)).mono ?_
          clear S5 K5
          rintro e w8 ⟨A4, c4, rfl, S5, T8⟩
          have K5 := hidb (T8 _ _ (K6.alloc _))
          have XX8 := T8 _ _ (XX6.alloc (.cells #[.int .i64 xs0, .int .i64 an] 34))
          have YY8 := T8 _ _ (YY6.alloc (.cells #[.int .i64 xs0, .int .i64 an] 34))
          obtain ⟨p0, p1⟩ := XX8.two
          obtain ⟨p2, p3⟩ := YY8.two
          clear XX8 YY8 T8 XX6 YY6 K6 S6 hset hrow hW6 hz6 XX5 YY5 u0 u1 u2 v0 v1 v5 HAM HW4 HLT4 HLT5 K4 hw4 l4 l5 HS0
          go_wp2_with (first
            | (go_at_call 14; (with_reducible refine (t_fbest S5 n HN.out xs xl ok HX.out.1 HX.out.2.1 HX.out.2.2).mono ?_); rintro e w6 ⟨rfl, S6, T6⟩; have K6 := hidb (T6 _ _ K5.out); clear T6; have X6 := Keeps.new_ S6 [.int .i64 xs, .int .i64 xl] 34; replace S6 := S6.alloc (.cells #[.int .i64 xs, .int .i64 xl] 34))
            | (go_at_call 16; (with_reducible refine (t_rbest S6 n HN.out xs xl ok HX.out.1 HX.out.2.1 HX.out.2.2).mono ?_); rintro e w7 ⟨rfl, S7, T7⟩; have K7 := hidb (T7 _ _ (K6.out.alloc _)); have X7 := hidb (T7 _ _ X6); clear T7 S6))
          clear p0 p1 p2 p3 K5 S5 HPUT HI0
          have Hb : ∃ bh, fHas f' (axs, axl) = bh := ⟨_, rfl⟩
          obtain ⟨bh, hbh⟩ := Hb
          have HBH := hidb hbh
          have HL : ∃ lst, fList f' = lst := ⟨_, rfl⟩
          obtain ⟨lst, hlst⟩ := HL
          have HLST := hidb hlst
          have hlen : lst.length ≤ 65536 := by
            have h1 := fList_len f'
            have h2 := S7.fr.flen
            rw [hlst] at h1
            omega
          have HLEN := hidb hlen
          obtain ⟨w8, hw8⟩ : ∃ w8, w8 = w7.alloc (.cells #[.int .i64 xs, .int .i64 xl] 34) := ⟨_, rfl⟩
          have Y8 := hidb (Keeps.new_ S7 [.int .i64 xs, .int .i64 xl] 34)
          replace S7 := S7.alloc (.cells #[.int .i64 xs, .int .i64 xl] 34)
          replace K7 := hidb (K7.out.alloc (.cells #[.int .i64 xs, .int .i64 xl] 34))
          replace X7 := hidb (X7.out.alloc (.cells #[.int .i64 xs, .int .i64 xl] 34))
          rw [← hw8] at S7 K7 X7 Y8 ⊢
          clear hw8 hbh hlst hlen
          have HC : Hid (∀ W, To S' w8 S' W → W.cell? ⟨w6.heap.size, 0, none⟩ = some (.int .i64 xs) ∧ W.cell? ⟨w6.heap.size, 1, none⟩ = some (.int .i64 xl) ∧ W.cell? ⟨w7.heap.size, 0, none⟩ = some (.int .i64 xs) ∧ W.cell? ⟨w7.heap.size, 1, none⟩ = some (.int .i64 xl) ∧ W.cell? ⟨wr.heap.size, 2, none⟩ = some (.int .i64 axs) ∧ W.cell? ⟨wr.heap.size, 3, none⟩ = some (.int .i64 axl)) := hidb (fun W hT =>
            ⟨(hT _ _ X7.out).two.1, (hT _ _ X7.out).two.2, (hT _ _ Y8.out).two.1, (hT _ _ Y8.out).two.2, (hT _ _ K7.out).act.2.2.1, (hT _ _ K7.out).act.2.2.2.1⟩)
          have hT : To S' w8 S' w8.drew := To.below S' (Below.refl _ _).drew
          replace S7 := S7.below ((Below.refl w8.heap.size w8).drew)
          obtain ⟨z0, z1, z2, z3, z4, z5⟩ := HC.out _ hT
          have hqs : (ok != ok) = false := by simp
          have hqb : (bh != bh) = false := by simp
          clear q0 q1 q2 q3 q4 HB HRS HIR K0 ik K6 X6 HX HRow g4 il hm hL g1 g2 HF0 HS HR HP cw HX0 HY0 HY1 HF hk0' hk1'
          clear K7 X7 Y8
          go_region_held3 (fun W => W.cell? ⟨w6.heap.size, 0, none⟩ = some (.int .i64 xs) ∧ W.cell? ⟨w6.heap.size, 1, none⟩ = some (.int .i64 xl) ∧ W.cell? ⟨w7.heap.size, 0, none⟩ = some (.int .i64 xs) ∧ W.cell? ⟨w7.heap.size, 1, none⟩ = some (.int .i64 xl) ∧ W.cell? ⟨wr.heap.size, 2, none⟩ = some (.int .i64 axs) ∧ W.cell? ⟨wr.heap.size, 3, none⟩ = some (.int .i64 axl))
            (first | (go_keep; done) | (exact ⟨by assumption, by assumption, by assumption, by assumption, by assumption, by assumption⟩))
            (first
              | (go_at_call 18; ((with_reducible refine (t_rlist S7 lst HLST.out).mono ?_); rintro e w9 ⟨A9, c9, rfl, rn9, S9, T9⟩; replace hT := hT.trans T9; obtain ⟨a0, a1, a2, a3, a4, a5⟩ := HC.out _ hT; clear S7 T9))
              | (go_at_call 19; ((with_reducible refine (t_flist S9 lst HLST.out _ rn9).mono ?_); rintro e w10 ⟨A10, c10, rfl, rn10, rn9', S10, T10⟩; replace hT := hT.trans T10; obtain ⟨b0, b1, b2, b3, b4, b5⟩ := HC.out _ hT; clear S9 T10 rn9))
              | (go_at_call 17; ((with_reducible refine (t_fsame S10 rn9' rn10 HLEN.out).mono ?_); rintro e w11 ⟨rfl, S11, T11⟩; replace hT := hT.trans T11; obtain ⟨d0, d1, d2, d3, d4, d5⟩ := HC.out _ hT; clear S10 T11 rn10 rn9'))
              | (go_at_call 20; ((with_reducible refine (t_rhas S11 axs axl HIX.out.1 HIX.out.2 bh HBH.out).mono ?_); rintro e w12 ⟨rfl, S12, T12⟩; replace hT := hT.trans T12; obtain ⟨e0, e1, e2, e3, e4, e5⟩ := HC.out _ hT; clear S11 T12))
              | (go_at_call 21; ((with_reducible refine (t_fhas S12 axs axl HIX.out.1 HIX.out.2 bh HBH.out).mono ?_); rintro e w13 ⟨rfl, S13, T13⟩; replace hT := hT.trans T13; obtain ⟨f0, f1, f2, f3, f4, f5⟩ := HC.out _ hT; clear S12 T13)))
          clear HC hT a0 a1 a2 a3 a4 a5 b0 b1 b2 b3 b4 b5 d0 d1 d2 d3 d4 d5 e0 e1 e2 e3 e4 e5 f0 f1 f2 f3 f4 f5 z0 z1 z2 z3 z4 z5
          go_wp2
          go_roundw
          case rel => exact ⟨j + 1, f', S', A4, c4, by omega, rfl, by go_num, hidb S13⟩
          case measure => simp [intOf]; omega
      · obtain rfl : j = L := by omega
        have HB := hidb HR6.out.bel
        obtain ⟨pg, hpg⟩ : ∃ pg, fPages f = pg := ⟨_, rfl⟩
        have cp := t_rpages HR6.out pg hpg
        have hpe : ((pg : Int) == (pg : Int)) = true := by simp
        have HPG := hidb hpg
        clear hpg
        go_wp2_with (first
          | (go_at_call 22; (with_reducible refine cp.mono ?_); rintro e w4 ⟨rfl, S4, T4⟩; have hb4 := S4.bel; have cq := t_fpages S4 pg HPG.out; clear S4 T4 cp)
          | (go_at_call 23; (with_reducible refine cq.mono ?_); rintro e w' ⟨rfl, rfl⟩)
          | (go_at_call 8; (with_reducible refine (cw _).mono ?_); rintro e w5 ⟨rfl, hb5⟩))
        go_ret
        exact ⟨rfl, hb4.trans (hb5.mono hb4.size)⟩
  · have hne : (no != 0) = true := by simpa using hno
    have hne2 : (no == 0) = false := by simpa using hno
    have HNO := hidb hno
    clear hs hr hn hl hP hF0 hk hk2 hno
    go_enter Try.func3, Try.ntmps3
    go_wp2_with (first
      | (go_at_call 10; (with_reducible refine (cm _).mono ?_); rintro e w1 ⟨A2, c2, rfl, hown, hb1⟩; have hcap := own_caps hown; have hsl1 := Sl.of_own hown)
      | (go_at_call 9; (with_reducible refine (t_put0 hsl1 hk0 hk1 hcap.1 hcap.2.1 rs HP.out ((HS.out.below hb1).more hb1.size) (by omega) HR.out).mono ?_); rintro e w2 ⟨A3, c3, rfl, hsl2, hc0, hc1, hb2⟩; have hall := hb1.trans (hb2.mono hb1.size))
      | (go_at_call 11; (with_reducible refine (new_no (d := d) ((HS.out.below hall).more hall.size) (by omega) HR.out (by rw [HF0.out]; exact HP.out) HNO.out).mono ?_); rintro e w3 ⟨rfl, hb3⟩))
    have R0 := hidb (hall.trans (hb3.mono hall.size))
    clear hsl2 hc0 hc1 hb2 hall hsl1 hcap hb1 hown cm hb3
    go_loopw [7, 11] (fun v iv wr => v = .slice A3 k c3 ∧ iv = .int .i64 0 ∧ Hid (Below w.heap.size w wr)) (fun _ i _ => 0)
    case atStart => exact ⟨rfl, rfl, R0⟩
    case round =>
      clear R0
      obtain ⟨rfl, rfl, HB⟩ := hrel
      go_wp2_with (first | (go_at_call 8; (with_reducible refine (cw _).mono ?_); rintro e w5 ⟨rfl, hb5⟩))
      all_goals go_ret
      all_goals exact ⟨rfl, HB.out.trans (hb5.mono HB.out.size)⟩

end Go.Proofs.Ytbihliaeidpfaaa
