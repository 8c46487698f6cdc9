/- The walk of layer 4's statement on rows of acts. -/
import Derived.Test.YtpfhmccafcpflaaArenaPlays0
import Derived.Deep.RegionHeld3
namespace Go.Proofs.Ytpfhmccafcpflaa
open Go.RowKit
set_option linter.unusedVariables false

/-- Both sides at a round's head. -/
structure Rnd (w W : World) (p g len : Nat) (xs : List Nat) (Am : Option Addr) (cm : Nat) : Prop where
  ar : Ar W w.heap.size p g len xs
  row : W.ownsRow w.heap.size 40 1 (.slice Am len cm) len (xs.map wv)
  apart : (Value.slice Am len cm).ownBlock ≠ some g
  bel : Below w.heap.size w W
theorem St.rnd {w W : World} {p g len px : Nat} {kd at' fr n : Int} {A2 : Option Addr} {len2 cap2 : Nat} {xs : List Nat} {Am : Option Addr} {cm : Nat} (h : St w W p g len px kd at' fr n A2 len2 cap2 xs xs Am cm) : Rnd w W p g len xs Am cm := ⟨h.ar, h.row, h.apart, h.bel⟩

theorem Ar.drewN {w : World} {B p g len : Nat} {xs : List Nat} (h : Ar w B p g len xs) (q : Nat) : Ar (w.drewN q) B p g len xs := ⟨h.cell, h.heap, h.hlen, h.ge, h.geg, h.ne, h.small⟩
theorem St.drewN {w W : World} {p g len px : Nat} {kd at' fr n : Int} {A2 : Option Addr} {len2 cap2 : Nat} {xs ms : List Nat} {Am : Option Addr} {cm : Nat} (h : St w W p g len px kd at' fr n A2 len2 cap2 xs ms Am cm) (q : Nat) : St w (W.drewN q) p g len px kd at' fr n A2 len2 cap2 xs ms Am cm :=
  ⟨h.ar.drewN q, h.row, h.apart, belowN h.bel q, h.x0, h.x1, h.x2, h.x3, h.x4, h.nx, h.pos, fun A k ys hs => (h.kept A k ys hs).drewN q⟩
theorem St.qin {w W : World} {p g len px : Nat} {kd at' fr n : Int} {A2 : Option Addr} {len2 cap2 : Nat} {xs ms : List Nat} {Am : Option Addr} {cm : Nat} (h : St w W p g len px kd at' fr n A2 len2 cap2 xs ms Am cm) (a k : Int) (h0 : in64 a) (h1 : in64 k) (q : Nat) :
    Calls Try.prog 21 #[.pointer (some ⟨p, 0, none⟩), .int .i64 a, .int .i64 k] (W.drewN q) fun e w' => e = .returned (.bool (aIn len a k)) ∧ ∃ m, w' = W.drewN m :=
  (t_in (h.drewN q) a k h0 h1).mono fun _ _ ⟨x, y⟩ => ⟨x, q, y.symm⟩
theorem St.qrefIn {w W : World} {p g len px : Nat} {kd at' fr n : Int} {A2 : Option Addr} {len2 cap2 : Nat} {xs ms : List Nat} {Am : Option Addr} {cm : Nat} (h : St w W p g len px kd at' fr n A2 len2 cap2 xs ms Am cm) (a k : Int) (h0 : in64 a) (h1 : in64 k) (q : Nat) :
    Calls Try.prog 16 #[.slice Am len cm, .int .i64 a, .int .i64 k] (W.drewN q) fun e w' => e = .returned (.bool (aIn len a k)) ∧ ∃ m, w' = W.drewN m :=
  (t_refIn (h.drewN q) a k h0 h1).mono fun _ _ ⟨x, y⟩ => ⟨x, q, y.symm⟩

theorem Rnd.act {w W : World} {p g len : Nat} {xs : List Nat} {Am : Option Addr} {cm : Nat} (h : Rnd w W p g len xs Am cm) (hp : 0 < len) (kd at' fr n : Int) (A2 : Option Addr) (len2 cap2 : Nat) :
    St w (W.alloc (.cells #[.int .i64 kd, .int .i64 at', .int .i64 fr, .int .i64 n, .slice A2 len2 cap2] 33)) p g len W.heap.size kd at' fr n A2 len2 cap2 xs xs Am cm := by
  have hb : Below W.heap.size W (W.alloc (.cells #[.int .i64 kd, .int .i64 at', .int .i64 fr, .int .i64 n, .slice A2 len2 cap2] 33)) := (Below.refl _ _).alloc (Nat.le_refl _) _
  exact ⟨h.ar.alloc _, h.row.alloc _, h.apart, h.bel.trans (hb.mono h.bel.size), by simp, by simp, by simp, by simp, by simp, by have := h.ar.lt; omega, hp, fun A k ys hs => hs.below (h.bel.trans (hb.mono h.bel.size))⟩

theorem t_rowPair {w : World} {p g len px : Nat} {kd at' fr n : Int} {A2 : Option Addr} {len2 cap2 : Nat} {xs : List Nat} {Am : Option Addr} {cm : Nat} (a k : Int) (h0 : in64 a) (h1 : in64 k) (hlen : len ≤ 65536) :
    ∃ (N : Nat) (no : Int) (zs : List Nat), N ≤ 65536 ∧
      (∀ W, St w W p g len px kd at' fr n A2 len2 cap2 xs xs Am cm → Calls Try.prog 14 #[.slice Am len cm, .int .i64 a, .int .i64 k] W fun e w' => ∃ A' c', e = .returned (.tuple #[.slice A' N c', .int .i64 no]) ∧ Sl w' w'.heap.size A' N (zs.map wv) ∧ St w w' p g len px kd at' fr n A2 len2 cap2 xs xs Am cm) ∧
      (∀ W, St w W p g len px kd at' fr n A2 len2 cap2 xs xs Am cm → Calls Try.prog 19 #[.pointer (some ⟨p, 0, none⟩), .int .i64 a, .int .i64 k] W fun e w' => ∃ A' c', e = .returned (.tuple #[.slice A' N c', .int .i64 no]) ∧ w'.ownsRow W.heap.size 40 1 (.slice A' N c') N (zs.map wv) ∧ Below W.heap.size W w') := by
  cases hin : aIn len a k with
  | true =>
    have := (in_nat hin).2.2
    exact ⟨k.toNat, 0, aRow xs a.toNat k.toNat, by omega, fun W h => t_refRow h a k hin, fun W h => t_row h a k hin⟩
  | false => exact ⟨0, 2, [], by omega, fun W h => t_refRow_no h a k h0 h1 hin, fun W h => t_row_no h a k h0 h1 hin⟩

theorem make_words (n : Int) (h0 : 0 ≤ n) (h1 : n ≤ 65536) (W : World) : (Instr.makeSlice 28 (.int .i64 n) (.int .i64 n)).run Try.prog W = .ok (.slice (some ⟨W.heap.size, 0, none⟩) n.toNat n.toNat) (W.alloc (.cells ((List.replicate n.toNat 0).map wv).toArray 40)) := by
  obtain ⟨k, rfl⟩ : ∃ k : Nat, n = (k : Int) := ⟨n.toNat, by omega⟩
  obtain ⟨i0, hi, hz0, hz1, hz2⟩ := info_parts info_u64
  have hr := run_make (P := Try.prog) W 28 40 i0 (.int .u64 0) Try.underlying28 hi hz0 .i64 .i64 k k (by omega) (Int.le_refl _) (by rw [hz2]; omega) (by omega)
  rw [hr]
  have e : madeCells (Value.int .u64 0).cells ((k : Int).toNat * i0.size) = ((List.replicate (k : Int).toNat 0).map wv).toArray := by
    apply Array.toList_inj.1
    rw [hz1]
    exact zero_words _
  rw [e]
theorem St.zeros {w W : World} {p g len px : Nat} {kd at' fr n : Int} {A2 : Option Addr} {len2 cap2 : Nat} {xs ms : List Nat} {Am : Option Addr} {cm : Nat} (h : St w W p g len px kd at' fr n A2 len2 cap2 xs ms Am cm) (a k : Int) (hin : aIn len a k = true) :
    Calls Try.prog 12 #[.slice Am len cm, .int .i64 a, .slice (some ⟨W.heap.size, 0, none⟩) k.toNat k.toNat] ((W.alloc (.cells (Array.replicate k.toNat (wv 0)) 40)).drew) fun e w' => ∃ A' c', e = .returned (.tuple #[.slice A' len c', .int .i64 0]) ∧ St w w' p g len px kd at' fr n A2 len2 cap2 xs (aStore ms a.toNat (List.replicate k.toNat 0)) A' c' := by
  have hk := (in_nat hin).2.1
  have hb : Below W.heap.size W ((W.alloc (.cells (Array.replicate k.toNat (wv 0)) 40)).drew) := ((Below.refl _ _).alloc (Nat.le_refl _) _).drew
  refine t_refStore (h.below hb) a _ k.toNat k.toNat (List.replicate k.toNat 0) ⟨by simp, fun hn => ⟨W.heap.size, 0, rfl, by show _ < (W.alloc _).heap.size; simp, fun j hj => ?_⟩⟩ (by rw [← hk]; exact hin)
  show (W.alloc _).cell? _ = _
  rw [Nat.zero_add]
  simp [hj]

set_option maxRecDepth 100000 in
set_option maxHeartbeats 4000000 in
theorem arenaPlays_any (pages : Int) (A : Option Addr) (L c : Nat) (l : List ActV) (w : World) (h0 : in64 pages) (hL : L ≤ maxLen) (hl : RowOf (ActIs w) 5 w w.heap.size A L l) :
    Calls Try.prog 3 #[.int .i64 pages, .slice A L c] w fun e w' => e = .returned (.bool true) ∧ Below w.heap.size w w' := by
  have ca := fun W => awake_any W
  unfold maxLen at hL
  obtain ⟨h00, h01⟩ := h0
  have c0 := fun (m : Nat) h4 h5 => code_anew m w h4 h5
  by_cases g1 : 20 < pages
  · clear hl c0
    go_enter Try.func3, Try.ntmps3
    go_wp2_with (go_at_call 8; refine (ca _).mono ?_; rintro e w1 ⟨rfl, hb1⟩)
    go_ret
    exact ⟨rfl, hb1⟩
  by_cases g2 : 100 < L
  · clear hl c0
    go_enter Try.func3, Try.ntmps3
    go_wp2_with (go_at_call 8; refine (ca _).mono ?_; rintro e w1 ⟨rfl, hb1⟩)
    go_ret
    exact ⟨rfl, hb1⟩
  by_cases g3 : pages < 4
  · have c1 := code_anew_no pages w (Or.inl g3)
    have c2 := ref_anew_no pages w (Or.inl g3)
    have c3 := fun W => code_awords_nil W
    clear hl c0
    go_enter Try.func3, Try.ntmps3
    go_wp2_with (first
      | (go_at_call 9; refine c1.mono ?_; rintro e w' ⟨rfl, rfl⟩)
      | (go_at_call 10; refine c2.mono ?_; rintro e w2 ⟨A2, c2, rfl, hown2, hb2⟩)
      | (go_at_call 11; refine (c3 _).mono ?_; rintro e w' ⟨rfl, rfl⟩)
      | (go_at_call 8; refine (ca _).mono ?_; rintro e w3 ⟨rfl, hb3⟩))
    go_ret
    exact ⟨rfl, nextB hb2 hb3⟩
  obtain ⟨m, rfl⟩ : ∃ m : Nat, pages = (m : Int) := ⟨pages.toNat, by omega⟩
  have c1 := c0 m (by omega) (by omega)
  have c2 := fun W => ref_anew m W (by omega) (by omega)
  unfold OwnWNo at c2
  rw [List.length_replicate] at c2
  obtain ⟨len, hlen⟩ : ∃ len, 64 * m = len := ⟨_, rfl⟩
  rw [hlen] at c1 c2
  have hpos : 0 < len := by omega
  have hsm : len ≤ 65536 := by omega
  have HRow := hidb hl
  clear c0 hl hlen h00 h01
  go_enter Try.func3, Try.ntmps3
  go_wp2_with (go_at_call 9; (with_reducible refine c1.mono ?_); rintro e w1 ⟨p, g, rfl, har1, hb1⟩)
  have c3 := fun W hb => code_awords p _ _ _ W (har1.below hb (Nat.le_refl _)).cell
  have HA1 := hidb har1
  have HB1 := hidb hb1
  clear har1 hb1 c1
  go_wp2_with (first
    | (go_at_call 10; (with_reducible refine (c2 _).mono ?_); rintro e w2 ⟨Am0, cm0, rfl, hown2, hb2⟩; have c4 := c3 _ hb2)
    | (go_at_call 11; (with_reducible refine c4.mono ?_); rintro e w' ⟨rfl, rfl⟩))
  have hsz1 := HB1.out.size
  have R0 : Hid (Rnd w w2 p g len (List.replicate len 0) Am0 cm0) := hidb ⟨HA1.out.below hb2 (Nat.le_refl _), by
    refine ⟨hown2.1, ?_⟩
    rcases hown2.2 with h | ⟨g', cap, cur, e1, e2, e3⟩
    · exact Or.inl h
    · exact Or.inr ⟨g', cap, cur, e1, by omega, e3⟩, fun e => by have := (hown2.lt _ e).1; have := HA1.out.lt; omega, HB1.out.trans (hb2.mono hsz1)⟩
  clear hown2 hb2 c3 c4 c2 HA1 HB1
  go_loopw [7, 9] (fun v k wr => ∃ (j : Nat) (xs : List Nat) (Am : Option Addr) (cm : Nat), j ≤ L ∧ v = .slice Am len cm ∧ k = .int .i64 j ∧ Hid (Rnd w wr p g len xs Am cm)) (fun _ k _ => (L - intOf k).toNat)
  case atStart => exact ⟨0, _, Am0, cm0, by omega, rfl, rfl, R0⟩
  case round =>
    obtain ⟨j, xs, Am, cm, hj, rfl, rfl, HR⟩ := hrel
    by_cases hlt : j < L
    · obtain ⟨b, off, y, cs, rfl, hbw, hy, hcl, hcs, hact⟩ := HRow.out.at_ hlt
      obtain ⟨kd, at', fr, n, A2, len2, cap2, ws⟩ := y
      obtain ⟨rfl, ik, ia, if', i_n, il, isl, iw⟩ := hact
      have hB := HR.out.bel
      have q0 : wr.cell? ⟨b, off + j * 5, none⟩ = some (.int .i64 kd) := by rw [hB.cell hbw]; exact hcs 0 (by omega)
      have q1 : wr.cell? ⟨b, off + j * 5 + 1, none⟩ = some (.int .i64 at') := by rw [hB.cell hbw]; exact hcs 1 (by omega)
      have q2 : wr.cell? ⟨b, off + j * 5 + 2, none⟩ = some (.int .i64 fr) := by rw [hB.cell hbw]; exact hcs 2 (by omega)
      have q3 : wr.cell? ⟨b, off + j * 5 + 3, none⟩ = some (.int .i64 n) := by rw [hB.cell hbw]; exact hcs 3 (by omega)
      have q4 : wr.cell? ⟨b, off + j * 5 + 4, none⟩ = some (.slice A2 len2 cap2) := by rw [hB.cell hbw]; exact hcs 4 (by omega)
      have hi0 : (0 : Int) ≤ (j : Int) := by omega
      have hi1 : (j : Int) < (L : Int) := by omega
      have S0 := HR.out.act hpos kd at' fr n A2 len2 cap2
      simp only at ik ia if' i_n il isl iw
      have HSL := hidb isl
      clear hB hcs hcl hy hbw isl iw
      by_cases g4 : 100 < len2
      · as_aux_lemma =>
        have HS0 := hidb S0.bel
        clear S0 ik ia if' i_n
        go_wp2_with (go_at_call 8; refine (ca _).mono ?_; rintro e w3 ⟨rfl, hb3⟩)
        go_ret
        exact ⟨rfl, HS0.out.trans (hb3.mono HS0.out.size)⟩
      by_cases k0 : kd = 0
      · subst k0
        cases hin : aIn len at' (len2 : Int) with
        | true => as_aux_lemma =>
          have HIN := hidb hin
          clear hin
          go_wp2_with (first
            | (go_at_call 12; (with_reducible refine (t_refStore S0 at' A2 len2 cap2 ws ((S0.kept _ _ _ HSL.out).more S0.bel.size) HIN.out).mono ?_); rintro e w3 ⟨A3, c3, rfl, S3⟩; have y1 := S3.x1; have y2 := S3.x2; have y3 := S3.x3; have y4 := S3.x4)
            | (go_at_call 13; (with_reducible refine (t_store S3 at' A2 len2 cap2 ws ((S3.kept _ _ _ HSL.out).more S3.bel.size) HIN.out).mono ?_); rintro e w4 ⟨rfl, S4⟩; have y1 := S4.x1; have y2 := S4.x2; have y3 := S4.x3; have y4 := S4.x4))
          go_quiet (first
            | (go_at_call 21; exact S4.qin at' n ia i_n _)
            | (go_at_call 16; exact S4.qrefIn at' n ia i_n _))
          go_wp2
          go_roundw
          case rel => exact ⟨j + 1, _, _, _, by omega, rfl, by go_num, hidb (S4.drewN _).rnd⟩
          case measure => simp [intOf]; omega
        | false => as_aux_lemma =>
          have HIN := hidb hin
          clear hin
          go_wp2_with (first
            | (go_at_call 12; (with_reducible refine (t_refStore_no S0 at' A2 len2 cap2 (by omega) ia HIN.out).mono ?_); rintro e w' ⟨rfl, rfl⟩)
            | (go_at_call 13; (with_reducible refine (t_store_no S0 at' A2 len2 cap2 (by omega) ia HIN.out).mono ?_); rintro e w4 ⟨rfl, S4⟩; have y1 := S4.x1; have y2 := S4.x2; have y3 := S4.x3; have y4 := S4.x4))
          go_quiet (first
            | (go_at_call 21; exact S4.qin at' n ia i_n _)
            | (go_at_call 16; exact S4.qrefIn at' n ia i_n _))
          go_wp2
          go_roundw
          case rel => exact ⟨j + 1, _, _, _, by omega, rfl, by go_num, hidb (S4.drewN _).rnd⟩
          case measure => simp [intOf]; omega
      have b0 : (kd == 0) = false := by simpa using k0
      by_cases k1 : kd = 1
      · subst k1
        clear k0 b0
        cases hf : aIn len fr n with
        | true => as_aux_lemma =>
          have HF := hidb hf
          have hn := (in_nat hf).2.1
          have HN := hidb hn
          clear hf hn
          cases ha : aIn len at' n with
          | true => as_aux_lemma =>
            have HA := hidb ha
            have HA2 : Hid (aIn len at' (n.toNat : Int) = true) := hidb (by rw [← HN.out]; exact ha)
            clear ha
            go_wp2_with (first
              | (go_at_call 14; (with_reducible refine (t_refRow S0 fr n HF.out).mono ?_); rintro e w3 ⟨A3, c3, rfl, hsl3, S3⟩; have y1 := S3.x1; have y2 := S3.x2; have y3 := S3.x3; have y4 := S3.x4)
              | (go_at_call 12; (with_reducible refine (t_refStore S3 at' A3 n.toNat c3 _ hsl3 HA2.out).mono ?_); rintro e w4 ⟨A4, c4, rfl, S4⟩; have y1 := S4.x1; have y2 := S4.x2; have y3 := S4.x3; have y4 := S4.x4)
              | (go_at_call 15; (with_reducible refine (t_move S4 at' fr n HA.out HF.out).mono ?_); rintro e w5 ⟨rfl, S5⟩; have y1 := S5.x1; have y2 := S5.x2; have y3 := S5.x3; have y4 := S5.x4))
            go_quiet (first
              | (go_at_call 21; exact S5.qin at' n ia i_n _)
              | (go_at_call 16; exact S5.qrefIn at' n ia i_n _))
            go_wp2
            go_roundw
            case rel => exact ⟨j + 1, _, _, _, by omega, rfl, by go_num, hidb (S5.drewN _).rnd⟩
            case measure => simp [intOf]; omega
          | false => as_aux_lemma =>
            have HA := hidb ha
            have HA2 : Hid (aIn len at' (n.toNat : Int) = false) := hidb (by rw [← HN.out]; exact ha)
            have HT : Hid (n.toNat ≤ 4611686018427387904) := hidb (by have := (in_nat HF.out).2.2; omega)
            clear ha
            go_wp2_with (first
              | (go_at_call 14; (with_reducible refine (t_refRow S0 fr n HF.out).mono ?_); rintro e w3 ⟨A3, c3, rfl, hsl3, S3⟩; have y1 := S3.x1; have y2 := S3.x2; have y3 := S3.x3; have y4 := S3.x4)
              | (go_at_call 12; (with_reducible refine (t_refStore_no S3 at' A3 n.toNat c3 HT.out ia HA2.out).mono ?_); rintro e w' ⟨rfl, rfl⟩)
              | (go_at_call 15; (with_reducible refine (t_move_no S3 at' fr n ia if' i_n (Or.inl HA.out)).mono ?_); rintro e w5 ⟨rfl, S5⟩; have y1 := S5.x1; have y2 := S5.x2; have y3 := S5.x3; have y4 := S5.x4))
            go_quiet (first
              | (go_at_call 21; exact S5.qin at' n ia i_n _)
              | (go_at_call 16; exact S5.qrefIn at' n ia i_n _))
            go_wp2
            go_roundw
            case rel => exact ⟨j + 1, _, _, _, by omega, rfl, by go_num, hidb (S5.drewN _).rnd⟩
            case measure => simp [intOf]; omega
        | false => as_aux_lemma =>
          have HF := hidb hf
          clear hf
          go_wp2_with (first
            | (go_at_call 14; (with_reducible refine (t_refRow_no S0 fr n if' i_n HF.out).mono ?_); rintro e w3 ⟨A3, c3, rfl, hsl3, S3⟩; have y1 := S3.x1; have y2 := S3.x2; have y3 := S3.x3; have y4 := S3.x4)
            | (go_at_call 15; (with_reducible refine (t_move_no S3 at' fr n ia if' i_n (Or.inr HF.out)).mono ?_); rintro e w5 ⟨rfl, S5⟩; have y1 := S5.x1; have y2 := S5.x2; have y3 := S5.x3; have y4 := S5.x4))
          go_quiet (first
            | (go_at_call 21; exact S5.qin at' n ia i_n _)
            | (go_at_call 16; exact S5.qrefIn at' n ia i_n _))
          go_wp2
          go_roundw
          case rel => exact ⟨j + 1, _, _, _, by omega, rfl, by go_num, hidb (S5.drewN _).rnd⟩
          case measure => simp [intOf]; omega
      have b1 : (kd == 1) = false := by simpa using k1
      by_cases k2 : kd = 2
      · subst k2
        clear k0 b0 k1 b1
        cases ha : aIn len at' n with
        | true => as_aux_lemma =>
          have HA := hidb ha
          clear ha
          go_wp2_with (first
            | (go_at_call 16; (with_reducible refine (t_refIn S0 at' n ia i_n).mono ?_); rintro e w' ⟨rfl, rfl⟩; rw [HA.out]))
          have HN := hidb (in_nat HA.out)
          have h00 : 0 ≤ n := by have := HN.out; omega
          have hmk := fun W => make_words n h00 (by have := HN.out; omega) W
          have c5 := S0.zeros at' n HA.out
          rw [show (wr.alloc (.cells #[.int .i64 2, .int .i64 at', .int .i64 fr, .int .i64 n, .slice A2 len2 cap2] 33)).heap.size = wr.heap.size + 1 by simp] at c5
          go_region_held3 (fun w' => w'.cell? ⟨wr.heap.size, 1, none⟩ = some (.int .i64 at') ∧ w'.cell? ⟨wr.heap.size, 3, none⟩ = some (.int .i64 n)) (go_keep)
            (first | (go_at_call 12; (with_reducible refine c5.mono ?_); rintro e w3 ⟨A3, c3, rfl, S3⟩; have y1 := S3.x1; have y2 := S3.x2; have y3 := S3.x3; have y4 := S3.x4))
          clear hmk c5
          go_wp2_with (go_at_call 17; (with_reducible refine (t_zero S3 at' n HA.out).mono ?_); rintro e w4 ⟨rfl, S4⟩; have y1 := S4.x1; have y2 := S4.x2; have y3 := S4.x3; have y4 := S4.x4)
          go_quiet (first
            | (go_at_call 21; exact S4.qin at' n ia i_n _)
            | (go_at_call 16; exact S4.qrefIn at' n ia i_n _))
          go_wp2
          go_roundw
          case rel => exact ⟨j + 1, _, _, _, by omega, rfl, by go_num, hidb (S4.drewN _).rnd⟩
          case measure => simp [intOf]; omega
        | false => as_aux_lemma =>
          have HA := hidb ha
          clear ha
          go_wp2_with (first
            | (go_at_call 16; (with_reducible refine (t_refIn S0 at' n ia i_n).mono ?_); rintro e w' ⟨rfl, rfl⟩; rw [HA.out])
            | (go_at_call 17; (with_reducible refine (t_zero_no S0 at' n ia i_n HA.out).mono ?_); rintro e w5 ⟨rfl, S5⟩; have y1 := S5.x1; have y2 := S5.x2; have y3 := S5.x3; have y4 := S5.x4))
          go_quiet (first
            | (go_at_call 21; exact S5.qin at' n ia i_n _)
            | (go_at_call 16; exact S5.qrefIn at' n ia i_n _))
          go_wp2
          go_roundw
          case rel => exact ⟨j + 1, _, _, _, by omega, rfl, by go_num, hidb (S5.drewN _).rnd⟩
          case measure => simp [intOf]; omega
      have b2 : (kd == 2) = false := by simpa using k2
      by_cases k3 : kd = 3
      · subst k3
        clear k0 b0 k1 b1 k2 b2
        cases ha : aIn len at' 1 with
        | true => as_aux_lemma =>
          have HA := hidb ha
          have HX := hidb (S0.hlen)
          clear ha
          have c5 := t_refRow S0 at' 1 HA.out
          rw [show (1 : Int).toNat = 1 from rfl] at c5
          go_wp2_with (go_at_call 14; (with_reducible refine c5.mono ?_); rintro e w3 ⟨A3, c3, rfl, hsl3, S3⟩; have y1 := S3.x1; have y2 := S3.x2; have y3 := S3.x3; have y4 := S3.x4)
          obtain ⟨b3, off3, x3, rfl, hx3, hc3⟩ := hsl3.word (j := 0) (by omega)
          have hv : Hid ((xs.getD at'.toNat 0 : Int) = (x3 : Int)) := hidb (by
            rw [aRow_get, if_pos (by omega), Nat.add_zero] at hx3
            rw [List.getD_eq_getElem?_getD, hx3]; rfl)
          have hb3 := lt_of_cell hc3
          have c6 := t_load S3 at' HA.out
          rw [hv.out] at c6
          rw [Nat.add_zero] at hc3
          clear c5 hsl3 hx3
          go_wp2_with (go_at_call 18; (with_reducible refine c6.mono ?_); rintro e w4 ⟨rfl, S4, hb4⟩; have y1 := S4.x1; have y2 := S4.x2; have y3 := S4.x3; have y4 := S4.x4; have hc4 := (hb4.cell (p := ⟨b3, off3, none⟩) hb3).trans hc3)
          go_quiet (first
            | (go_at_call 21; exact S4.qin at' n ia i_n _)
            | (go_at_call 16; exact S4.qrefIn at' n ia i_n _))
          go_wp2
          go_roundw
          case rel => exact ⟨j + 1, _, _, _, by omega, rfl, by go_num, hidb (S4.drewN _).rnd⟩
          case measure => simp [intOf]; omega
        | false => as_aux_lemma =>
          have HA := hidb ha
          clear ha
          go_wp2_with (first
            | (go_at_call 14; (with_reducible refine (t_refRow_no S0 at' 1 ia (by unfold in64; omega) HA.out).mono ?_); rintro e w3 ⟨A3, c3, rfl, hsl3, S3⟩; have y1 := S3.x1; have y2 := S3.x2; have y3 := S3.x3; have y4 := S3.x4)
            | (go_at_call 18; (with_reducible refine (t_load_no S3 at' ia HA.out).mono ?_); rintro e w4 ⟨rfl, S4⟩; have y1 := S4.x1; have y2 := S4.x2; have y3 := S4.x3; have y4 := S4.x4))
          go_quiet (first
            | (go_at_call 21; exact S4.qin at' n ia i_n _)
            | (go_at_call 16; exact S4.qrefIn at' n ia i_n _))
          go_wp2
          go_roundw
          case rel => exact ⟨j + 1, _, _, _, by omega, rfl, by go_num, hidb (S4.drewN _).rnd⟩
          case measure => simp [intOf]; omega
      have b3 : (kd == 3) = false := by simpa using k3
      clear k0 k1 k2 k3
      as_aux_lemma =>
        obtain ⟨N, no, zs, hN, c5, c6⟩ := t_rowPair (w := w) (p := p) (g := g) (len := len) (px := wr.heap.size) (kd := kd) (at' := at') (fr := fr) (n := n) (A2 := A2) (len2 := len2) (cap2 := cap2) (xs := xs) (Am := Am) (cm := cm) at' n ia i_n hsm
        have c5' := c5 _ S0
        clear c5
        go_wp2_with (first
          | (go_at_call 14; (with_reducible refine c5'.mono ?_); rintro e w3 ⟨A3, c3, rfl, hsl3, S3⟩; have y1 := S3.x1; have y2 := S3.x2; have y3 := S3.x3; have y4 := S3.x4; have c6' := c6 _ S3)
          | (go_at_call 19; (with_reducible refine c6'.mono ?_); rintro e w4 ⟨A4, c4, rfl, hown4, hb4⟩; have hss := ref_asame A3 A4 N c3 N c4 zs zs w4 _ _ (hsl3.below hb4) (Sl.of_own hown4) (by omega) (by omega); rw [show decide (zs = zs) = true by simp] at hss)
          | (go_at_call 20; (with_reducible refine hss.mono ?_); rintro e w' ⟨rfl, q, rfl⟩))
        have HS3 := hidb S3
        have HB5 : Hid (Below w3.heap.size w3 (w4.drewN q)) := hidb (belowN hb4 q)
        have HO5 : Hid ((w4.drewN q).ownsRow w3.heap.size 40 1 (.slice A4 N c4) N ((zs.map (fun z : Nat => (z : Int))).map (Value.int .u64))) := hidb (by rw [List.map_map]; exact hown4)
        clear S0 S3 c5' c6 c6' hss hsl3 hown4 hb4 y1 y2 y3 y4
        obtain ⟨wo, rfl⟩ : ∃ wo : World, wo = wr := ⟨_, rfl⟩
        go_wp2
        go_loopw [23] (fun k wl => ∃ (i : Nat) (ys : List Int), i ≤ N ∧ k = .int .i64 i ∧ Hid (wl.ownsRow w3.heap.size 40 1 (.slice A4 N c4) N (ys.map (Value.int .u64))) ∧ Hid (Below w3.heap.size w3 wl)) (fun k _ => (N - intOf k).toNat)
        case atStart => exact ⟨0, _, by omega, rfl, HO5, HB5⟩
        case round =>
          obtain ⟨i, ys, hi, rfl, hown, hbel⟩ := hrel
          by_cases hil : i < N
          · obtain ⟨g4, cap4, hv4, hgb4, hglt4⟩ := hown.out.form (by omega)
            obtain rfl : A4 = some ⟨g4, 0, none⟩ := by injection hv4
            have hyl : i < ys.length := by have := hown.out.1; rw [List.length_map] at this; omega
            have hcell := hown.out.cellAt i (by omega)
            rw [List.getElem?_map, List.getElem?_eq_getElem hyl] at hcell
            obtain ⟨z, hz⟩ : ∃ z, ys[i] = z := ⟨_, rfl⟩
            rw [hz] at hcell
            have hcell' : wr.cell? ⟨g4, i, none⟩ = some (.int .u64 z) := hcell
            have hfr := hown.out.frozenAt i
            have hst := hidb (hown.out.stored i (.int .u64 (IntKind.u64.wrap (z + 1)))).1
            have hbs := hidb (hbel.out.setCell (p := ⟨g4, i, none⟩) hgb4 (.int .u64 (IntKind.u64.wrap (z + 1))))
            have hi0 : (0 : Int) ≤ (i : Int) := by omega
            have hi1 : (i : Int) < (N : Int) := by omega
            clear hcell hz hv4 hgb4 hglt4
            go_wp2
            go_roundw
            case rel => exact ⟨i + 1, ys.set i (IntKind.u64.wrap (z + 1)), by omega, by go_num, by rw [List.map_set]; exact hst, hbs⟩
            case measure => simp [intOf]; omega
          · have S6 := HS3.out.below hbel.out
            have y1 := S6.x1; have y2 := S6.x2; have y3 := S6.x3; have y4 := S6.x4
            have hge : ¬ ((i : Int) < (N : Int)) := by omega
            go_wp2
            go_quiet (first
              | (go_at_call 21; exact S6.qin at' n ia i_n _)
              | (go_at_call 16; exact S6.qrefIn at' n ia i_n _))
            go_wp2
            go_roundw
            case rel => exact ⟨j + 1, _, _, _, by omega, rfl, by go_num, hidb (S6.drewN _).rnd⟩
            case measure => simp [intOf]; omega
    · as_aux_lemma =>
      have hge : ¬ ((j : Int) < (L : Int)) := by omega
      have c5 := code_awords p _ _ _ wr HR.out.ar.cell
      have c6 := code_arow_ok 0 len HR.out.ar (by omega)
      have hxl := HR.out.ar.hlen
      rw [show ((0 : Nat) : Int) = 0 from rfl, show aRow xs 0 len = xs by unfold aRow; rw [List.drop_zero]; exact List.take_of_length_le (by omega)] at c6
      unfold OwnWNo at c6
      rw [hxl] at c6
      have HM := hidb (Sl.of_own HR.out.row)
      have HBR := hidb HR.out.bel
      go_wp2_with (first
        | (go_at_call 11; (with_reducible refine c5.mono ?_); rintro e w' ⟨rfl, rfl⟩)
        | (go_at_call 19; (with_reducible refine c6.mono ?_); rintro e w3 ⟨A3, c3, rfl, hown3, hb3⟩; have hss := ref_asame A3 Am len c3 len cm xs xs w3 _ _ (Sl.of_own hown3) (HM.out.below hb3) (by omega) (by omega); rw [show decide (xs = xs) = true by simp] at hss)
        | (go_at_call 20; (with_reducible refine hss.mono ?_); rintro e w' ⟨rfl, q, rfl⟩)
        | (go_at_call 8; refine (ca _).mono ?_; rintro e w4 ⟨rfl, hb4⟩))
      go_ret
      exact ⟨rfl, nextB (belowN (HBR.out.trans (hb3.mono HBR.out.size)) q) hb4⟩

end Go.Proofs.Ytpfhmccafcpflaa
