/- The walk of layer 8's ChainLast. -/
import Derived.Test.YtcngcibiibchiaaChainLast0
namespace Go.Proofs.Ytcngcibiibchiaa
open Go.RowKit
set_option linter.unusedVariables false

theorem q_in' (A : Option Addr) (n c : Nat) (zs : List Int) (v : Int) (w : World) (q B : Nat) (hs : Sl w B A n (zs.map iv)) (hn : n ≤ 65536) (b : Bool) (hb : decide (v ∈ zs) = b) :
    Calls Try.prog 23 #[.slice A n c, .int .i64 v] (w.drewN q) fun e w'' => e = .returned (.bool b) ∧ ∃ m, w'' = w.drewN m :=
  (ref_bin A n c zs v (w.drewN q) B (hs.drewN q) (by omega)).mono fun e w' h => ⟨by rw [h.1, hb], q, h.2.symm⟩

set_option maxRecDepth 100000 in
set_option maxHeartbeats 4000000 in
theorem chainLast_far (A1 : Option Addr) (n1 c1 : Nat) (l : List Int) (mark : Nat) (w : World) (hs1 : Sl w w.heap.size A1 n1 (l.map iv)) (hl : ∀ x ∈ l, in64 x) (hn1 : n1 ≤ 100) (hmk : mark < 18446744073709551616) (hcap : n1 ≤ c1) (hc1 : c1 ≤ 9223372036854775807)
    (hbad : ∃ (i : Nat) (x : Int), l[i]? = some x ∧ ¬ (0 ≤ x ∧ x < 256)) :
    Calls Try.prog 4 #[.slice A1 n1 c1, .int .u64 (mark : Int)] w fun e w' => e = .returned (.bool true) ∧ Below w.heap.size w w' := by
  have ca := fun W => awake8 W
  have cn := code_new4 w
  have ll : l.length = n1 := by have := hs1.1; simpa using this
  have LL := hidb ll
  have HS1 : Hid (∀ W, Below w.heap.size w W → Sl W W.heap.size A1 n1 (l.map iv)) := hidb (fun W hb => (hs1.below hb).more hb.size)
  have HA1 : Hid (∀ a, 0 < n1 → A1 = some a → a.block < w.heap.size) := hidb (fun a h0 e => by
    obtain ⟨b, off, e2, hb, _⟩ := hs1.2 h0
    rw [e] at e2
    obtain rfl := Option.some.inj e2
    exact hb)
  have HIN : Hid (∀ v W, Below w.heap.size w W → Calls Try.prog 23 #[.slice A1 n1 c1, .int .i64 v] W fun e w' => e = .returned (.bool (decide (v ∈ l))) ∧ W = w') := hidb (fun v W hb => ref_bin A1 n1 c1 l v W W.heap.size ((hs1.below hb).more hb.size) (by omega))
  have HLN := hidb hl
  have HMK := hidb hmk
  have HPU : Hid (cPush (marks l mark 256) (0, 0) l = (marks l mark 256, ((0 : Int), (0 : Int)), (2 : Int))) := hidb (by
    obtain ⟨i, x, h1, h2⟩ := hbad
    exact push_far (marks_length ..) h1 h2)
  have HBAD := hidb hbad
  clear hbad
  clear hs1 ll hl hmk
  go_enter Try.func4, Try.ntmps4
  go_wp2_with (first
    | (go_at_call 8; (with_reducible refine cn.mono ?_); rintro e w1 ⟨p, g, rfl, har, hb1⟩; have HAR := hidb har; have HB1 := hidb hb1; clear har hb1))
  have HGE : Hid (w.heap.size ≤ g) := hidb HAR.out.geg
  go_loopw [7] (fun kv wr => ∃ j : Nat, j ≤ 256 ∧ kv = .int .i64 j ∧ Hid (Ar wr w.heap.size p g 256 (marks l mark j)) ∧ Hid (Below w.heap.size w wr)) (fun kv _ => (256 - intOf kv).toNat)
  case atStart => exact ⟨0, by omega, rfl, hidb (by rw [marks_zero]; exact HAR.out), HB1⟩
  case round =>
    obtain ⟨j, hj, rfl, HM, HB⟩ := hrel
    by_cases hlt : j < 256
    · have hj1 : (j : Int) < 256 := by omega
      have ci := HIN.out (j : Int) wr HB.out
      by_cases hin : (j : Int) ∈ l
      · rw [decide_eq_true hin] at ci
        have HN := hidb hin
        clear hin
        go_wp2_with (first | (go_at_call 23; (with_reducible refine ci.mono ?_); rintro e w' ⟨rfl, rfl⟩))
        go_roundw
        case rel => exact ⟨j + 1, by omega, by go_num, hidb (by rw [marks_in HN.out]; exact HM.out), HB⟩
        case measure => simp [intOf]; omega
      · rw [decide_eq_false hin] at ci
        have cs := code_astore (ys := [mark]) j (some ⟨wr.heap.size, 0, none⟩) 1 1 (HM.out.alloc (.cells #[.int .u64 (mark : Int)] 31)) (Sl.one_ wr mark _) (by omega)
        rw [aStore_one (by rw [marks_length]; omega), ← marks_out hin hlt] at cs
        clear hin
        go_wp2_with (first
          | (go_at_call 23; (with_reducible refine ci.mono ?_); rintro e w' ⟨rfl, rfl⟩)
          | (go_at_call 16; (with_reducible refine cs.mono ?_); rintro e w2 ⟨rfl, ha2, hg2⟩; have HA2 := hidb ha2; have HB2 := hidb (bel_ar (HB.out.alloc HB.out.size _) hg2 HGE.out); clear ha2 hg2))
        go_roundw
        case rel => exact ⟨j + 1, by omega, by go_num, HA2, HB2⟩
        case measure => simp [intOf]; omega
    · obtain rfl : j = 256 := by omega
      have cp := code_cpush HM.out 0 0 (by unfold in64; omega) (by unfold in64; omega) (marks_wide HMK.out) A1 n1 c1 l (HS1.out wr HB.out) (fun h0 a e => by have h1 := HA1.out a h0 e; have h2 := HGE.out; omega) (by omega) HLN.out
      rw [HPU.out] at cp
      go_wp2_with (first
        | (go_at_call 10; (with_reducible refine cp.mono ?_); rintro e w2 ⟨rfl, ha2, hg2⟩; have K2 := hidb (LSt.start ha2 (bel_ar HB.out hg2 HGE.out) 0 0 23); clear ha2 hg2))

      obtain ⟨W2, hW2⟩ : ∃ W2, W2 = w2.alloc (.cells #[.int .i64 0, .int .i64 0] 23) := ⟨_, rfl⟩
      rw [← hW2] at K2 ⊢
      clear hW2 cp HM HB
      go_loop [10] (fun kv => ∃ j : Nat, j ≤ n1 ∧ kv = .int .i64 j ∧ Hid (∀ i, i < j → ∀ x : Int, l[i]? = some x → 0 ≤ x ∧ x < 256)) (fun kv => (n1 - intOf kv).toNat)
      case atStart => exact ⟨0, Nat.zero_le _, rfl, hidb (fun i h => absurd h (Nat.not_lt_zero _))⟩
      case round =>
        obtain ⟨i, hi, rfl, HRG⟩ := hrel
        by_cases hlt2 : i < n1
        · obtain ⟨b, off, x, hA, hx, hc⟩ := (HS1.out _ K2.out.bel).int_ hlt2
          have hi0 : (0 : Int) ≤ (i : Int) := by omega
          have hi1 : (i : Int) < (n1 : Int) := by omega
          subst hA
          by_cases g0 : x < 0
          · clear hx
            obtain ⟨c0, c1', f0, f1⟩ := K2.out.facts
            have hq := fun W => eql_chain 0 0 0 0 W
            go_wp2_with (first | (go_at_call 7; (with_reducible refine (ca _).mono ?_); rintro e w9 ⟨rfl, hb9⟩))
            go_ret
            exact ⟨rfl, K2.out.bel.trans (hb9.mono K2.out.bel.size)⟩
          by_cases g1 : 255 < x
          · clear hx
            obtain ⟨c0, c1', f0, f1⟩ := K2.out.facts
            have hq := fun W => eql_chain 0 0 0 0 W
            go_wp2_with (first | (go_at_call 7; (with_reducible refine (ca _).mono ?_); rintro e w9 ⟨rfl, hb9⟩))
            go_ret
            exact ⟨rfl, K2.out.bel.trans (hb9.mono K2.out.bel.size)⟩
          have HX := hidb hx
          clear hx
          go_wp2
          go_round
          case rel => exact ⟨i + 1, by omega, by go_num, hidb (fun k hk y hy => by
            by_cases e : k = i
            · subst e; rw [HX.out] at hy; obtain rfl := Option.some.inj hy; omega
            · exact HRG.out k (by omega) y hy)⟩
          case measure => simp [intOf]; omega
        · exfalso
          obtain ⟨k, x, h1, h2⟩ := HBAD.out
          have hk : k < n1 := by rw [← LL.out]; exact (List.getElem?_eq_some_iff.1 h1).1
          exact h2 (HRG.out k (by omega) x h1)

set_option maxRecDepth 100000 in
set_option maxHeartbeats 4000000 in
theorem chainLast_twice (A1 : Option Addr) (n1 c1 : Nat) (l : List Int) (mark : Nat) (w : World) (hs1 : Sl w w.heap.size A1 n1 (l.map iv)) (hl : ∀ x ∈ l, in64 x) (hn1 : n1 ≤ 100) (hmk : mark < 18446744073709551616) (hcap : n1 ≤ c1) (hc1 : c1 ≤ 9223372036854775807)
    (hr : ∀ x ∈ l, 0 ≤ x ∧ x < 256) (hbad : ∃ (i : Nat) (x : Int), l[i]? = some x ∧ x ∈ l.take i) :
    Calls Try.prog 4 #[.slice A1 n1 c1, .int .u64 (mark : Int)] w fun e w' => e = .returned (.bool true) ∧ Below w.heap.size w w' := by
  have ca := fun W => awake8 W
  have cn := code_new4 w
  have ll : l.length = n1 := by have := hs1.1; simpa using this
  have LL := hidb ll
  have HS1 : Hid (∀ W, Below w.heap.size w W → Sl W W.heap.size A1 n1 (l.map iv)) := hidb (fun W hb => (hs1.below hb).more hb.size)
  have HA1 : Hid (∀ a, 0 < n1 → A1 = some a → a.block < w.heap.size) := hidb (fun a h0 e => by
    obtain ⟨b, off, e2, hb, _⟩ := hs1.2 h0
    rw [e] at e2
    obtain rfl := Option.some.inj e2
    exact hb)
  have HIN : Hid (∀ v W, Below w.heap.size w W → Calls Try.prog 23 #[.slice A1 n1 c1, .int .i64 v] W fun e w' => e = .returned (.bool (decide (v ∈ l))) ∧ W = w') := hidb (fun v W hb => ref_bin A1 n1 c1 l v W W.heap.size ((hs1.below hb).more hb.size) (by omega))
  have HLN := hidb hl
  have HMK := hidb hmk
  have HPU : Hid (cPush (marks l mark 256) (0, 0) l = (marks l mark 256, ((0 : Int), (0 : Int)), (1 : Int))) := hidb (by
    obtain ⟨i, x, h1, h2⟩ := hbad
    exact push_twice (marks_length ..) hr h1 h2)
  have HBAD := hidb hbad
  have HR := hidb hr
  clear hbad hr
  clear hs1 ll hl hmk
  go_enter Try.func4, Try.ntmps4
  go_wp2_with (first
    | (go_at_call 8; (with_reducible refine cn.mono ?_); rintro e w1 ⟨p, g, rfl, har, hb1⟩; have HAR := hidb har; have HB1 := hidb hb1; clear har hb1))
  have HGE : Hid (w.heap.size ≤ g) := hidb HAR.out.geg
  go_loopw [7] (fun kv wr => ∃ j : Nat, j ≤ 256 ∧ kv = .int .i64 j ∧ Hid (Ar wr w.heap.size p g 256 (marks l mark j)) ∧ Hid (Below w.heap.size w wr)) (fun kv _ => (256 - intOf kv).toNat)
  case atStart => exact ⟨0, by omega, rfl, hidb (by rw [marks_zero]; exact HAR.out), HB1⟩
  case round =>
    obtain ⟨j, hj, rfl, HM, HB⟩ := hrel
    by_cases hlt : j < 256
    · have hj1 : (j : Int) < 256 := by omega
      have ci := HIN.out (j : Int) wr HB.out
      by_cases hin : (j : Int) ∈ l
      · rw [decide_eq_true hin] at ci
        have HN := hidb hin
        clear hin
        go_wp2_with (first | (go_at_call 23; (with_reducible refine ci.mono ?_); rintro e w' ⟨rfl, rfl⟩))
        go_roundw
        case rel => exact ⟨j + 1, by omega, by go_num, hidb (by rw [marks_in HN.out]; exact HM.out), HB⟩
        case measure => simp [intOf]; omega
      · rw [decide_eq_false hin] at ci
        have cs := code_astore (ys := [mark]) j (some ⟨wr.heap.size, 0, none⟩) 1 1 (HM.out.alloc (.cells #[.int .u64 (mark : Int)] 31)) (Sl.one_ wr mark _) (by omega)
        rw [aStore_one (by rw [marks_length]; omega), ← marks_out hin hlt] at cs
        clear hin
        go_wp2_with (first
          | (go_at_call 23; (with_reducible refine ci.mono ?_); rintro e w' ⟨rfl, rfl⟩)
          | (go_at_call 16; (with_reducible refine cs.mono ?_); rintro e w2 ⟨rfl, ha2, hg2⟩; have HA2 := hidb ha2; have HB2 := hidb (bel_ar (HB.out.alloc HB.out.size _) hg2 HGE.out); clear ha2 hg2))
        go_roundw
        case rel => exact ⟨j + 1, by omega, by go_num, HA2, HB2⟩
        case measure => simp [intOf]; omega
    · obtain rfl : j = 256 := by omega
      have cp := code_cpush HM.out 0 0 (by unfold in64; omega) (by unfold in64; omega) (marks_wide HMK.out) A1 n1 c1 l (HS1.out wr HB.out) (fun h0 a e => by have h1 := HA1.out a h0 e; have h2 := HGE.out; omega) (by omega) HLN.out
      rw [HPU.out] at cp
      go_wp2_with (first
        | (go_at_call 10; (with_reducible refine cp.mono ?_); rintro e w2 ⟨rfl, ha2, hg2⟩; have K2 := hidb (LSt.start ha2 (bel_ar HB.out hg2 HGE.out) 0 0 23); clear ha2 hg2))

      obtain ⟨W2, hW2⟩ : ∃ W2, W2 = w2.alloc (.cells #[.int .i64 0, .int .i64 0] 23) := ⟨_, rfl⟩
      rw [← hW2] at K2 ⊢
      clear hW2 cp HM HB
      go_loop [10] (fun kv => ∃ j : Nat, j ≤ n1 ∧ kv = .int .i64 j ∧ Hid (∀ i, i < j → ∀ x : Int, l[i]? = some x → 0 ≤ x ∧ x < 256)) (fun kv => (n1 - intOf kv).toNat)
      case atStart => exact ⟨0, Nat.zero_le _, rfl, hidb (fun i h => absurd h (Nat.not_lt_zero _))⟩
      case round =>
        obtain ⟨i, hi, rfl, HRG⟩ := hrel
        by_cases hlt2 : i < n1
        · obtain ⟨b, off, x, hA, hx, hc⟩ := (HS1.out _ K2.out.bel).int_ hlt2
          have hi0 : (0 : Int) ≤ (i : Int) := by omega
          have hi1 : (i : Int) < (n1 : Int) := by omega
          subst hA
          obtain ⟨g0, g1⟩ := HR.out x (List.mem_of_getElem? hx)
          have g2 : ¬ x < 0 := by omega
          have g3 : ¬ 255 < x := by omega
          clear hx g0 g1
          go_wp2
          go_round
          case rel => exact ⟨i + 1, by omega, by go_num, hidb (fun k hk y hy => HR.out y (List.mem_of_getElem? hy))⟩
          case measure => simp [intOf]; omega
        · clear HRG
          go_wp2
          go_loopw [11] (fun kv wr => ∃ j : Nat, j ≤ n1 ∧ kv = .int .i64 j ∧ Hid (∀ i, i < j → ∀ x : Int, l[i]? = some x → x ∉ l.take i) ∧ Hid (Below W2.heap.size W2 wr)) (fun kv _ => (n1 - intOf kv).toNat)
          case atStart => exact ⟨0, Nat.zero_le _, rfl, hidb (fun i h => absurd h (Nat.not_lt_zero _)), hidb (Below.refl _ _)⟩
          case round =>
            obtain ⟨k, hk, rfl, HD, HBW⟩ := hrel
            have K3 := hidb (K2.out.below HBW.out)
            by_cases hlt3 : k < n1
            · have hs := HS1.out _ K3.out.bel
              have ht := hs.take_ (j := k) (by omega)
              obtain ⟨b, off, x, hA, hx, hc⟩ := hs.int_ hlt3
              have hk0 : (0 : Int) ≤ (k : Int) := by omega
              have hk1 : (k : Int) < (n1 : Int) := by omega
              have hk2 : (k : Int) ≤ (c1 : Int) := by omega
              subst hA
              by_cases g1 : x ∈ l.take k
              · have ci2 := fun q => q_in' (some ⟨b, off, none⟩) k c1 (l.take k) x wr q wr.heap.size ht (by omega) true (decide_eq_true g1)
                clear hx ht hs g1
                go_wp2
                go_quiet (first
                  | (go_at_call 23; (with_reducible exact ci2 _)))
                have K4' := fun q => K3.out.below (W' := wr.drewN q) (belowN (Below.refl _ _) q)
                have cq0 := fun q => (K4' q).c0
                have cq1 := fun q => (K4' q).c1
                have hq := fun W => eql_chain 0 0 0 0 W
                clear K4'
                go_wp2_with (first | (go_at_call 7; (with_reducible refine (ca _).mono ?_); rintro e w9 ⟨rfl, hb9⟩))
                have K4 := hidb (K3.out.below (W' := wr.drewN nq) (belowN (Below.refl _ _) nq))
                go_ret
                exact ⟨rfl, K4.out.bel.trans (hb9.mono K4.out.bel.size)⟩

              · have ci2 := fun q => q_in' (some ⟨b, off, none⟩) k c1 (l.take k) x wr q wr.heap.size ht (by omega) false (decide_eq_false g1)
                have HX := hidb hx
                have HG1 := hidb g1
                clear hx ht hs g1
                go_wp2
                go_quiet (first
                  | (go_at_call 23; (with_reducible exact ci2 _)))
                go_wp2
                go_roundw
                case rel => exact ⟨k + 1, by omega, by go_num, hidb (fun i hi y hy => by
                  by_cases e : i = k
                  · subst e; rw [HX.out] at hy; obtain rfl := Option.some.inj hy; exact HG1.out
                  · exact HD.out i (by omega) y hy), (by first | exact HBW | exact hidb (belowN HBW.out _) | exact hidb HBW.out.drew)⟩
                case measure => simp [intOf]; omega
            · exfalso
              obtain ⟨i, x, h1, h2⟩ := HBAD.out
              have hk : i < n1 := by rw [← LL.out]; exact (List.getElem?_eq_some_iff.1 h1).1
              exact HD.out i (by omega) x h1 h2


set_option maxRecDepth 100000 in
set_option maxHeartbeats 4000000 in
theorem chainLast_good (A1 : Option Addr) (n1 c1 : Nat) (l : List Int) (mark : Nat) (w : World) (hs1 : Sl w w.heap.size A1 n1 (l.map iv)) (hl : ∀ x ∈ l, in64 x) (hn1 : n1 ≤ 100) (hmk : mark < 18446744073709551616) (hcap : n1 ≤ c1) (hc1 : c1 ≤ 9223372036854775807)
    (hr : ∀ x ∈ l, 0 ≤ x ∧ x < 256) (hd : ∀ (i : Nat) (x : Int), l[i]? = some x → x ∉ l.take i) :
    Calls Try.prog 4 #[.slice A1 n1 c1, .int .u64 (mark : Int)] w fun e w' => e = .returned (.bool true) ∧ Below w.heap.size w w' := by
  have ca := fun W => awake8 W
  have cn := code_new4 w
  have ll : l.length = n1 := by have := hs1.1; simpa using this
  have LL := hidb ll
  have HS1 : Hid (∀ W, Below w.heap.size w W → Sl W W.heap.size A1 n1 (l.map iv)) := hidb (fun W hb => (hs1.below hb).more hb.size)
  have HA1 : Hid (∀ a, 0 < n1 → A1 = some a → a.block < w.heap.size) := hidb (fun a h0 e => by
    obtain ⟨b, off, e2, hb, _⟩ := hs1.2 h0
    rw [e] at e2
    obtain rfl := Option.some.inj e2
    exact hb)
  have HIN : Hid (∀ v W, Below w.heap.size w W → Calls Try.prog 23 #[.slice A1 n1 c1, .int .i64 v] W fun e w' => e = .returned (.bool (decide (v ∈ l))) ∧ W = w') := hidb (fun v W hb => ref_bin A1 n1 c1 l v W W.heap.size ((hs1.below hb).more hb.size) (by omega))
  have HLN := hidb hl
  have HMK := hidb hmk
  have HPU : Hid (cPush (marks l mark 256) (0, 0) l = ((cAll (marks l mark 256, ((0 : Int), (0 : Int))) l).1, (cAll (marks l mark 256, ((0 : Int), (0 : Int))) l).2, (0 : Int))) := hidb (push_good (marks_length ..) hr hd)
  have HR := hidb hr
  have HDU := hidb hd
  have HND := hidb (nodup_takes hd)
  obtain ⟨ps, pl⟩ := PopSt.start (nodup_takes hd) hr hmk
  rw [ll] at ps pl
  obtain ⟨⟨ws0, h0, len0⟩, hS⟩ : ∃ S, cAll (marks l mark 256, ((0 : Int), (0 : Int))) l = S := ⟨_, rfl⟩
  rw [hS] at HPU ps pl
  simp only at HPU ps pl
  subst pl
  have HPS := hidb ps
  clear hr hd ps hS
  clear hs1 ll hl hmk
  go_enter Try.func4, Try.ntmps4
  go_wp2_with (first
    | (go_at_call 8; (with_reducible refine cn.mono ?_); rintro e w1 ⟨p, g, rfl, har, hb1⟩; have HAR := hidb har; have HB1 := hidb hb1; clear har hb1))
  have HGE : Hid (w.heap.size ≤ g) := hidb HAR.out.geg
  go_loopw [7] (fun kv wr => ∃ j : Nat, j ≤ 256 ∧ kv = .int .i64 j ∧ Hid (Ar wr w.heap.size p g 256 (marks l mark j)) ∧ Hid (Below w.heap.size w wr)) (fun kv _ => (256 - intOf kv).toNat)
  case atStart => exact ⟨0, by omega, rfl, hidb (by rw [marks_zero]; exact HAR.out), HB1⟩
  case round =>
    obtain ⟨j, hj, rfl, HM, HB⟩ := hrel
    by_cases hlt : j < 256
    · have hj1 : (j : Int) < 256 := by omega
      have ci := HIN.out (j : Int) wr HB.out
      by_cases hin : (j : Int) ∈ l
      · rw [decide_eq_true hin] at ci
        have HN := hidb hin
        clear hin
        go_wp2_with (first | (go_at_call 23; (with_reducible refine ci.mono ?_); rintro e w' ⟨rfl, rfl⟩))
        go_roundw
        case rel => exact ⟨j + 1, by omega, by go_num, hidb (by rw [marks_in HN.out]; exact HM.out), HB⟩
        case measure => simp [intOf]; omega
      · rw [decide_eq_false hin] at ci
        have cs := code_astore (ys := [mark]) j (some ⟨wr.heap.size, 0, none⟩) 1 1 (HM.out.alloc (.cells #[.int .u64 (mark : Int)] 31)) (Sl.one_ wr mark _) (by omega)
        rw [aStore_one (by rw [marks_length]; omega), ← marks_out hin hlt] at cs
        clear hin
        go_wp2_with (first
          | (go_at_call 23; (with_reducible refine ci.mono ?_); rintro e w' ⟨rfl, rfl⟩)
          | (go_at_call 16; (with_reducible refine cs.mono ?_); rintro e w2 ⟨rfl, ha2, hg2⟩; have HA2 := hidb ha2; have HB2 := hidb (bel_ar (HB.out.alloc HB.out.size _) hg2 HGE.out); clear ha2 hg2))
        go_roundw
        case rel => exact ⟨j + 1, by omega, by go_num, HA2, HB2⟩
        case measure => simp [intOf]; omega
    · obtain rfl : j = 256 := by omega
      have cp := code_cpush HM.out 0 0 (by unfold in64; omega) (by unfold in64; omega) (marks_wide HMK.out) A1 n1 c1 l (HS1.out wr HB.out) (fun h0 a e => by have h1 := HA1.out a h0 e; have h2 := HGE.out; omega) (by omega) HLN.out
      rw [HPU.out] at cp
      go_wp2_with (first
        | (go_at_call 10; (with_reducible refine cp.mono ?_); rintro e w2 ⟨rfl, ha2, hg2⟩; have K2 := hidb (LSt.start ha2 (bel_ar HB.out hg2 HGE.out) h0 (n1 : Int) 23); clear ha2 hg2))

      obtain ⟨W2, hW2⟩ : ∃ W2, W2 = w2.alloc (.cells #[.int .i64 h0, .int .i64 (n1 : Int)] 23) := ⟨_, rfl⟩
      rw [← hW2] at K2 ⊢
      clear hW2 cp HM HB
      go_loop [10] (fun kv => ∃ j : Nat, j ≤ n1 ∧ kv = .int .i64 j ∧ Hid (∀ i, i < j → ∀ x : Int, l[i]? = some x → 0 ≤ x ∧ x < 256)) (fun kv => (n1 - intOf kv).toNat)
      case atStart => exact ⟨0, Nat.zero_le _, rfl, hidb (fun i h => absurd h (Nat.not_lt_zero _))⟩
      case round =>
        obtain ⟨i, hi, rfl, HRG⟩ := hrel
        by_cases hlt2 : i < n1
        · obtain ⟨b, off, x, hA, hx, hc⟩ := (HS1.out _ K2.out.bel).int_ hlt2
          have hi0 : (0 : Int) ≤ (i : Int) := by omega
          have hi1 : (i : Int) < (n1 : Int) := by omega
          subst hA
          obtain ⟨g0, g1⟩ := HR.out x (List.mem_of_getElem? hx)
          have g2 : ¬ x < 0 := by omega
          have g3 : ¬ 255 < x := by omega
          clear hx g0 g1
          go_wp2
          go_round
          case rel => exact ⟨i + 1, by omega, by go_num, hidb (fun k hk y hy => HR.out y (List.mem_of_getElem? hy))⟩
          case measure => simp [intOf]; omega
        · clear HRG
          go_wp2
          go_loopw [11] (fun kv wr => ∃ j : Nat, j ≤ n1 ∧ kv = .int .i64 j ∧ Hid (∀ i, i < j → ∀ x : Int, l[i]? = some x → x ∉ l.take i) ∧ Hid (Below W2.heap.size W2 wr)) (fun kv _ => (n1 - intOf kv).toNat)
          case atStart => exact ⟨0, Nat.zero_le _, rfl, hidb (fun i h => absurd h (Nat.not_lt_zero _)), hidb (Below.refl _ _)⟩
          case round =>
            obtain ⟨k, hk, rfl, HD, HBW⟩ := hrel
            have K3 := hidb (K2.out.below HBW.out)
            by_cases hlt3 : k < n1
            · have hs := HS1.out _ K3.out.bel
              have ht := hs.take_ (j := k) (by omega)
              obtain ⟨b, off, x, hA, hx, hc⟩ := hs.int_ hlt3
              have hk0 : (0 : Int) ≤ (k : Int) := by omega
              have hk1 : (k : Int) < (n1 : Int) := by omega
              have hk2 : (k : Int) ≤ (c1 : Int) := by omega
              subst hA
              by_cases g1 : x ∈ l.take k
              · exact absurd g1 (HDU.out k x hx)

              · have ci2 := fun q => q_in' (some ⟨b, off, none⟩) k c1 (l.take k) x wr q wr.heap.size ht (by omega) false (decide_eq_false g1)
                have HX := hidb hx
                have HG1 := hidb g1
                clear hx ht hs g1
                go_wp2
                go_quiet (first
                  | (go_at_call 23; (with_reducible exact ci2 _)))
                go_wp2
                go_roundw
                case rel => exact ⟨k + 1, by omega, by go_num, hidb (fun i hi y hy => by
                  by_cases e : i = k
                  · subst e; rw [HX.out] at hy; obtain rfl := Option.some.inj hy; exact HG1.out
                  · exact HD.out i (by omega) y hy), (by first | exact HBW | exact hidb (belowN HBW.out _) | exact hidb HBW.out.drew)⟩
                case measure => simp [intOf]; omega
            · obtain rfl : n1 = k := by omega
              clear HD HBW
              obtain ⟨c0, c1', f0, f1⟩ := K3.out.facts
              have hwn : IntKind.i64.wrap ((n1 : Int) - 1) = (n1 : Int) - 1 := IntWalk.i64_in _ (by omega)
              go_wp2
              obtain ⟨wo, hwo⟩ : ∃ wo : World, wo = wr := ⟨_, rfl⟩
              obtain ⟨cb, hcb⟩ : ∃ cb, cb = w2.heap.size := ⟨_, rfl⟩
              rw [← hwo] at K3 c0 c1' f0 f1 ⊢
              rw [← hcb] at K3 c0 c1' f0 f1 ⊢
              clear hwo hcb K2
              go_loopw [12] (fun kv wr => ∃ (t : Nat) (z tz : Int) (ws' : List Nat) (h' : Int), t ≤ n1 ∧ kv = .int .i64 z ∧ z = (t : Int) - 1 ∧ Hid (tz = (t : Int)) ∧ Hid (LSt w wr p g cb ws' h' tz) ∧ Hid (PopSt l mark t ws' h')) (fun kv _ => (intOf kv + 1).toNat)
              case atStart => exact ⟨n1, _, (n1 : Int), ws0, h0, Nat.le_refl _, rfl, rfl, hidb rfl, K3, HPS⟩
              case round =>
                obtain ⟨t, z, tz, ws', h', ht, rfl, hz, HTZ, KT, HP⟩ := hrel
                clear c0 c1' f0 f1 K3
                by_cases ht0 : t = 0
                · subst ht0
                  obtain rfl : z = -1 := by omega
                  obtain rfl : tz = 0 := HTZ.out
                  obtain ⟨rfl, hpe⟩ := HP.out.empty
                  have cp := code_cpop KT.out.ar 0 0 (by unfold in64; omega) (by unfold in64; omega) HP.out.wd
                  rw [hpe] at cp
                  obtain ⟨c0, c1', f0, f1⟩ := KT.out.facts
                  clear hz hpe
                  go_wp2_with (first
                    | (go_at_call 12; (with_reducible refine cp.mono ?_); rintro e w5 ⟨rfl, ha5, hg5⟩; have K5 := hidb (KT.out.step hg5 ha5); have K6 := hidb (K5.out.below ((Below.refl _ _).alloc (Nat.le_refl _) (.cells #[.int .i64 0, .int .i64 0] 23))); clear ha5 hg5 cp))
                  obtain ⟨W6, hW6⟩ : ∃ W6, W6 = w5.alloc (.cells #[.int .i64 0, .int .i64 0] 23) := ⟨_, rfl⟩
                  rw [← hW6] at K6 ⊢
                  clear hW6 K5 c0 c1' f0 f1
                  go_loopw [19] (fun kv wr => ∃ j : Nat, j ≤ 256 ∧ kv = .int .i64 j ∧ Hid (LSt w wr p g cb ws' 0 0)) (fun kv _ => (256 - intOf kv).toNat)
                  case atStart => exact ⟨0, by omega, rfl, K6⟩
                  case round =>
                    obtain ⟨j, hj, rfl, KJ⟩ := hrel
                    by_cases hlt5 : j < 256
                    · have hj1 : (j : Int) < 256 := by omega
                      have hwd := HP.out.word hlt5
                      by_cases hin : (j : Int) ∈ l
                      · rw [if_pos hin] at hwd
                        have cl := code_aload j 0 KJ.out.ar hwd
                        rw [show ((0 : Nat) : Int) = 0 from rfl] at cl
                        have HN := hidb (decide_eq_true hin)
                        clear hin hwd
                        go_wp2_with (first
                          | (go_at_call 24; (with_reducible refine cl.mono ?_); rintro e w7 ⟨rfl, hb7⟩; have K7 := hidb (KJ.out.below hb7); have ci := HIN.out (j : Int) w7 K7.out.bel; rw [HN.out] at ci; clear hb7 cl)
                          | (go_at_call 23; (with_reducible refine ci.mono ?_); rintro e w' ⟨rfl, rfl⟩))
                        go_roundw
                        case rel => exact ⟨j + 1, by omega, by go_num, K7⟩
                        case measure => simp [intOf]; omega
                      · rw [if_neg hin] at hwd
                        have cl := code_aload j mark KJ.out.ar hwd
                        have HN := hidb (decide_eq_false hin)
                        clear hin hwd
                        go_wp2_with (first
                          | (go_at_call 24; (with_reducible refine cl.mono ?_); rintro e w7 ⟨rfl, hb7⟩; have K7 := hidb (KJ.out.below hb7); have ci := HIN.out (j : Int) w7 K7.out.bel; rw [HN.out] at ci; clear hb7 cl)
                          | (go_at_call 23; (with_reducible refine ci.mono ?_); rintro e w' ⟨rfl, rfl⟩))
                        go_roundw
                        case rel => exact ⟨j + 1, by omega, by go_num, K7⟩
                        case measure => simp [intOf]; omega
                    · obtain rfl : j = 256 := by omega
                      obtain ⟨c0, c1', f0, f1⟩ := KJ.out.facts
                      have hq := fun W => eql_chain 0 0 0 0 W
                      go_wp2_with (first | (go_at_call 7; (with_reducible refine (ca _).mono ?_); rintro e w9 ⟨rfl, hb9⟩))
                      go_ret
                      exact ⟨rfl, KJ.out.bel.trans (hb9.mono KJ.out.bel.size)⟩
                · obtain ⟨u, rfl⟩ : ∃ u, t = u + 1 := ⟨t - 1, by omega⟩
                  obtain rfl : z = (u : Int) := by omega
                  obtain ⟨b, off, x, hA, hx, _⟩ := (HS1.out _ KT.out.bel).int_ (j := u) (by omega)
                  obtain ⟨ws2, h2, hpop, hps2⟩ := HP.out.pop HND.out HR.out hx
                  have cp := code_cpop KT.out.ar h' tz HP.out.head (by have := HTZ.out; unfold in64; omega) HP.out.wd
                  rw [HTZ.out, hpop, ← HTZ.out] at cp
                  have HC : Hid (∀ W, Below w.heap.size w W → W.cell? ⟨b, off + u, none⟩ = some (.int .i64 x)) := hidb (fun W hb => by
                    obtain ⟨b2, off2, x2, hA2, hx2, hc2⟩ := (HS1.out W hb).int_ (j := u) (by omega)
                    rw [hA] at hA2
                    obtain ⟨rfl, rfl⟩ : b = b2 ∧ off = off2 := by simpa using hA2
                    rw [hx] at hx2
                    obtain rfl := Option.some.inj hx2
                    exact hc2)
                  have HPS2 := hidb hps2
                  obtain ⟨c0, c1', f0, f1⟩ := KT.out.facts
                  have hu0 : (0 : Int) ≤ (u : Int) := by omega
                  have hu1 : (u : Int) < (n1 : Int) := by omega
                  subst hA
                  clear hz hx hpop hps2 ht0
                  go_wp2_with (first
                    | (go_at_call 12; (with_reducible refine cp.mono ?_); rintro e w5 ⟨rfl, ha5, hg5⟩; have K5 := hidb (KT.out.step hg5 ha5); have K6 := hidb (K5.out.below ((Below.refl _ _).alloc (Nat.le_refl _) (.cells #[.int .i64 h2, .int .i64 (u : Int)] 23))); have hcx := HC.out _ K6.out.bel; obtain ⟨d0, d1, e0, e1⟩ := K6.out.facts; have K7 := hidb (K6.out.set_ h2 (u : Int)); clear ha5 hg5 cp))
                  go_roundw
                  case rel => exact ⟨u, _, (u : Int), ws2, h2, by omega, rfl, by go_num, hidb rfl, K7, HPS2⟩
                  case measure => simp [intOf]


set_option maxRecDepth 100000 in
theorem chainLast_any (A1 : Option Addr) (n1 c1 : Nat) (l : List Int) (mark : Int) (w : World) (hs1 : Sl w w.heap.size A1 n1 (l.map iv)) (hl : ∀ x ∈ l, in64 x) (hcap : n1 ≤ c1) (hc1 : c1 ≤ 9223372036854775807) (hmk : (Lit.int .u64 mark).wf = true) :
    Calls Try.prog 4 #[.slice A1 n1 c1, .int .u64 mark] w fun e w' => e = .returned (.bool true) ∧ Below w.heap.size w w' := by
  have hmk2 := wf_word hmk
  obtain ⟨mk, rfl⟩ : ∃ mk : Nat, mark = (mk : Int) := ⟨mark.toNat, by omega⟩
  by_cases h1 : 100 < n1
  · have ca := fun W => awake8 W
    clear hs1 hl hmk hmk2
    go_enter Try.func4, Try.ntmps4
    go_wp2_with (first | (go_at_call 7; (with_reducible refine (ca _).mono ?_); rintro e w1 ⟨rfl, hb1⟩))
    go_ret
    exact ⟨rfl, hb1⟩
  · by_cases hbad : ∃ (i : Nat) (x : Int), l[i]? = some x ∧ ¬ (0 ≤ x ∧ x < 256)
    · exact chainLast_far A1 n1 c1 l mk w hs1 hl (by omega) (by omega) hcap hc1 hbad
    · have hr : ∀ x ∈ l, 0 ≤ x ∧ x < 256 := fun x hx => by
        obtain ⟨i, hi, e⟩ := List.getElem_of_mem hx
        exact Classical.byContradiction fun c => hbad ⟨i, x, by rw [List.getElem?_eq_getElem hi, e], c⟩
      by_cases htw : ∃ (i : Nat) (x : Int), l[i]? = some x ∧ x ∈ l.take i
      · exact chainLast_twice A1 n1 c1 l mk w hs1 hl (by omega) (by omega) hcap hc1 hr htw
      · exact chainLast_good A1 n1 c1 l mk w hs1 hl (by omega) (by omega) hcap hc1 hr (fun i x e c => htw ⟨i, x, e, c⟩)

end Go.Proofs.Ytcngcibiibchiaa
