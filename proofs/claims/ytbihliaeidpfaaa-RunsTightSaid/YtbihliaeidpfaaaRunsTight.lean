/- The walk of layer 6's statement on the tightest run. -/
import Derived.Test.YtbihliaeidpfaaaRunsCuts
import Derived.Test.YtbihliaeidpfaaaRunsTake
namespace Go.Proofs.Ytbihliaeidpfaaa
open Go.RowKit
set_option linter.unusedVariables false

/-- Where the best of the first j runs lies. -/
def BestIs (n : Int) (L : List (Int × Int)) (j : Nat) (b : Int) : Prop :=
  (b = -1 ∧ (if n < 1 then none else bestOf n (L.take j)) = none) ∨ ∃ (i : Nat) (r : Int × Int), b = (i : Int) ∧ i < j ∧ L[i]? = some r ∧ 1 ≤ n ∧ bestOf n (L.take j) = some r
theorem BestIs.keep {n : Int} {L : List (Int × Int)} {j : Nat} {b : Int} {x : Int × Int} (h : BestIs n L j b) (hx : L[j]? = some x) (hc : n < 1 ∨ x.2 < n ∨ ∃ (i : Nat) (r : Int × Int), b = (i : Int) ∧ L[i]? = some r ∧ r.2 ≤ x.2) : BestIs n L (j + 1) b := by
  have hs : bestOf n (L.take (j + 1)) = bestStep n (bestOf n (L.take j)) x := by rw [List.take_add_one, hx, show (some x).toList = [x] from rfl, bestOf_snoc]
  rcases h with ⟨rfl, h⟩ | ⟨i, r, rfl, hi, hir, h1, h⟩
  · refine Or.inl ⟨rfl, ?_⟩
    by_cases c : n < 1
    · rw [if_pos c]
    · rw [if_neg c] at h ⊢
      rcases hc with c2 | c2 | ⟨i, r, e, _⟩
      · exact absurd c2 c
      · rw [hs, h]; show (if n ≤ x.2 then some x else none) = none; rw [if_neg (by omega)]
      · omega
  · refine Or.inr ⟨i, r, rfl, by omega, hir, h1, ?_⟩
    rw [hs, h]
    show (if n ≤ x.2 ∧ x.2 < r.2 then some x else some r) = some r
    rw [if_neg]
    rintro ⟨k1, k2⟩
    rcases hc with c2 | c2 | ⟨i2, r2, e, e2, c2⟩
    · omega
    · omega
    · obtain rfl : i = i2 := by omega
      obtain rfl : r = r2 := by rw [hir] at e2; exact Option.some.inj e2
      omega
theorem BestIs.new_ {n : Int} {L : List (Int × Int)} {j : Nat} {b : Int} {x : Int × Int} (h : BestIs n L j b) (hx : L[j]? = some x) (h1 : 1 ≤ n) (h2 : n ≤ x.2) (hc : b = -1 ∨ ∃ (i : Nat) (r : Int × Int), b = (i : Int) ∧ L[i]? = some r ∧ x.2 < r.2) : BestIs n L (j + 1) (j : Int) := by
  have hs : bestOf n (L.take (j + 1)) = bestStep n (bestOf n (L.take j)) x := by rw [List.take_add_one, hx, show (some x).toList = [x] from rfl, bestOf_snoc]
  refine Or.inr ⟨j, x, rfl, by omega, hx, h1, ?_⟩
  rcases h with ⟨rfl, h⟩ | ⟨i, r, rfl, hi, hir, _, h⟩
  · rw [if_neg (by omega)] at h
    rw [hs, h]; show (if n ≤ x.2 then some x else none) = some x; rw [if_pos h2]
  · rw [hs, h]
    show (if n ≤ x.2 ∧ x.2 < r.2 then some x else some r) = some x
    rcases hc with c | ⟨i2, r2, e, e2, c⟩
    · omega
    · obtain rfl : i = i2 := by omega
      obtain rfl : r = r2 := by rw [hir] at e2; exact Option.some.inj e2
      rw [if_pos ⟨h2, c⟩]
theorem BestIs.start (n : Int) (L : List (Int × Int)) : BestIs n L 0 (-1) := Or.inl ⟨rfl, by rw [List.take_zero]; split <;> rfl⟩

theorem three_below {W W' : World} {a b c : Addr} {u v x : Value} (hb : Below W.heap.size W W') (h1 : W.cell? a = some u) (h2 : W.cell? b = some v) (h3 : W.cell? c = some x) : W'.cell? a = some u ∧ W'.cell? b = some v ∧ W'.cell? c = some x :=
  ⟨(hb.cell (lt_of_cell h1)).trans h1, (hb.cell (lt_of_cell h2)).trans h2, (hb.cell (lt_of_cell h3)).trans h3⟩

set_option maxRecDepth 100000 in
set_option maxHeartbeats 4000000 in
theorem runsTight_any (A : Option Addr) (m d : Nat) (rs : List (Int × Int)) (n : Int) (w : World) (hm : m ≤ maxLen) (hs : Rn w w.heap.size A m rs) (hr : ∀ r ∈ rs, in64 r.1 ∧ in64 r.2) (hn : in64 n) :
    Calls Try.prog 4 #[.slice A m d, .int .i64 n] w fun e w' => e = .returned (.bool true) ∧ Below w.heap.size w w' := by
  have cw := fun W => awake6 W
  unfold maxLen at hm
  by_cases g1 : 20 < m
  · clear hs hr hn
    go_enter Try.func4, Try.ntmps4
    go_wp2_with (first | (go_at_call 8; (with_reducible refine (cw _).mono ?_); rintro e w1 ⟨rfl, hb1⟩))
    go_ret
    exact ⟨rfl, hb1⟩
  obtain ⟨P, hP⟩ : ∃ P, fPut (List.replicate 1024 false) rs true = P := ⟨_, rfl⟩
  obtain ⟨F, no⟩ := P
  have hFl : F.length = 1024 := by
    have := fPut_length (List.replicate 1024 false) rs true
    rw [hP, List.length_replicate] at this
    exact this
  by_cases hno : no = 0
  · subst hno
    have cn := new_yes (d := d) hs (by omega) hr hP
    have hlen := fList_len F
    have HFL := hidb hFl
    have HN := hidb hn
    obtain ⟨L, hL⟩ : ∃ L, fList F = L := ⟨_, rfl⟩
    have HL := hidb hL
    have hlen2 : L.length ≤ 1024 := by rw [← hL]; omega
    obtain ⟨a, ha⟩ : ∃ a, fPages F = a := ⟨_, rfl⟩
    have HPA := hidb ha
    have hpa : a ≤ 1024 := by rw [← ha]; exact hFl ▸ fPages_le F
    clear hs hr hn hP hFl hlen hL ha
    go_enter Try.func4, Try.ntmps4
    go_wp2_with (first
      | (go_at_call 11; (with_reducible refine cn.mono ?_); rintro e w1 ⟨p, S, rfl, hF, hlow, hall⟩)
      | (go_at_call 18; (with_reducible refine (code_rlist hF).mono ?_); rw [HL.out]; rintro e w2 ⟨A2, c2, rfl, ho2, hb2⟩; have hoff := RnOff.of_own (w0 := w1) (S := S) ho2 rfl hF.lt; replace hF := hF.below hb2; replace hall := hall.trans (hb2.mono hall.size))
      | (go_at_call 22; (with_reducible refine (code_rpages hF).mono ?_); rw [HPA.out]; rintro e w3 ⟨rfl, hb3⟩; replace hF := hF.below hb3; replace hoff := hoff.below hb3; replace hall := hall.trans (hb3.mono hall.size)))
    obtain ⟨xs, xl, ok, hX⟩ : ∃ xs xl ok, xs = (((fBest F n).map fun r => (r.1, n)).getD (0, 0)).1 ∧ xl = (((fBest F n).map fun r => (r.1, n)).getD (0, 0)).2 ∧ ok = ((fBest F n).map fun r => (r.1, n)).isSome := ⟨_, _, _, rfl, rfl, rfl⟩
    have HX := hidb hX
    obtain ⟨G, hG⟩ : ∃ G, fTake F n = G := ⟨_, rfl⟩
    have HG := hidb hG
    refine (code_rtake hF n HN.out).mono ?_
    unfold TookFr
    rw [← hX.1, ← hX.2.1, ← hX.2.2, hG]
    rintro e w4 ⟨rfl, hF4, hK4⟩
    replace hoff := hoff.did hK4
    have hall4 : Below w.heap.size w w4 := hall.trans (hK4.below hall.size hlow)
    have hlow4 : ∀ b, more S w3 w4 b → w.heap.size ≤ b := more_low hall.size hlow
    obtain ⟨S4, hS4⟩ : ∃ S4, more S w3 w4 = S4 := ⟨_, rfl⟩
    have HS4 : Hid (∀ b, S4 b → b < w4.heap.size) := hidb (fun b h => by rw [← hS4] at h; exact more_lt h)
    rw [hS4] at hF4 hoff hlow4
    clear hF hall hK4 hlow hS4 hX hG
    have hn0 := HN.out.1
    have hn1 := HN.out.2
    go_wp2
    obtain ⟨w5, hw5⟩ : ∃ w5, w5 = w4.alloc (.cells #[.int .i64 xs, .int .i64 xl] 34) := ⟨_, rfl⟩
    have hb45 : Below w4.heap.size w4 w5 := by rw [hw5]; exact (Below.refl _ _).alloc (Nat.le_refl _) _
    have hz5 : w5.heap.size = w4.heap.size + 1 := by rw [hw5]; simp
    have q0 : w5.cell? ⟨w4.heap.size, 0, none⟩ = some (.int .i64 xs) := by rw [hw5]; simp
    have q1 : w5.cell? ⟨w4.heap.size, 1, none⟩ = some (.int .i64 xl) := by rw [hw5]; simp
    rw [← hw5]
    have HQ : Hid (∀ W, Below w5.heap.size w5 W → W.cell? ⟨w4.heap.size, 0, none⟩ = some (.int .i64 xs) ∧ W.cell? ⟨w4.heap.size, 1, none⟩ = some (.int .i64 xl)) := hidb (fun W hb => by
      rw [hb.cell (p := ⟨w4.heap.size, 0, none⟩) (by show w4.heap.size < _; omega), hb.cell (p := ⟨w4.heap.size, 1, none⟩) (by show w4.heap.size < _; omega)]; exact ⟨q0, q1⟩)
    have HF5 := hidb (hF4.below hb45)
    have HOFF5 := hidb (hoff.below hb45)
    have HALL5 := hidb (hall4.trans (hb45.mono hall4.size))
    have HLOW := hidb hlow4
    clear hb45 hz5 q0 q1 hF4 hoff hall4 hlow4 hw5
    go_loopw [11, 12] (fun bv iv wr => ∃ (j : Nat) (b : Int), j ≤ L.length ∧ iv = .int .i64 j ∧ bv = .int .i64 b ∧ Hid (BestIs n L j b) ∧ Hid (Below w5.heap.size w5 wr)) (fun _ i _ => (L.length - intOf i).toNat)
    case atStart => exact ⟨0, -1, Nat.zero_le _, rfl, rfl, hidb (BestIs.start n L), hidb (Below.refl _ _)⟩
    case round =>
      obtain ⟨j, b, hj, rfl, rfl, HBI, HB⟩ := hrel
      have hj0 : (0 : Int) ≤ (j : Int) := by omega
      by_cases hjl : j < L.length
      · obtain ⟨bA, off, s, l, hA, _, hx, hc1, hc2⟩ := (HOFF5.out.below HB.out).rn.at_ hjl
        have hj1 : (j : Int) < (L.length : Int) := by omega
        have HXJ := hidb hx
        have HLL := hidb hlen2
        by_cases c1 : n < 1
        · have hd1 : decide (1 ≤ n) = false := decide_eq_false (by omega)
          subst hA
          clear hx
          go_wp2
          go_quiet (fail)
          go_wp2
          go_roundw
          case rel => exact ⟨j + 1, b, by omega, by go_num, rfl, hidb (HBI.out.keep HXJ.out (Or.inl c1)), (by first | exact HB | exact hidb HB.out.drew | exact hidb (belowN HB.out _))⟩
          case measure => simp [intOf]; omega
        · have hn2 : 1 ≤ n := by omega
          have hd1 : decide (1 ≤ n) = true := decide_eq_true hn2
          by_cases c2 : l < n
          · have hd2 : decide (n ≤ l) = false := decide_eq_false (by omega)
            subst hA
            clear hx
            go_wp2
            go_quiet (fail)
            go_wp2
            go_roundw
            case rel => exact ⟨j + 1, b, by omega, by go_num, rfl, hidb (HBI.out.keep HXJ.out (Or.inr (Or.inl c2))), (by first | exact HB | exact hidb HB.out.drew | exact hidb (belowN HB.out _))⟩
            case measure => simp [intOf]; omega
          · have c3 : n ≤ l := by omega
            have hd2 : decide (n ≤ l) = true := decide_eq_true c3
            rcases HBI.out with ⟨rfl, _⟩ | ⟨i, r, rfl, hi, hir, _, _⟩
            · subst hA
              clear hx
              go_wp2
              go_quiet (fail)
              go_wp2
              go_roundw
              case rel => exact ⟨j + 1, (j : Int), by omega, by go_num, rfl, hidb (HBI.out.new_ HXJ.out hn2 c3 (Or.inl rfl)), (by first | exact HB | exact hidb HB.out.drew | exact hidb (belowN HB.out _))⟩
              case measure => simp [intOf]; omega
            · obtain ⟨bA2, off2, s2, l2, hA2, _, hx2, hd1, hd2⟩ := (HOFF5.out.below HB.out).rn.at_ (k := i) (by omega)
              rw [hA] at hA2
              obtain ⟨rfl, rfl⟩ : bA = bA2 ∧ off = off2 := by simpa using hA2
              obtain rfl : r = (s2, l2) := by rw [hir] at hx2; exact Option.some.inj hx2
              have HXI := hidb hir
              have hi0 : (0 : Int) ≤ (i : Int) := by omega
              have hi1 : (i : Int) < (L.length : Int) := by omega
              have hd3 : decide ((i : Int) < 0) = false := decide_eq_false (by omega)
              subst hA
              clear hx hx2 hir hA2
              by_cases c4 : l < l2
              · have hd4 : decide (l < l2) = true := decide_eq_true c4
                go_wp2
                go_quiet (fail)
                go_wp2
                go_roundw
                case rel => exact ⟨j + 1, (j : Int), by omega, by go_num, rfl, hidb (HBI.out.new_ HXJ.out hn2 c3 (Or.inr ⟨i, _, rfl, HXI.out, c4⟩)), (by first | exact HB | exact hidb HB.out.drew | exact hidb (belowN HB.out _))⟩
                case measure => simp [intOf]; omega
              · have hd4 : decide (l < l2) = false := decide_eq_false c4
                go_wp2
                go_quiet (fail)
                go_wp2
                go_roundw
                case rel => exact ⟨j + 1, (i : Int), by omega, by go_num, rfl, hidb (HBI.out.keep HXJ.out (Or.inr (Or.inr ⟨i, _, rfl, HXI.out, by show l2 ≤ l; omega⟩))), (by first | exact HB | exact hidb HB.out.drew | exact hidb (belowN HB.out _))⟩
                case measure => simp [intOf]; omega
      · obtain rfl : j = L.length := by omega
        have hF6 := HF5.out.below HB.out
        have hoff := HOFF5.out.below HB.out
        have hall : Below w.heap.size w wr := HALL5.out.trans (HB.out.mono HALL5.out.size)
        obtain ⟨y0, y1⟩ := HQ.out _ HB.out
        have HBEST : Hid (fBest F n = if n < 1 then none else bestOf n L) := hidb (by rw [fBest_is F (by rw [HFL.out]; exact Nat.le_refl _), HL.out])
        cases hB : fBest F n with
        | none =>
          obtain rfl : b = -1 := by
            rcases HBI.out with ⟨h, _⟩ | ⟨i, r, _, _, _, h1, h2⟩
            · exact h
            · have h3 := HBEST.out
              rw [hB, if_neg (by omega)] at h3
              rw [List.take_length, ← h3] at h2
              cases h2
          obtain ⟨e1, e2, e3⟩ := HX.out
          rw [hB] at e1 e2 e3
          obtain rfl : xs = 0 := e1
          obtain rfl : xl = 0 := e2
          obtain rfl : ok = false := e3
          have hGF : G = F := by rw [← HG.out]; unfold fTake; rw [hB]
          rw [hGF] at hF6
          have hra := eql_run 0 0 0 0
          clear hB hGF hoff hjl
          go_wp2_with (first
            | (go_at_call 22; (with_reducible refine (code_rpages hF6).mono ?_); rw [HPA.out]; rintro e w7 ⟨rfl, hb7⟩; replace hF6 := hF6.below hb7; replace hall := hall.trans (hb7.mono hall.size))
            | (go_at_call 8; (with_reducible refine (cw _).mono ?_); rintro e w8 ⟨rfl, hb8⟩))
          go_ret
          exact ⟨rfl, hall.trans (hb8.mono hall.size)⟩
        | some r =>
          obtain ⟨rs0, rl0⟩ := r
          obtain ⟨g, e1, hmay, _⟩ := take_ok HFL.out hB
          obtain ⟨b1, b2, _, b4, _, _⟩ := cut_back HFL.out e1
          obtain ⟨m1, m2, m3⟩ := (fMay_iff (rs0, n)).1 hmay
          simp only at m1 m2 m3 b2
          have hGg : G = g := by rw [← HG.out]; unfold fTake; rw [hB]; simp only; rw [e1]
          subst hGg
          obtain ⟨i, rfl, hi, hir⟩ : ∃ i : Nat, b = (i : Int) ∧ i < L.length ∧ L[i]? = some (rs0, rl0) := by
            have h3 := HBEST.out
            rw [hB, if_neg (by omega)] at h3
            rcases HBI.out with ⟨h, h4⟩ | ⟨i, r, e, hi, hir, h1, h2⟩
            · rw [if_neg (by omega), List.take_length, ← h3] at h4; cases h4
            · rw [List.take_length, ← h3] at h2
              obtain rfl := Option.some.inj h2
              exact ⟨i, e, hi, hir⟩
          obtain ⟨bA, off, s2, l2, hA, _, hx, hc1, hc2⟩ := hoff.rn.at_ hi
          obtain ⟨rfl, rfl⟩ : rs0 = s2 ∧ rl0 = l2 := by rw [hir] at hx; simpa using hx
          obtain ⟨k1, k2, k3⟩ := HX.out
          rw [hB] at k1 k2 k3
          obtain rfl : xs = rs0 := k1
          obtain rfl : xl = n := k2
          obtain rfl : ok = true := k3
          have HHAS := hidb b1
          have HADD := hidb b4
          obtain ⟨pg, hpg⟩ : ∃ pg, fPages G = pg := ⟨_, rfl⟩
          have HPB := hidb hpg
          rw [HPA.out, hpg] at b2
          have hsub : IntKind.i64.wrap ((a : Int) - xl) = (a : Int) - xl := IntWalk.i64_in _ (by omega)
          have hbA : Hid (bA < wr.heap.size ∧ ¬ S4 bA) := hidb (hoff.2 ⟨bA, off, none⟩ hA (by omega))
          have hd1 : ((pg : Int) == (a : Int) - xl) = true := by simp; omega
          have hi0 : (0 : Int) ≤ (i : Int) := by omega
          have hi1 : (i : Int) < (L.length : Int) := by omega
          have hd3 : decide ((i : Int) < 0) = false := decide_eq_false (by omega)
          subst hA
          clear hB e1 hmay b1 b2 b4 hir hx hpg hjl
          have cad : ∀ W, Below wr.heap.size wr W → Fr W S4 p G → Calls Try.prog 12 #[.pointer (some ⟨p, 0, none⟩), .slice (some ⟨W.heap.size, 0, none⟩) 1 1] (W.alloc (.cells #[.int .i64 xs, .int .i64 xl] 34)) fun e w' => e = .returned (.int .i64 0) ∧ ∃ S9, Fr w' S9 p F ∧ RnOff w' S9 (some ⟨bA, off, none⟩) L.length L ∧ Below w.heap.size w w' ∧ ∀ q : Addr, q.block < wr.heap.size → ¬ S4 q.block → w'.cell? q = wr.cell? q := fun W hW hFW => by
            have hal : Below W.heap.size W (W.alloc (.cells #[.int .i64 xs, .int .i64 xl] 34)) := (Below.refl _ _).alloc (Nat.le_refl _) _
            have hofw := (hoff.below hW).below hal
            have hwr := HALL5.out.trans (HB.out.mono HALL5.out.size)
            have hwW := hwr.trans (hW.mono hwr.size)
            have hwA := hwW.trans (hal.mono hwW.size)
            refine (code_radd (hFW.below hal) (some ⟨W.heap.size, 0, none⟩) 1 1 [(xs, xl)] ((Rn.one6 xs xl _).more (by simp)) (by omega) (fun r hr => by obtain rfl := List.mem_singleton.1 hr; exact ⟨⟨by show _ ≤ xs; omega, by show xs ≤ _; omega⟩, HN.out⟩)).mono ?_
            rw [HADD.out]
            rintro e w' ⟨rfl, k1, k2⟩
            exact ⟨rfl, _, k1, hofw.did k2, hwA.trans (k2.below hwA.size HLOW.out), fun q hq hn => (k2.cell (a := q) (by have := hW.size; simp; omega) hn).trans ((World.cell?_alloc_lt _ _ q (by have := hW.size; omega)).trans (hW.cell hq))⟩
          have HCAD := hidb cad
          clear cad hoff
          have hL2 : L.length ≤ 65536 := by omega
          have HIN : Hid (in64 xs) := hidb ⟨by omega, by omega⟩
          have hF8 := hF6
          have hw8 : Below wr.heap.size wr wr := Below.refl _ _
          have HX4 : Hid (w4.heap.size < wr.heap.size ∧ ¬ S4 w4.heap.size) := hidb ⟨lt_of_cell y0, fun c => by have := HS4.out _ c; omega⟩
          have HC3 : Hid (∀ W : World, (∀ q : Addr, q.block < wr.heap.size → ¬ S4 q.block → W.cell? q = wr.cell? q) → W.cell? ⟨w4.heap.size, 0, none⟩ = some (.int .i64 xs) ∧ W.cell? ⟨w4.heap.size, 1, none⟩ = some (.int .i64 xl) ∧ W.cell? ⟨bA, off + i * 2, none⟩ = some (.int .i64 xs)) := hidb (fun W h => by
            rw [h ⟨w4.heap.size, 0, none⟩ HX4.out.1 HX4.out.2, h ⟨w4.heap.size, 1, none⟩ HX4.out.1 HX4.out.2, h ⟨bA, off + i * 2, none⟩ hbA.out.1 hbA.out.2]
            exact ⟨y0, y1, hc1⟩)
          have HC2 : Hid (∀ W, Below wr.heap.size wr W → W.cell? ⟨w4.heap.size, 0, none⟩ = some (.int .i64 xs) ∧ W.cell? ⟨w4.heap.size, 1, none⟩ = some (.int .i64 xl) ∧ W.cell? ⟨bA, off + i * 2, none⟩ = some (.int .i64 xs)) := hidb (fun W hW => HC3.out W (fun q hq _ => hW.cell hq))
          have hwW : Below wr.heap.size wr wr.drew := hw8.drew
          have hFW := hF6.below ((Below.refl wr.heap.size wr).drew)
          clear hF6 hF8 hw8
          go_wp2
          go_region_held3 (fun W' => W'.cell? ⟨w4.heap.size, 0, none⟩ = some (.int .i64 xs) ∧ W'.cell? ⟨w4.heap.size, 1, none⟩ = some (.int .i64 xl) ∧ W'.cell? ⟨bA, off + i * 2, none⟩ = some (.int .i64 xs))
            (first | (go_keep; done) | (exact ⟨by assumption, by assumption, by assumption⟩))
            (first
              | (go_at_call 22; ((with_reducible refine (code_rpages hFW).mono ?_); rw [HPB.out]; rintro e w7 ⟨rfl, hb7⟩; replace hFW := hFW.below hb7; replace hwW := hwW.trans (hb7.mono hwW.size); obtain ⟨x0, x1, x2⟩ := HC2.out _ hwW))
              | (go_at_call 20; ((with_reducible refine (code_rhas hFW xs xl HIN.out HN.out).mono ?_); rw [HHAS.out]; rintro e w10 ⟨rfl, hb10⟩; replace hFW := hFW.below hb10; replace hwW := hwW.trans (hb10.mono hwW.size); obtain ⟨x3, x4, x5⟩ := HC2.out _ hwW))
              | (go_at_call 12; ((with_reducible refine (HCAD.out _ hwW hFW).mono ?_); rintro e w11 ⟨rfl, S9, hF9, hoff9, hall9, hq9⟩; obtain ⟨x6, x7, x8⟩ := HC3.out _ hq9))
              | (go_at_call 18; ((with_reducible refine (code_rlist hF9).mono ?_); rw [HL.out]; rintro e w12 ⟨A12, c12, rfl, ho12, hb12⟩; have rn12 := Rn.of_own ho12 rfl; obtain ⟨t0, t1, t2⟩ := three_below hb12 x6 x7 x8; replace hoff9 := hoff9.below hb12; replace hall9 := hall9.trans (hb12.mono hall9.size)))
              | (go_at_call 17; ((with_reducible refine (same_off rn12 hoff9.rn hL2 hL2).mono ?_); rintro e w13 ⟨rfl, hb13⟩; obtain ⟨t3, t4, t5⟩ := three_below hb13 t0 t1 t2; replace hall9 := hall9.trans (hb13.mono hall9.size)))
              | (go_at_call 8; ((with_reducible refine (cw _).mono ?_); rintro e w14 ⟨rfl, hb14⟩; obtain ⟨t6, t7, t8⟩ := three_below hb14 t3 t4 t5)))
          clear HC2 HC3 HCAD x0 x1 x2 x3 x4 x5 x6 x7 x8 t0 t1 t2 t3 t4 t5 t6 t7 t8 hq9 hF9 hoff9 ho12 rn12
          go_wp2
          go_ret
          exact ⟨rfl, hall9.trans (hb14.mono hall9.size)⟩
  · have cn := new_no (d := d) hs (by omega) hr hP hno
    have hne : (no != 0) = true := by simpa using hno
    clear hs hr hn hP hFl hno
    go_enter Try.func4, Try.ntmps4
    go_wp2_with (first
      | (go_at_call 11; (with_reducible refine cn.mono ?_); rintro e w1 ⟨rfl, hb1⟩)
      | (go_at_call 8; (with_reducible refine (cw _).mono ?_); rintro e w2 ⟨rfl, hb2⟩))
    go_ret
    exact ⟨rfl, hb1.trans (hb2.mono hb1.size)⟩

end Go.Proofs.Ytbihliaeidpfaaa
