/- The walk of layer 5's statement on what is set, and dropped. -/
import Derived.Test.YtoghahldlnhpdaaIndexPlays
import Derived.Test.YtoghahldlnhpdaaIndexPlain2
namespace Go.Proofs.Ytoghahldlnhpdaa
open Go.RowKit
set_option linter.unusedVariables false

/-- An index, by itself. -/
structure At5 (w W : World) (p g n : Nat) (ids : List Int) : Prop where
  ix : Ix W w.heap.size p g n ids
  bel : Below w.heap.size w W
section
variable {w W W' : World} {p g n : Nat} {ids : List Int}
theorem At5.below (h : At5 w W p g n ids) (hb : Below W.heap.size W W') : At5 w W' p g n ids := ⟨h.ix.below hb (Nat.le_refl _), h.bel.trans (hb.mono h.bel.size)⟩
theorem At5.drew (h : At5 w W p g n ids) : At5 w W.drew p g n ids := h.below (Below.refl _ _).drew
theorem At5.write (h : At5 w W p g n ids) {ids' : List Int} (hx : Ix W' w.heap.size p g n ids') (hg : W.grownBy W' (some g)) : At5 w W' p g n ids' :=
  ⟨hx, h.bel.grown hg h.bel.size (fun k hk => by cases hk; exact h.ix.geg)⟩
theorem a_set (h : At5 w W p g n ids) (id : Int) (A2 : Option Addr) (m d : Nat) (rs : List (Int × Int)) (x' : List Int) (no : Int) (hN : xPut ids id rs false = (x', no))
    (hs : Rn W W.heap.size A2 m rs) (hap : ∀ b off, 0 < m → A2 = some ⟨b, off, none⟩ → b ≠ g) (hm : m ≤ 65536) (hr : ∀ r ∈ rs, in64 r.1 ∧ in64 r.2) (h0 : in64 id) :
    Calls Try.prog 12 #[.pointer (some ⟨p, 0, none⟩), .int .i64 id, .slice A2 m d] W fun e w' => e = .returned (.int .i64 no) ∧ At5 w w' p g n x' ∧ W.grownBy w' (some g) := by
  refine (code_xset id A2 m d rs W h.ix hap hs hm hr h0).mono ?_
  rintro e w' ⟨rfl, h1, h2⟩
  rw [hN] at h1 ⊢
  exact ⟨rfl, h.write h1 h2, h2⟩
theorem a_drop (h : At5 w W p g n ids) (id : Int) (A2 : Option Addr) (m d : Nat) (rs : List (Int × Int)) (x' : List Int) (no : Int) (hN : xPut ids id rs true = (x', no))
    (hs : Rn W W.heap.size A2 m rs) (hap : ∀ b off, 0 < m → A2 = some ⟨b, off, none⟩ → b ≠ g) (hm : m ≤ 65536) (hr : ∀ r ∈ rs, in64 r.1 ∧ in64 r.2) :
    Calls Try.prog 11 #[.pointer (some ⟨p, 0, none⟩), .slice A2 m d] W fun e w' => e = .returned (.int .i64 no) ∧ At5 w w' p g n x' ∧ W.grownBy w' (some g) := by
  refine (code_xdrop id A2 m d rs W h.ix hap hs hm hr).mono ?_
  rintro e w' ⟨rfl, h1, h2⟩
  rw [hN] at h1 ⊢
  exact ⟨rfl, h.write h1 h2, h2⟩
/-- A row that came in is none of the index'. -/
theorem At5.apart (h : At5 w W p g n ids) {A2 : Option Addr} {m : Nat} {rs : List (Int × Int)} (hs : Rn w w.heap.size A2 m rs) : ∀ b off, 0 < m → A2 = some ⟨b, off, none⟩ → b ≠ g := fun b off hm e => by
  obtain ⟨b2, off2, e2, hb2, _⟩ := hs.2 hm
  rw [e] at e2
  injection e2 with e2; injection e2 with e2
  have := h.ix.geg; omega
/-- Runs that a call made: of none of the index' blocks. -/
def OffRuns (w : World) (g : Nat) (rs : List (Int × Int)) (e : Ending) (w' : World) : Prop := ∃ A c, e = .returned (.slice A rs.length c) ∧ Rn w' w'.heap.size A rs.length rs ∧ (∀ b off, 0 < rs.length → A = some ⟨b, off, none⟩ → b ≠ g) ∧ Below w.heap.size w w'
theorem a_runs (h : At5 w W p g n ids) (k : Int) (h0 : in64 k) :
    Calls Try.prog 18 #[.pointer (some ⟨p, 0, none⟩), .int .i64 k] W (OffRuns W g (xRuns ids k)) := by
  refine (code_xruns h.ix k h0).mono ?_
  rintro e w' ⟨A, c, rfl, h1, h2⟩
  have := h.ix.lt
  refine ⟨A, c, rfl, Rn.of_own h1 rfl, fun b off hpos e => ?_, h2⟩
  obtain ⟨g', c', hv, k1, k2⟩ := last_form h1 hpos
  injection hv with hv
  rw [e] at hv
  injection hv with hv; injection hv with hv
  omega
end

set_option maxRecDepth 100000 in
set_option maxHeartbeats 4000000 in
theorem indexBack_any (pages id : Int) (A AR : Option Addr) (L c m cR : Nat) (l : List Act5) (runs : List (Int × Int)) (w : World) (h0 : in64 pages) (h2 : in64 id) (hL : L ≤ maxLen) (hl : RowOf (Act5Is w) 3 w w.heap.size A L l)
    (hmL : m ≤ maxLen) (hRs : Rn w w.heap.size AR m runs) (hRr : ∀ r ∈ runs, in64 r.1 ∧ in64 r.2) :
    Calls Try.prog 6 #[.int .i64 pages, .slice A L c, .int .i64 id, .slice AR m cR] w fun e w' => e = .returned (.bool true) ∧ Below w.heap.size w w' := by
  have ca := fun W => awake5 W
  unfold maxLen at hL hmL
  by_cases g1 : 50 < L
  · clear hl hRs hRr
    go_enter Try.func6, Try.ntmps6
    go_wp2_with (go_at_call 7; refine (ca _).mono ?_; rintro e w1 ⟨rfl, hb1⟩)
    go_ret
    exact ⟨rfl, hb1⟩
  by_cases g2 : 20 < m
  · clear hl hRs hRr
    go_enter Try.func6, Try.ntmps6
    go_wp2_with (go_at_call 7; refine (ca _).mono ?_; rintro e w1 ⟨rfl, hb1⟩)
    go_ret
    exact ⟨rfl, hb1⟩
  have cn := code_xnew pages w h0
  unfold ResIx at cn
  obtain ⟨n, hn⟩ : ∃ n, (max 0 (min pages 1024)).toNat = n := ⟨_, rfl⟩
  rw [hn] at cn
  have hn2 : n ≤ 1024 := by omega
  have HRow := hidb hl
  obtain ⟨x0, hx0⟩ : ∃ x0, xNew pages = x0 := ⟨_, rfl⟩
  rw [hx0] at cn
  have H2 := hidb h2
  have HRS := hidb hRs
  have HRR := hidb hRr
  clear hl hx0 hn h0 h2 hRs hRr
  go_enter Try.func6, Try.ntmps6
  go_wp2_with (first
    | (go_at_call 8; (with_reducible refine cn.mono ?_); rintro e w1 ⟨p, g, rfl, hx1, hb1⟩))
  have R0 : Hid (At5 w w1 p g n x0) := hidb ⟨hx1, hb1⟩
  clear hx1 hb1 cn
  go_loopw [10] (fun k wr => ∃ (j : Nat) (x : List Int), j ≤ L ∧ k = .int .i64 j ∧ Hid (At5 w wr p g n x)) (fun k _ => (L - intOf k).toNat)
  case atStart => exact ⟨0, _, by omega, rfl, R0⟩
  case round =>
    obtain ⟨j, x, hj, rfl, HR⟩ := hrel
    by_cases hlt : j < L
    · obtain ⟨b, off, y, cs, rfl, hbw, hy, hcl, hcs, hact⟩ := HRow.out.at_ hlt
      obtain ⟨drop, k, A2, len2, cap2, rs⟩ := y
      obtain ⟨rfl, ik, il, iR, ir⟩ := hact
      simp only at ik il iR ir hcs
      have HQ : Hid (∀ W, Below w.heap.size w W → W.cell? ⟨b, off + j * 3, none⟩ = some (.bool drop) ∧ W.cell? ⟨b, off + j * 3 + 1, none⟩ = some (.int .i64 k) ∧ W.cell? ⟨b, off + j * 3 + 2, none⟩ = some (.slice A2 len2 cap2)) := hidb (fun W hB =>
        ⟨by rw [hB.cell hbw]; exact hcs 0 (by omega), by rw [hB.cell hbw]; exact hcs 1 (by omega), by rw [hB.cell hbw]; exact hcs 2 (by omega)⟩)
      obtain ⟨q0, q1, q2⟩ := HQ.out wr HR.out.bel
      have hi0 : (0 : Int) ≤ (j : Int) := by omega
      have hi1 : (j : Int) < (L : Int) := by omega
      unfold maxLen at il
      by_cases g4 : 20 < len2
      · clear hcs hcl hy hbw iR ir ik
        have HB := hidb HR.out.bel
        go_wp2_with (go_at_call 7; refine (ca _).mono ?_; rintro e w3 ⟨rfl, hb3⟩)
        go_ret
        exact ⟨rfl, HB.out.trans (hb3.mono HB.out.size)⟩
      obtain ⟨N, hN⟩ : ∃ N, xPut x k rs false = N := ⟨_, rfl⟩
      obtain ⟨x', no⟩ := N
      have cd := a_set HR.out.drew k A2 len2 cap2 rs x' no hN ((iR.below HR.out.drew.bel).more HR.out.drew.bel.size) (HR.out.drew.apart iR) (by omega) ir ik
      clear hcs hcl hy iR ir ik hN
      go_wp2
      go_region_held3 (fun w' => w'.cell? ⟨b, off + j * 3, none⟩ = some (.bool drop) ∧ w'.cell? ⟨b, off + j * 3 + 1, none⟩ = some (.int .i64 k) ∧ w'.cell? ⟨b, off + j * 3 + 2, none⟩ = some (.slice A2 len2 cap2)) (go_keep)
        (first | (go_at_call 12; (with_reducible refine cd.mono ?_); rintro e w4 ⟨rfl, S4, hg4⟩; obtain ⟨y0, y1, y2⟩ := HQ.out _ S4.bel))
      clear cd
      go_wp2
      go_roundw
      case rel => exact ⟨j + 1, _, by omega, by go_num, hidb S4⟩
      case measure => simp [intOf]; omega
    · have S0 := HR.out
      have cr0 := a_runs S0 0 (in64_mk (by omega) (by omega))
      unfold OffRuns at cr0
      obtain ⟨N, hN⟩ : ∃ N, xPut x id runs false = N := ⟨_, rfl⟩
      obtain ⟨x', no⟩ := N
      have CS : Hid (∀ W, At5 w W p g n x → Calls Try.prog 12 #[.pointer (some ⟨p, 0, none⟩), .int .i64 id, .slice AR m cR] W fun e w' => e = .returned (.int .i64 no) ∧ At5 w w' p g n x' ∧ W.grownBy w' (some g)) := hidb (fun W h =>
        a_set h id AR m cR runs x' no hN ((HRS.out.below h.bel).more h.bel.size) (h.apart HRS.out) (by omega) HRR.out H2.out)
      have hle : (xRuns x 0).length ≤ 65536 := by have := xRuns_le x 0; have := S0.ix.hlen; omega
      by_cases hno : no = 0
      · subst hno
        have hback := xPut_back hN id
        have CD : Hid (∀ W, At5 w W p g n x' → Calls Try.prog 11 #[.pointer (some ⟨p, 0, none⟩), .slice AR m cR] W fun e w' => e = .returned (.int .i64 0) ∧ At5 w w' p g n x ∧ W.grownBy w' (some g)) := hidb (fun W h =>
          a_drop h id AR m cR runs x 0 hback ((HRS.out.below h.bel).more h.bel.size) (h.apart HRS.out) (by omega) HRR.out)
        have CR : Hid (∀ W, At5 w W p g n x → Calls Try.prog 18 #[.pointer (some ⟨p, 0, none⟩), .int .i64 0] W (OffRuns W g (xRuns x 0))) := hidb (fun W h => a_runs h 0 (in64_mk (by omega) (by omega)))
        unfold OffRuns at CR
        have HS0 := hidb S0
        clear S0 hN hback
        go_wp2_with (go_at_call 18; (with_reducible refine cr0.mono ?_); rintro e w3 ⟨A3, c3, rfl, hR3, hne3, hb3⟩)
        have S3 := HS0.out.below hb3
        have cs := CS.out _ S3
        have HR3 := hidb hR3
        have HN3 := hidb hne3
        clear cr0 hR3 hne3 hb3 S3
        go_wp2_with (go_at_call 12; (with_reducible refine cs.mono ?_); rintro e w4 ⟨rfl, S4, hg4⟩; have cd := CD.out _ S4; have HR4 := hidb (HR3.out.grown HN3.out hg4); clear S4 hg4)
        go_wp2_with (go_at_call 11; (with_reducible refine cd.mono ?_); rintro e w5 ⟨rfl, S5, hg5⟩; have cr := CR.out _ S5; have HR5 := hidb (HR4.out.grown HN3.out hg5); have HS5 := hidb S5; clear S5 hg5)
        go_wp2_with (first
          | (go_at_call 18; (with_reducible refine cr.mono ?_); rintro e w6 ⟨A6, c6, rfl, hR6, hne6, hb6⟩; have hR3b := HR5.out.below hb6; have S6 := HS5.out.below hb6)
          | (go_at_call 17; (with_reducible refine (t_same hR6 hR3b hle).mono ?_); rintro e w7 ⟨rfl, hb7⟩)
          | (go_at_call 7; (with_reducible refine (ca _).mono ?_); rintro e w8 ⟨rfl, hb8⟩))
        go_ret
        exact ⟨rfl, (S6.below (nextB hb7 hb8)).bel⟩
      · obtain rfl := xPut_refused hN hno
        have hne : (no != 0) = true := by simpa using hno
        have CR : Hid (∀ W, At5 w W p g n x' → Calls Try.prog 18 #[.pointer (some ⟨p, 0, none⟩), .int .i64 0] W (OffRuns W g (xRuns x' 0))) := hidb (fun W h => a_runs h 0 (in64_mk (by omega) (by omega)))
        unfold OffRuns at CR
        have HS0 := hidb S0
        clear S0 hN hno
        go_wp2_with (go_at_call 18; (with_reducible refine cr0.mono ?_); rintro e w3 ⟨A3, c3, rfl, hR3, hne3, hb3⟩)
        have S3 := HS0.out.below hb3
        have cs := CS.out _ S3
        have HR3 := hidb hR3
        have HN3 := hidb hne3
        clear cr0 hR3 hne3 hb3 S3
        go_wp2_with (go_at_call 12; (with_reducible refine cs.mono ?_); rintro e w4 ⟨rfl, S4, hg4⟩; have cr := CR.out _ S4; have HR4 := hidb (HR3.out.grown HN3.out hg4); have HS4 := hidb S4; clear S4 hg4)
        go_wp2_with (first
          | (go_at_call 18; (with_reducible refine cr.mono ?_); rintro e w6 ⟨A6, c6, rfl, hR6, hne6, hb6⟩; have hR3b := HR4.out.below hb6; have S6 := HS4.out.below hb6)
          | (go_at_call 17; (with_reducible refine (t_same hR6 hR3b hle).mono ?_); rintro e w7 ⟨rfl, hb7⟩)
          | (go_at_call 7; (with_reducible refine (ca _).mono ?_); rintro e w8 ⟨rfl, hb8⟩))
        go_ret
        exact ⟨rfl, (S6.below (nextB hb7 hb8)).bel⟩

end Go.Proofs.Ytoghahldlnhpdaa
