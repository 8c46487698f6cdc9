/- What a cut span's blocks and its list are in memory; which are asked for. -/
import Derived.Test.YtcgfmpegakpddaaGreatPoolObj
namespace Go.Proofs.YtcgfmpegakpddaaGreat
open Go.RowKit Go.Maps
set_option linter.unusedVariables false

/-- Base, of a page that is there. -/
theorem code_pbase (page : Int) (w : World) (h0 : 0 ≤ page) (h1 : page ≤ 1024) :
    Calls Tryz.prog 119 #[.int .i64 page] w fun e w' => e = .returned (.int .i64 (64 * page)) ∧ w = w' := by
  go_enter Tryz.func119, Tryz.ntmps119
  go_wp2
  go_ret
  exact ⟨by show Ending.returned (.int .i64 (page * 64)) = _; rw [Int.mul_comm], rfl⟩
/-- slices.Contains, at numbers. -/
theorem code_pcontains (A : Option Addr) (n c : Nat) (zs : List Int) (v : Int) (w : World) (hs : Sl w w.heap.size A n (zs.map iv)) (hn : n ≤ 131072) :
    Calls Tryz.prog 63 #[.slice A n c, .int .i64 v] w fun e w' => e = .returned (.bool (decide (v ∈ zs))) ∧ w = w' := by
  have ci := code_ixint A n c zs v w hs hn
  clear hs
  go_enter Tryz.func63, Tryz.ntmps63
  go_wp2_with (go_at_call 117; (with_reducible refine ci.mono ?_); rintro e w1 ⟨⟨r, rfl, hr⟩, rfl⟩)
  go_ret
  refine ⟨?_, rfl⟩
  rcases hr with ⟨h1, rfl⟩ | ⟨i, hi, rfl, h2⟩
  · rw [decide_eq_false h1]; rfl
  · rw [decide_eq_true (List.mem_of_getElem? h2)]
    first | rfl | (congr 3; done) | (congr 3; exact decide_eq_true (by omega))

theorem shl16 (o : Int) (h0 : 0 ≤ o) (h1 : o ≤ 3) (W : World) : (Op.shift BinOp.shl .i64 16 .i64 o).run Tryz.prog W = .ok (.int .i64 (pSize o : Nat)) W := by
  obtain rfl | rfl | rfl | rfl : o = 0 ∨ o = 1 ∨ o = 2 ∨ o = 3 := by omega
  all_goals kernel_rfl
theorem quo256 (o : Int) (h0 : 0 ≤ o) (h1 : o ≤ 3) : (256 : Int) / ((pSize o : Nat) : Int) = ((pMany 4 o : Nat) : Int) := by
  obtain rfl | rfl | rfl | rfl : o = 0 ∨ o = 1 ∨ o = 2 ∨ o = 3 := by omega
  all_goals decide
theorem pMany_16 (o : Int) (h0 : 0 ≤ o) (h1 : o ≤ 3) : 2 ≤ pMany 4 o ∧ pMany 4 o ≤ 16 ∧ pMany 4 o * pSize o = 256 ∧ 16 ≤ pSize o := by
  obtain rfl | rfl | rfl | rfl : o = 0 ∨ o = 1 ∨ o = 2 ∨ o = 3 := by omega
  all_goals decide

/-- A row under way: of place i on it is still to be written. -/
structure BlkSt (w wr : World) (base g N i : Nat) (R : List Int) (L : List Value) : Prop where
  row : Rw wr g 3 L
  len : L.length = N
  tk : L.take i = (R.take i).map iv
  bel : Below base w wr
theorem BlkSt.step {w wr : World} {base g N i : Nat} {R : List Int} {L : List Value} (h : BlkSt w wr base g N i R L) (hg : base ≤ g) (hi : i < N) {x : Int} (hx : R[i]? = some x) : BlkSt w (wr.setCell ⟨g, i, none⟩ (.int .i64 x)) base g N (i + 1) R (L.set i (iv x)) := by
  have hl := h.len
  refine ⟨h.row.setCell i _, by rw [List.length_set]; exact hl, ?_, h.bel.setCell (p := ⟨g, i, none⟩) hg _⟩
  rw [List.take_add_one, List.take_set_of_le (Nat.le_refl _), h.tk, List.getElem?_set_self (by omega), List.take_add_one, hx, List.map_append]
  rfl

set_option maxRecDepth 100000 in
/-- blocks. -/
theorem code_pblocks (k : CutV) (w : World) (hk : CutAt w k) (hlen : k.s.2.2.1 = 4) (h0 : 0 ≤ k.s.2.1) (h1 : k.s.2.1 ≤ 1024) (h2 : 0 ≤ k.s.2.2.2) (h3 : k.s.2.2.2 ≤ 3) :
    Calls Tryz.prog 67 #[pv k] w (OwnInts w (pBlocks k.s)) := by
  obtain ⟨i0, hi, hz0, hz1, hz2⟩ := info_parts info_int
  have HK : Hid (∀ W, Below w.heap.size w W → W.cell? ⟨k.b, 1, none⟩ = some (.int .i64 k.s.2.1)) := hidb (fun W hb => (hk.below hb).c1)
  have d1 := hk.c1
  have d2 := hk.c2
  have d3 := hk.c3
  rw [hlen] at d2
  have q1 := shl16 k.s.2.2.2 h2 h3
  have q2 := quo256 k.s.2.2.2 h2 h3
  obtain ⟨m0, m1, m2, m3⟩ := pMany_16 k.s.2.2.2 h2 h3
  have cb := fun W => code_pbase k.s.2.1 W h0 h1
  have HR : Hid (∀ i, i < pMany 4 k.s.2.2.2 → (pBlocks k.s)[i]? = some (64 * k.s.2.1 + ((i * pSize k.s.2.2.2 : Nat) : Int))) := hidb (fun i hi => by
    unfold pBlocks
    rw [hlen, List.getElem?_map, List.getElem?_range hi]; rfl)
  have HRL : Hid ((pBlocks k.s).length = pMany 4 k.s.2.2.2) := hidb (by rw [pBlocks_length, hlen])
  obtain ⟨R, hR⟩ : ∃ R, pBlocks k.s = R := ⟨_, rfl⟩
  rw [hR] at HR HRL ⊢
  obtain ⟨⟨sid, st, sln, so⟩, hs⟩ : ∃ s, k.s = s := ⟨_, rfl⟩
  rw [hs] at HK d1 d3 q1 q2 m0 m1 m2 m3 cb HR HRL h0 h1
  simp only at HK d1 d3 q1 q2 m0 m1 m2 m3 cb HR HRL h0 h1
  obtain ⟨sz, hsz⟩ : ∃ sz, pSize so = sz := ⟨_, rfl⟩
  rw [hsz] at q1 q2 m2 m3 HR
  obtain ⟨N, hN⟩ : ∃ N, pMany 4 so = N := ⟨_, rfl⟩
  rw [hN] at q2 m0 m1 m2 HR HRL
  have HM : Hid (N * sz = 256) := hidb m2
  unfold pv
  obtain ⟨kb, hkb⟩ : ∃ kb, k.b = kb := ⟨_, rfl⟩
  rw [hkb] at HK d1 d2 d3 ⊢
  clear hR hs hsz hN hk hlen h2 h3 hkb m2
  go_enter Tryz.func67, Tryz.ntmps67
  go_wp2_with (at_make; refine wpList_make_full w rfl _ _ 38 rfl w.heap.size 3 i0 (.int .i64 0) 1 Tryz.underlying38 hi hz0 hz1 .i64 .i64 _ _ N rfl rfl (by omega) (by omega) (by rw [hz2]; omega) (by unfold maxLen; omega) (Nat.le_refl _) ?_; intro w1 hown hgrow)
  have hlt : w.heap.size < w1.heap.size := (hown.lt w.heap.size rfl).2
  have HB1 : Hid (Below w.heap.size w w1) := hidb ((Below.refl _ _).grown hgrow (Nat.le_refl _) (fun k hk => by cases hk))
  obtain ⟨L0, hL0, _, _, _, hLl, _⟩ := own_whole hown
  rw [Nat.mul_one] at hLl
  have HST : Hid (BlkSt w w1 w.heap.size w.heap.size N 0 R L0) := hidb ⟨hL0, hLl, by simp, HB1.out⟩
  clear hown hgrow hL0 hLl q1 q2 d1 d2 d3
  go_loopw [5, 24] (fun _ s24 wr => ∃ (i : Nat) (L : List Value), s24 = .int .i64 i ∧ i ≤ N ∧ Hid (BlkSt w wr w.heap.size w.heap.size N i R L)) (fun _ s24 _ => (N - intOf s24).toNat)
  case atStart => exact ⟨0, L0, rfl, by omega, HST⟩
  case round =>
    obtain ⟨i, L, rfl, hiN, HST⟩ := hrel
    by_cases hlt2 : i < N
    · have hrow := HST.out.row
      have hll := HST.out.len
      have c1 := HK.out wr HST.out.bel
      have hu : wr.cell? ⟨w.heap.size, i, none⟩ = some (L[i]'(by omega)) := by rw [hrow.cell]; exact List.getElem?_eq_getElem _
      have hf := hrow.free i
      have hi0 : (0 : Int) ≤ (i : Int) := by omega
      have hi1 : (i : Int) < (N : Int) := by omega
      have hmul : (i : Int) * (sz : Int) ≤ 256 := by
        have h1 := HM.out
        have h2 : i * sz ≤ N * sz := Nat.mul_le_mul_right _ (by omega)
        rw [← Int.natCast_mul]
        omega
      have hmul0 : 0 ≤ (i : Int) * (sz : Int) := Int.mul_nonneg (by omega) (by omega)
      have w1' : IntKind.i64.wrap ((i : Int) * (sz : Int)) = (i : Int) * (sz : Int) := IntWalk.i64_in _ (by omega)
      have w2' : IntKind.i64.wrap (64 * st + (i : Int) * (sz : Int)) = 64 * st + (i : Int) * (sz : Int) := IntWalk.i64_in _ (by omega)
      have HST2 := hidb (HST.out.step (Nat.le_refl _) hlt2 (HR.out i hlt2))
      rw [Int.natCast_mul] at HST2
      generalize L[i]'(by omega) = u at hu
      clear hrow hll
      go_wp2_with (go_at_call 119; (with_reducible refine (cb _).mono ?_); rintro e w' ⟨rfl, rfl⟩)
      go_roundw
      case rel => exact ⟨i + 1, _, by go_num, by omega, HST2⟩
      case measure => simp [intOf]; omega
    · obtain rfl : i = N := by omega
      have P : Hid (OwnInts w R (.returned (.slice (some ⟨w.heap.size, 0, none⟩) i i)) wr) := hidb (by
        have h := HST.out
        have hl := HRL.out
        have htk := h.tk
        rw [List.take_of_length_le (by rw [h.len]; exact Nat.le_refl _), List.take_of_length_le (by omega)] at htk
        have h2 := own_of_whole (base := w.heap.size) (s := 1) (n := i) (c := i) h.row (Nat.le_refl _) (Nat.le_refl _) (by unfold maxLen; omega) (by rw [h.len]; omega)
        rw [Nat.mul_one, List.take_of_length_le (by rw [h.len]; exact Nat.le_refl _), htk] at h2
        exact ⟨some ⟨w.heap.size, 0, none⟩, i, by rw [hl], by rw [hl]; exact h2, h.bel⟩)
      clear HST
      go_wp2
      go_ret
      exact P.out

end Go.Proofs.YtcgfmpegakpddaaGreat
