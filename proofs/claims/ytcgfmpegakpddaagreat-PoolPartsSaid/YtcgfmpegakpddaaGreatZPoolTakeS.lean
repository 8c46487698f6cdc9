/- What 'Take' of the document's own pool returns where a span has blocks in its list. -/
import Derived.Test.YtcgfmpegakpddaaGreatZPoolGiveR0
import Derived.Deep.RegionHeld3
namespace Go.Proofs.YtcgfmpegakpddaaGreat
open Go.RowKit
set_option linter.unusedVariables false

set_option maxRecDepth 100000 in
set_option maxHeartbeats 4000000 in
theorem ref_ptake_some (P : Nat → Prop) (q : PoolV) (v : Value) (order : Int) (i : Nat) (w : World) (hP : ∀ b, w.heap.size ≤ b → P b) (o : POk q) (hv : PoIs w P q v) (h0 : 0 ≤ order ∧ order ≤ 3) (hn : q.l.length ≤ 65536) (hf : pFirst q.l order 0 true = some i) :
    Calls Tryz.prog 50 #[v, .int .i64 order] w (PoolRet3 w P (pTake q order)) := by
  obtain ⟨A, n, c, A2, n2, c2, A3, n3, c3, ys, hv', h1, h2, h3, h4, h5, h6⟩ := hv
  have l3 : ys.length = n3 := h2.row.1
  have lq : q.l.length = n3 := by rw [← h3, List.length_map, l3]
  rw [lq] at hn
  obtain ⟨d, hd0, hfit⟩ : ∃ d, q.l[i]? = some d ∧ pFits order 0 true d = true := by
    rcases pFirst_spec q.l order 0 true with ⟨e, _⟩ | ⟨b, d, e, hd0, hfd, _⟩
    · rw [hf] at e; cases e
    · rw [hf] at e
      obtain rfl := Option.some.inj e
      exact ⟨d, hd0, hfd⟩
  have hT := pTake_some h0 hf hd0
  rw [← h3, List.getElem?_map] at hd0
  obtain ⟨y, hy, rfl⟩ := Option.map_eq_some_iff.1 hd0
  have hi : i < n3 := by rw [← l3]; exact (List.getElem?_eq_some_iff.1 hy).1
  have hym := List.mem_of_getElem? hy
  obtain ⟨g1, g2, g3, g4, g5, g6⟩ := h2.lists y hym
  have g7 := h6 y hym
  have hok := h2.ok y hym
  obtain ⟨⟨s1, s2, s3, s4⟩, yA, yn, yc, yl⟩ := y
  unfold CV.plain at hfit hT
  simp only at g1 g2 g3 g4 g5 g6 g7 hfit hT
  obtain ⟨a, r, rfl⟩ : ∃ a r, yl = a :: r := by
    cases yl with
    | nil => unfold pFits at hfit; simp at hfit
    | cons a r => exact ⟨a, r, rfl⟩
  simp only [List.tail_cons, List.headD_cons] at hT
  have hyl : r.length + 1 = yn := by have := g1.1; simpa using this
  obtain ⟨lb, lo, rfl, hlb, hlc⟩ := g1.2 (by omega)
  have ha0 := hlc 0 (by omega)
  have hlb : lb < w.heap.size := hlb
  rw [Nat.add_zero] at ha0
  have ha0 : w.cell? ⟨lb, lo, none⟩ = some (.int .i64 a) := ha0
  obtain ⟨P', hP'⟩ : ∃ P' : Nat → Prop, P' = fun x => P x ∧ x ≠ w.heap.size ∧ x ≠ w.heap.size + 1 := ⟨_, rfl⟩
  have hPP : ∀ b, w.heap.size + 2 ≤ b → P' b := fun b h => by rw [hP']; exact ⟨hP b (by omega), by omega, by omega⟩
  have hPL : ∀ b, P b → b < w.heap.size → P' b := fun b h h2 => by rw [hP']; exact ⟨h, by omega, by omega⟩
  obtain ⟨A', hA'⟩ : ∃ A' : Option Addr, A' = if 1 < yc then some ⟨lb, lo + 1, none⟩ else some ⟨lb, lo, none⟩ := ⟨_, rfl⟩
  have hA'b : ∀ x, A' = some x → x.block = lb := fun x hx => by
    rw [hA'] at hx
    split at hx <;> (injection hx with hx; rw [← hx])
  have hsl : Sl w w.heap.size A' (yn - 1) (r.map iv) := by
    refine ⟨by rw [List.length_map]; omega, fun hp => ?_⟩
    refine ⟨lb, lo + 1, by rw [hA', if_pos (by omega)], hlb, fun j hj => ?_⟩
    have := hlc (j + 1) (by omega)
    rw [show lo + 1 + j = lo + (j + 1) by omega, this]
    rfl
  have hv3 : PoIs w P' q (pval q.heap.pages A n c A2 n2 c2 q.heap.last A3 n3 c3 q.held) :=
    (PoIs.apart ⟨A, n, c, A2, n2, c2, A3, n3, c3, ys, rfl, h1, h2, h3, h4, h5, h6⟩ (by rw [o.hok.fl]; omega)).weaken fun b h => hPL b h.1 h.2
  have h1' : HIs w P' q.heap (hval q.heap.pages A n c A2 n2 c2 q.heap.last) := (h1.apart (by rw [o.hok.fl]; omega)).weaken fun b h => hPL b h.1 h.2
  have h2' : Cn w P' A3 n3 ys := ⟨h2.row, fun z hz => by
    obtain ⟨k1, k2, k3, k4, k5, k6⟩ := h2.lists z hz
    exact ⟨k1, k2, k3, k4, fun x hx => hPL _ (k5 x hx) (h6 z hz x hx), k6⟩, fun x hx => hPL _ (h2.inp x hx) (h5 x hx), h2.ok⟩
  have hlbP : P' lb := hPL lb (g5 _ rfl) hlb
  have CW : Hid (∀ W, Below w.heap.size w W → w.heap.size + 2 ≤ W.heap.size → Calls Tryz.prog 101 #[.agg #[.int .i64 q.heap.pages, .slice A n c, .slice A2 n2 c2, .int .i64 q.heap.last, .slice A3 n3 c3, .bool q.held], .int .i64 (i : Int), .agg #[.int .i64 s1, .int .i64 s2, .int .i64 s3, .int .i64 s4, .slice A' (yn - 1) (yc - 1)]] W fun e w5 => ∃ A5 c5, e = .returned (.agg #[.int .i64 q.heap.pages, .slice A n c, .slice A2 n2 c2, .int .i64 q.heap.last, .slice A5 n3 c5, .bool q.held]) ∧ Below W.heap.size W w5 ∧ PoIs w5 P' ⟨q.heap, q.l.set i ((s1, s2, s3, s4), r), q.held⟩ (.agg #[.int .i64 q.heap.pages, .slice A n c, .slice A2 n2 c2, .int .i64 q.heap.last, .slice A5 n3 c5, .bool q.held])) := hidb (fun W hb hW => by
    have hne : A' = none → yc - 1 = 0 := fun e => by
      rw [hA'] at e
      split at e <;> cases e
    have hip : InP P' A' := fun x hx => by rw [hA'b x hx]; exact hlbP
    have hlo : ListOk W P' ⟨(s1, s2, s3, s4), A', yn - 1, yc - 1, r⟩ := ⟨(hsl.below hb).more hb.size, by show yn - 1 ≤ yc - 1; omega, by show yc - 1 ≤ _; omega, hne, hip, by show yn - 1 ≤ _; omega⟩
    refine (ref_pwith P' q.heap.pages q.heap.last A A2 A3 n c n2 c2 n3 c3 q.held ys i ⟨(s1, s2, s3, s4), A', yn - 1, yc - 1, r⟩ W (fun b h => hPP b (by omega)) (h2'.below hb) hn hi hlo hok).mono ?_
    rintro e w5 ⟨A5, c5, rfl, k1, k2, k3, k4, k5⟩
    refine ⟨A5, c5, rfl, k2, A, n, c, A2, n2, c2, A5, n3, c5, _, rfl, (h1'.below hb).below k2, k1, ?_, ⟨k4, k5, fun e => ?_⟩, fun x hx => ?_, fun z hz x hx => ?_⟩
    · show (ys.set i _).map CV.plain = q.l.set i _
      rw [List.map_set, h3]; rfl
    · obtain ⟨b5, off5, _, _, e5, _⟩ := RowOf.at_ k1.row hi
      rw [e] at e5; cases e5
    · obtain ⟨b5, off5, e5, hb5, _⟩ := k1.row.2 (by omega)
      rw [hx] at e5
      injection e5 with e5
      rw [e5]; exact hb5
    · have hw5 : w.heap.size ≤ w5.heap.size := Nat.le_trans hb.size k2.size
      rcases List.mem_or_eq_of_mem_set hz with hz | rfl
      · exact Nat.lt_of_lt_of_le (h6 z hz x hx) hw5
      · show x.block < _
        rw [hA'b x hx]
        omega)
  obtain ⟨b3, off3, z0, e3, hz0, _, _⟩ := h2.at_ hi
  subst e3
  obtain ⟨W0, hW0⟩ : ∃ W0, W0 = (w.alloc (.cells #[.int .i64 q.heap.pages, .slice A n c, .slice A2 n2 c2, .int .i64 q.heap.last, .slice (some ⟨b3, off3, none⟩) n3 c3, .bool q.held] 35)).alloc (.cells #[.int .i64 0, .slice none 0 0, .slice none 0 0, .int .i64 0, .slice none 0 0, .bool false] 35) := ⟨_, rfl⟩
  have hz : W0.heap.size = w.heap.size + 2 := by rw [hW0]; simp
  have hB : Below w.heap.size w W0 := by rw [hW0]; exact ((Below.refl _ _).alloc (Nat.le_refl _) _).alloc (by simp) _
  have BX : Hid (∀ W, Below W0.heap.size W0 W → (W.cell? ⟨w.heap.size, 0, none⟩ = some (.int .i64 q.heap.pages) ∧ W.cell? ⟨w.heap.size, 1, none⟩ = some (.slice A n c) ∧ W.cell? ⟨w.heap.size, 2, none⟩ = some (.slice A2 n2 c2) ∧ W.cell? ⟨w.heap.size, 3, none⟩ = some (.int .i64 q.heap.last) ∧ W.cell? ⟨w.heap.size, 4, none⟩ = some (.slice (some ⟨b3, off3, none⟩) n3 c3) ∧ W.cell? ⟨w.heap.size, 5, none⟩ = some (.bool q.held)) ∧
      (W.cell? ⟨w.heap.size + 1, 0, none⟩ = some (.int .i64 0) ∧ W.cell? ⟨w.heap.size + 1, 1, none⟩ = some (.slice none 0 0) ∧ W.cell? ⟨w.heap.size + 1, 2, none⟩ = some (.slice none 0 0) ∧ W.cell? ⟨w.heap.size + 1, 3, none⟩ = some (.int .i64 0) ∧ W.cell? ⟨w.heap.size + 1, 4, none⟩ = some (.slice none 0 0) ∧ W.cell? ⟨w.heap.size + 1, 5, none⟩ = some (.bool false)) ∧ (∀ j, W.frozen? ⟨w.heap.size + 1, j, none⟩ = false) ∧
      (W.cell? ⟨b3, off3 + i * 5, none⟩ = some (.int .i64 s1) ∧ W.cell? ⟨b3, off3 + i * 5 + 1, none⟩ = some (.int .i64 s2) ∧ W.cell? ⟨b3, off3 + i * 5 + 2, none⟩ = some (.int .i64 s3) ∧ W.cell? ⟨b3, off3 + i * 5 + 3, none⟩ = some (.int .i64 s4) ∧ W.cell? ⟨b3, off3 + i * 5 + 4, none⟩ = some (.slice (some ⟨lb, lo, none⟩) yn yc)) ∧ W.cell? ⟨lb, lo, none⟩ = some (.int .i64 a) ∧ Below w.heap.size w W ∧ w.heap.size + 2 ≤ W.heap.size) := hidb (fun W hb => by
    have hbw := hB.trans (hb.mono (by omega))
    have hbz := hb.size
    have q0 : ∀ j, W.cell? ⟨w.heap.size, j, none⟩ = W0.cell? ⟨w.heap.size, j, none⟩ := fun j => hb.cell (p := ⟨w.heap.size, j, none⟩) (by show w.heap.size < _; omega)
    have q1 : ∀ j, W.cell? ⟨w.heap.size + 1, j, none⟩ = W0.cell? ⟨w.heap.size + 1, j, none⟩ := fun j => hb.cell (p := ⟨w.heap.size + 1, j, none⟩) (by show w.heap.size + 1 < _; omega)
    have qf : ∀ j, W.frozen? ⟨w.heap.size + 1, j, none⟩ = W0.frozen? ⟨w.heap.size + 1, j, none⟩ := fun j => hb.frozen (p := ⟨w.heap.size + 1, j, none⟩) (by show w.heap.size + 1 < _; omega)
    obtain ⟨b6, o6, y6, e6, hy6, _, t0, t1, t2, t3, t4⟩ := (h2.below hbw).at_ hi
    injection e6 with e6
    injection e6 with e6 e7 e8
    subst e6 e7
    rw [hy] at hy6
    obtain rfl := Option.some.inj hy6
    refine ⟨?_, ?_, fun j => ?_, ⟨t0, t1, t2, t3, t4⟩, ?_, hbw, by omega⟩
    · rw [q0, q0, q0, q0, q0, q0, hW0]; simp [go_sem]
    · rw [q1, q1, q1, q1, q1, q1, hW0]; simp [go_sem]
    · rw [qf, hW0]; simp [go_sem]
    · rw [hbw.cell (p := ⟨lb, lo, none⟩) hlb]; exact ha0)
  have cf := ref_pfirst P q.heap.pages q.heap.last A A2 (some ⟨b3, off3, none⟩) n c n2 c2 n3 c3 q.held ys order 0 true W0 (h2.below hB) hn ⟨by omega, by omega⟩ ⟨by omega, by omega⟩
  rw [h3, hf, show idxInt (some i) = (i : Int) from rfl] at cf
  have HFIN : Hid (∀ w5 A5 c5, Below w.heap.size w w5 → PoIs w5 P' ⟨q.heap, q.l.set i ((s1, s2, s3, s4), r), q.held⟩ (.agg #[.int .i64 q.heap.pages, .slice A n c, .slice A2 n2 c2, .int .i64 q.heap.last, .slice A5 n3 c5, .bool q.held]) → PoolRet3 w P (pTake q order) (.returned (.tuple #[.agg #[.int .i64 q.heap.pages, .slice A n c, .slice A2 n2 c2, .int .i64 q.heap.last, .slice A5 n3 c5, .bool q.held], .int .i64 a, .int .i64 0])) ((((((w5.setCell ⟨w.heap.size + 1, 0, none⟩ (.int .i64 q.heap.pages)).setCell ⟨w.heap.size + 1, 1, none⟩ (.slice A n c)).setCell ⟨w.heap.size + 1, 2, none⟩ (.slice A2 n2 c2)).setCell ⟨w.heap.size + 1, 3, none⟩ (.int .i64 q.heap.last)).setCell ⟨w.heap.size + 1, 4, none⟩ (.slice A5 n3 c5)).setCell ⟨w.heap.size + 1, 5, none⟩ (.bool q.held))) := hidb (fun w5 A5 c5 hb hp => by
    have nb : ¬ P' (w.heap.size + 1) := by rw [hP']; exact fun h => h.2.2 rfl
    have hs6 := (((((hp.aside nb 0 (.int .i64 q.heap.pages)).aside nb 1 (.slice A n c)).aside nb 2 (.slice A2 n2 c2)).aside nb 3 (.int .i64 q.heap.last)).aside nb 4 (.slice A5 n3 c5)).aside nb 5 (.bool q.held)
    rw [hT]
    exact ⟨_, rfl, hs6.weaken fun b h => by rw [hP'] at h; exact h.1, below_set6 hb (by omega) _ _ _ _ _ _⟩)
  have HW0 := hidb hW0
  have HYC := hidb (⟨g2, g3⟩ : yn ≤ yc ∧ yc ≤ 9223372036854775807)
  obtain ⟨pg, hpg⟩ : ∃ x, q.heap.pages = x := ⟨_, rfl⟩
  obtain ⟨la, hla⟩ : ∃ x, q.heap.last = x := ⟨_, rfl⟩
  obtain ⟨hd, hhd⟩ : ∃ x, q.held = x := ⟨_, rfl⟩
  rw [hpg, hla, hhd] at BX CW cf HW0 hv'
  rw [hpg, hla, hhd] at HFIN
  have hw1 : (1 : Int) ≤ (yn : Int) := by omega
  have hw0 : 0 < yn := by omega
  have hw00 : (0 : Int) < (yn : Int) := by omega
  have hw2 : (yn : Int) ≤ (yc : Int) := by omega
  have hi0 : (0 : Int) ≤ (i : Int) := by omega
  have hi1 : (i : Int) < (n3 : Int) := by omega
  clear hd0 hW0 hz hB hpg hla hhd h1 h2 h3 h4 h5 h6 h1' h2' hv3 hsl hlc hP' hPP hPL hlbP hT hfit hf hok hym hy hz0 lq l3 g1 g4 g5 g7 o
  unfold pval at hv' cf
  subst hv'
  by_cases hyc : 1 < yc
  · rw [if_pos hyc] at hA'
    subst hA'
    have hyc2 : ¬ yc = 1 := by omega
    --@1
    go_enter Tryz.func50, Tryz.ntmps50
    go_wp2_with (first
      | (go_at_call 59; go_loud (rw [← HW0.out]); (with_reducible refine cf.mono ?_); rintro e w2 ⟨rfl, hb2⟩; have HB2 := hidb hb2; clear hb2; obtain ⟨⟨j0, j1, j2, j3, j4, j5⟩, _, _, ⟨d0, d1, d2, d3, d4⟩, kl, _, _⟩ := BX.out w2 HB2.out))
    obtain ⟨W3, hW3⟩ : ∃ W3, W3 = w2.alloc (.cells #[.int .i64 s1, .int .i64 s2, .int .i64 s3, .int .i64 s4, .slice (some ⟨lb, lo, none⟩) yn yc] 51) := ⟨_, rfl⟩
    have HB3 : Hid (Below W0.heap.size W0 W3) := hidb (by rw [hW3]; exact HB2.out.alloc HB2.out.size _)
    have HK : Hid (∀ W, Below W3.heap.size W3 W → W.cell? ⟨w2.heap.size, 0, none⟩ = some (.int .i64 s1) ∧ W.cell? ⟨w2.heap.size, 1, none⟩ = some (.int .i64 s2) ∧ W.cell? ⟨w2.heap.size, 2, none⟩ = some (.int .i64 s3) ∧ W.cell? ⟨w2.heap.size, 3, none⟩ = some (.int .i64 s4) ∧ W.cell? ⟨w2.heap.size, 4, none⟩ = some (.slice (some ⟨lb, lo, none⟩) yn yc)) := hidb (fun W hb => by
      have z : ∀ j, W.cell? ⟨w2.heap.size, j, none⟩ = W3.cell? ⟨w2.heap.size, j, none⟩ := fun j => hb.cell (p := ⟨w2.heap.size, j, none⟩) (by rw [hW3]; simp)
      rw [z, z, z, z, z, hW3]
      simp [go_sem])
    rw [← hW3]
    clear hW3 j0 j1 j2 j3 j4 j5 d0 d1 d2 d3 d4 kl
    obtain ⟨⟨j0, j1, j2, j3, j4, j5⟩, _, _, _, kl, hbw3, hz3⟩ := BX.out W3 HB3.out
    obtain ⟨k0, k1, k2, k3, k4⟩ := HK.out W3 (Below.refl _ _)
    have hw2s : w.heap.size + 2 ≤ w2.heap.size := (BX.out w2 HB2.out).2.2.2.2.2.2
    have nn1 : ¬ w2.heap.size = w.heap.size + 1 := by omega
    have nn2 : ¬ w.heap.size + 1 = w2.heap.size := by omega
    have nn3 : ¬ lb = w.heap.size + 1 := by omega
    have nn4 : ¬ w.heap.size + 1 = lb := by omega
    have nn5 : ¬ w.heap.size + 1 = w.heap.size := by omega
    have nn6 : ¬ w.heap.size = w.heap.size + 1 := by omega
    clear hw2s
    have cw := CW.out W3.drew hbw3.drew hz3
    have HX : Hid (∀ w5, Below W3.drew.heap.size W3.drew w5 → Below W0.heap.size W0 w5 ∧ Below W3.heap.size W3 w5) := hidb (fun w5 hb => by
      have h1 : Below W3.heap.size W3 w5 := (Below.refl W3.heap.size W3).drew.trans hb
      exact ⟨HB3.out.trans (h1.mono HB3.out.size), h1⟩)
    clear hbw3 hz3 CW cf HW0 HYC HB2 HB3 ha0 hA'b g6 hyl hlb
    go_region_held3 (fun W' => W'.cell? ⟨w.heap.size, 0, none⟩ = some (.int .i64 pg) ∧ W'.cell? ⟨w.heap.size, 1, none⟩ = some (.slice A n c) ∧ W'.cell? ⟨w.heap.size, 2, none⟩ = some (.slice A2 n2 c2) ∧ W'.cell? ⟨w.heap.size, 3, none⟩ = some (.int .i64 la) ∧ W'.cell? ⟨w.heap.size, 4, none⟩ = some (.slice (some ⟨b3, off3, none⟩) n3 c3) ∧ W'.cell? ⟨w.heap.size, 5, none⟩ = some (.bool hd) ∧ W'.cell? ⟨w2.heap.size, 0, none⟩ = some (.int .i64 s1) ∧ W'.cell? ⟨w2.heap.size, 1, none⟩ = some (.int .i64 s2) ∧ W'.cell? ⟨w2.heap.size, 2, none⟩ = some (.int .i64 s3) ∧ W'.cell? ⟨w2.heap.size, 3, none⟩ = some (.int .i64 s4) ∧ W'.cell? ⟨w2.heap.size, 4, none⟩ = some (.slice (some ⟨lb, lo, none⟩) yn yc) ∧ W'.cell? ⟨lb, lo, none⟩ = some (.int .i64 a)) (go_keep)
      (first | (go_at_call 101; (with_reducible refine cw.mono ?_); rintro e w5 ⟨A5, c5, rfl, hb5, hp5⟩; obtain ⟨x1, x2⟩ := HX.out w5 hb5; obtain ⟨⟨q0, q1, q2, q3, q4, q5⟩, ⟨r0, r1, r2, r3, r4, r5⟩, rf, _, kl5, hbw5, _⟩ := BX.out w5 x1; obtain ⟨k50, k51, k52, k53, k45⟩ := HK.out w5 x2; have rf0 := rf 0; have rf1 := rf 1; have rf2 := rf 2; have rf3 := rf 3; have rf4 := rf 4; have rf5 := rf 5; have HP := hidb (HFIN.out w5 A5 c5 hbw5 hp5); clear rf hb5 hp5 x1 x2 hbw5))
    obtain ⟨t0, t1, t2, t3, t4, t5⟩ := six_cells (.int .i64 pg) (.slice A n c) (.slice A2 n2 c2) (.int .i64 la) (.slice A5 n3 c5) (.bool hd) r0 r1 r2 r3 r4 r5
    go_wp2
    refine bodyPost_ret (v := .tuple #[.agg #[.int .i64 pg, .slice A n c, .slice A2 n2 c2, .int .i64 la, .slice A5 n3 c5, .bool hd], .int .i64 a, .int .i64 0]) (by simp [results, Tryz.results50, go_sem, t0, t1, t2, t3, t4, t5]) rfl ?_
    exact HP.out
  · rw [if_neg hyc] at hA'
    subst hA'
    obtain rfl : yc = 1 := by omega
    obtain rfl : yn = 1 := by omega
    simp only [Nat.sub_self] at CW
    clear hw1 hw2 hyc hw0 hw00
    --@2
    go_enter Tryz.func50, Tryz.ntmps50
    go_wp2_with (first
      | (go_at_call 59; go_loud (rw [← HW0.out]); (with_reducible refine cf.mono ?_); rintro e w2 ⟨rfl, hb2⟩; have HB2 := hidb hb2; clear hb2; obtain ⟨⟨j0, j1, j2, j3, j4, j5⟩, _, _, ⟨d0, d1, d2, d3, d4⟩, kl, _, _⟩ := BX.out w2 HB2.out))
    obtain ⟨W3, hW3⟩ : ∃ W3, W3 = w2.alloc (.cells #[.int .i64 s1, .int .i64 s2, .int .i64 s3, .int .i64 s4, .slice (some ⟨lb, lo, none⟩) 1 1] 51) := ⟨_, rfl⟩
    have HB3 : Hid (Below W0.heap.size W0 W3) := hidb (by rw [hW3]; exact HB2.out.alloc HB2.out.size _)
    have HK : Hid (∀ W, Below W3.heap.size W3 W → W.cell? ⟨w2.heap.size, 0, none⟩ = some (.int .i64 s1) ∧ W.cell? ⟨w2.heap.size, 1, none⟩ = some (.int .i64 s2) ∧ W.cell? ⟨w2.heap.size, 2, none⟩ = some (.int .i64 s3) ∧ W.cell? ⟨w2.heap.size, 3, none⟩ = some (.int .i64 s4) ∧ W.cell? ⟨w2.heap.size, 4, none⟩ = some (.slice (some ⟨lb, lo, none⟩) 1 1)) := hidb (fun W hb => by
      have z : ∀ j, W.cell? ⟨w2.heap.size, j, none⟩ = W3.cell? ⟨w2.heap.size, j, none⟩ := fun j => hb.cell (p := ⟨w2.heap.size, j, none⟩) (by rw [hW3]; simp)
      rw [z, z, z, z, z, hW3]
      simp [go_sem])
    rw [← hW3]
    clear hW3 j0 j1 j2 j3 j4 j5 d0 d1 d2 d3 d4 kl
    obtain ⟨⟨j0, j1, j2, j3, j4, j5⟩, _, _, _, kl, hbw3, hz3⟩ := BX.out W3 HB3.out
    obtain ⟨k0, k1, k2, k3, k4⟩ := HK.out W3 (Below.refl _ _)
    have hw2s : w.heap.size + 2 ≤ w2.heap.size := (BX.out w2 HB2.out).2.2.2.2.2.2
    have nn1 : ¬ w2.heap.size = w.heap.size + 1 := by omega
    have nn2 : ¬ w.heap.size + 1 = w2.heap.size := by omega
    have nn3 : ¬ lb = w.heap.size + 1 := by omega
    have nn4 : ¬ w.heap.size + 1 = lb := by omega
    have nn5 : ¬ w.heap.size + 1 = w.heap.size := by omega
    have nn6 : ¬ w.heap.size = w.heap.size + 1 := by omega
    clear hw2s
    have cw := CW.out W3.drew hbw3.drew hz3
    have HX : Hid (∀ w5, Below W3.drew.heap.size W3.drew w5 → Below W0.heap.size W0 w5 ∧ Below W3.heap.size W3 w5) := hidb (fun w5 hb => by
      have h1 : Below W3.heap.size W3 w5 := (Below.refl W3.heap.size W3).drew.trans hb
      exact ⟨HB3.out.trans (h1.mono HB3.out.size), h1⟩)
    clear hbw3 hz3 CW cf HW0 HYC HB2 HB3 ha0 hA'b g6 hyl hlb
    go_region_held3 (fun W' => W'.cell? ⟨w.heap.size, 0, none⟩ = some (.int .i64 pg) ∧ W'.cell? ⟨w.heap.size, 1, none⟩ = some (.slice A n c) ∧ W'.cell? ⟨w.heap.size, 2, none⟩ = some (.slice A2 n2 c2) ∧ W'.cell? ⟨w.heap.size, 3, none⟩ = some (.int .i64 la) ∧ W'.cell? ⟨w.heap.size, 4, none⟩ = some (.slice (some ⟨b3, off3, none⟩) n3 c3) ∧ W'.cell? ⟨w.heap.size, 5, none⟩ = some (.bool hd) ∧ W'.cell? ⟨w2.heap.size, 0, none⟩ = some (.int .i64 s1) ∧ W'.cell? ⟨w2.heap.size, 1, none⟩ = some (.int .i64 s2) ∧ W'.cell? ⟨w2.heap.size, 2, none⟩ = some (.int .i64 s3) ∧ W'.cell? ⟨w2.heap.size, 3, none⟩ = some (.int .i64 s4) ∧ W'.cell? ⟨w2.heap.size, 4, none⟩ = some (.slice (some ⟨lb, lo, none⟩) 1 1) ∧ W'.cell? ⟨lb, lo, none⟩ = some (.int .i64 a)) (go_keep)
      (first | (go_at_call 101; (with_reducible refine cw.mono ?_); rintro e w5 ⟨A5, c5, rfl, hb5, hp5⟩; obtain ⟨x1, x2⟩ := HX.out w5 hb5; obtain ⟨⟨q0, q1, q2, q3, q4, q5⟩, ⟨r0, r1, r2, r3, r4, r5⟩, rf, _, kl5, hbw5, _⟩ := BX.out w5 x1; obtain ⟨k50, k51, k52, k53, k45⟩ := HK.out w5 x2; have rf0 := rf 0; have rf1 := rf 1; have rf2 := rf 2; have rf3 := rf 3; have rf4 := rf 4; have rf5 := rf 5; have HP := hidb (HFIN.out w5 A5 c5 hbw5 hp5); clear rf hb5 hp5 x1 x2 hbw5))
    obtain ⟨t0, t1, t2, t3, t4, t5⟩ := six_cells (.int .i64 pg) (.slice A n c) (.slice A2 n2 c2) (.int .i64 la) (.slice A5 n3 c5) (.bool hd) r0 r1 r2 r3 r4 r5
    go_wp2
    refine bodyPost_ret (v := .tuple #[.agg #[.int .i64 pg, .slice A n c, .slice A2 n2 c2, .int .i64 la, .slice A5 n3 c5, .bool hd], .int .i64 a, .int .i64 0]) (by simp [results, Tryz.results50, go_sem, t0, t1, t2, t3, t4, t5]) rfl ?_
    exact HP.out

end Go.Proofs.YtcgfmpegakpddaaGreat
