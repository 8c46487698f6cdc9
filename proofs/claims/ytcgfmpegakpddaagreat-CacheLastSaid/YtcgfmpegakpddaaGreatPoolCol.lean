/- The iterator over a map of cut spans, and what is collected of it; several texts in one. -/
import Derived.Test.YtcgfmpegakpddaaGreatPoolObj0
import Derived.Test.YtcgfmpegakpddaaGreatHeapRows
/- maps.Values of a map of spans: its iterator, for every loop body. -/
namespace Go.Proofs.YtcgfmpegakpddaaGreat
open Go.RowKit Go.Maps Go.Shelf
set_option linter.unusedVariables false

theorem kids_inj : ∀ {l : List CutV} {a b : CutV}, (l.map (·.s.1)).Nodup → a ∈ l → b ∈ l → a.s.1 = b.s.1 → a = b
  | [], _, _, _, h, _, _ => by cases h
  | x :: l, a, b, hd, ha, hb, e => by
    rw [List.map_cons, List.nodup_cons] at hd
    rcases List.mem_cons.1 ha with ea | ha2
    · rcases List.mem_cons.1 hb with eb | hb2
      · rw [ea, eb]
      · exact absurd (show x.s.1 ∈ l.map (·.s.1) from List.mem_map.2 ⟨b, hb2, by rw [← e, ea]⟩) hd.1
    · rcases List.mem_cons.1 hb with eb | hb2
      · exact absurd (show x.s.1 ∈ l.map (·.s.1) from List.mem_map.2 ⟨a, ha2, by rw [e, eb]⟩) hd.1
      · exact kids_inj hd.2 ha2 hb2 e
/-- Which spans have come, of a map's, where some are left. -/
structure CameP (l : List CutV) (left : Lit → Bool) (ss : List CutV) : Prop where
  nodup : (ss.map (·.s.1)).Nodup
  mem : ∀ s, s ∈ ss ↔ s ∈ l ∧ left (.int .i64 s.s.1) = false
/-- All have come. -/
def AllP (l ss : List CutV) : Prop := (ss.map (·.s.1)).Nodup ∧ ∀ s, s ∈ ss ↔ s ∈ l
theorem CameP.start {D : DataW Unit} {l : List CutV} (h : PIs D l) : CameP l (Maps.has D) [] := by
  refine ⟨List.nodup_nil, fun s => ⟨fun hs => (by cases hs), fun ⟨hs, hn⟩ => ?_⟩⟩
  rw [h.has, (PIs.any_iff s.s.1).2 ⟨s, hs, rfl⟩] at hn
  cases hn
theorem CameP.step {D : DataW Unit} {l ss : List CutV} {left : Lit → Bool} (h : CameP l left ss) (hm : PIs D l) (hd : (l.map (·.s.1)).Nodup) {x : Int} {o : Option Nat} (hx : left (.int .i64 x) = true) (hat : ∀ zd, D.atKey (.int .i64 x) zd = encP o) :
    ∃ t, o = some t.b ∧ CameP l (fun z => left z && !z.sameKey (.int .i64 x)) (ss ++ [t]) ∧ x = t.s.1 ∧ t ∈ l := by
  have hhas := Maps.has_true_of_atKey hat
  rw [hm.has] at hhas
  obtain ⟨t, ht, rfl⟩ := (PIs.any_iff x).1 hhas
  have e := (hm.at_ t ht (encP none)).symm.trans (hat _)
  obtain rfl := encP_inj e
  refine ⟨t, rfl, ⟨?_, fun s => ?_⟩, rfl, ht⟩
  · rw [List.map_append]
    refine List.nodup_append.2 ⟨h.nodup, by simp, fun a ha b hb e => ?_⟩
    obtain rfl : b = t.s.1 := by simpa using hb
    subst e
    obtain ⟨s, hs, e2⟩ := List.mem_map.1 ha
    have := ((h.mem s).1 hs).2
    rw [e2, hx] at this; cases this
  · rw [List.mem_append, h.mem, List.mem_singleton]
    by_cases c : s.s.1 = t.s.1
    · constructor
      · rintro (⟨h1, h2⟩ | rfl)
        · exact ⟨h1, by rw [h2]; rfl⟩
        · exact ⟨ht, by rw [WideAt.sameKey_self (show WideAt.IsKeyLit (.int .i64 s.s.1) by trivial)]; simp⟩
      · rintro ⟨h1, _⟩
        exact Or.inr (kids_inj hd h1 ht c)
    · have hk : Lit.sameKey (.int .i64 s.s.1) (.int .i64 t.s.1) = false := Maps.sameKey_ne (lit_ne c)
      constructor
      · rintro (⟨h1, h2⟩ | rfl)
        · exact ⟨h1, by rw [h2]; rfl⟩
        · exact absurd rfl c
      · rintro ⟨h1, h2⟩
        rw [hk] at h2
        exact Or.inl ⟨h1, by simpa using h2⟩
theorem CameP.end_ {l ss : List CutV} {left : Lit → Bool} (h : CameP l left ss) (hl : ∀ k, left k = false) : AllP l ss := ⟨h.nodup, fun s => by rw [h.mem, hl]; simp⟩

abbrev encK (k : CutV) : Array Value := #[.pointer (some ⟨k.b, 0, none⟩)]
set_option maxRecDepth 100000 in
set_option maxHeartbeats 1000000 in
theorem pvalues1_in (F : Fence) (n : Nat) (h8 : F.fn 153) (hro : F.round = none) (hn : 1 ≤ n) (l0 Bm b nn : Nat) (D0 : DataW Unit) (l : List CutV) (hmis : PIs D0 l) (hd : (l.map (·.s.1)).Nodup) (J Jx : List CutV → World → Prop)
    (hY : ∀ pre x W, J pre W → pre.length < Maps.size D0 → YieldAt F (n - 1) Tryz.prog l0 (encK x) W fun e W' =>
      (e = .returned (.bool true) ∧ J (pre ++ [x]) W' ∧ KeepsWalks W W') ∨ (e = .returned (.bool false) ∧ Jx (pre ++ [x]) W'))
    (W : World) (hJ : AbidesFrom W.heap.size J) (hm : W.cell? ⟨Bm, 0, none⟩ = some (.map (some b))) (hown : W.ownsMap Tryz.prog 3 ptrR b nn D0) (h0 : J [] W) :
    CallsIn F n Tryz.prog 153 #[.func (.yield l0) #[] #[], .pointer (some ⟨Bm, 0, none⟩)] W fun e W' => (∃ v, e = .returned v) ∧
      ((∃ ss, AllP l ss ∧ J ss W') ∨ (∃ pre, True ∧ Jx pre W')) := by
  refine callsIn_of_wp Tryz.func153 rfl h8 ?_ hro
  simp only [Tryz.ntmps153, List.size_toArray, List.length_cons, List.length_nil, Nat.reduceAdd, Nat.reduceSub, Array.replicate_succ, Array.replicate_zero, List.push_toArray, List.append_toArray, List.nil_append, List.cons_append]
  gi_wp2_with (first
    | (gi_at_range; refine wpListIn_range_own _ rfl _ 117 rfl 3 109 keyed Tryz.underlying117 _ b nn _ rfl hown ?_; intro w0 hrg0 hg0 hs0)
    | gi_in)
  go_frame
  gi_loopw [4] (fun _ wr => ∃ (left : Lit → Bool) (cnt : Nat) (ss : List CutV), wr.ranges Tryz.prog 3 ptrR b W.heap.size nn D0 left cnt ∧ ss.length + cnt ≤ Maps.size D0 ∧ CameP l left ss ∧ J ss wr)
    (fun _ wr => wr.rangeLeft b W.heap.size)
  case atStart =>
    exact ⟨_, _, [], hrg0, by simp, CameP.start hmis, hJ [] W w0 none h0 hg0 (fun r e => by cases e)⟩
  case round =>
    obtain ⟨left, cnt, ss, hrg, hcs, hC, hJs⟩ := hrel
    gi_wp2_with (first
      | (gi_at_next; refine wpListIn_next_ranges _ rfl _ rfl 3 keyed ptrR (Value.int .i64) ptrv (fun key kl hk => by obtain ⟨x, hx, _⟩ := Maps.keyOf_int_inv Tryz.underlying3 hk; exact ⟨x, hx⟩) (fun v y hv => by obtain ⟨s, hs, _⟩ := ptrR_inv hv; exact ⟨s, hs⟩) b W.heap.size nn _ _ _ rfl hrg ?_ ?_)
      | gi_in)
    · intro hc0 hl0
      gi_wp2
      go_end0
      exact ⟨⟨_, rfl⟩, .inl ⟨ss, hC.end_ hl0, hJs⟩⟩
    · intro x o kl yd yp w2 cnt2 hkey hlk hv hat hrg2 hlt hg2 hs2 hen
      obtain ⟨x', ex, rfl, hwx⟩ := Maps.keyOf_int_inv Tryz.underlying3 hkey
      cases ex
      rw [ptrR_mk] at hv
      obtain ⟨rfl, rfl⟩ := Prod.mk.inj (Option.some.inj hv)
      have hJ2 : J ss w2 := hJ ss wr w2 (some W.heap.size) hJs hg2 (fun r e => by cases e; exact ⟨Nat.le_refl _, hrg.iter_walk⟩)
      obtain ⟨t, rfl, hC2, _, _⟩ := hC.step hmis hd hlk hat
      obtain ⟨fn, tmps, assign, body, hy, hR⟩ := hY ss t _ hJ2 (by omega)
      dsimp only [encK] at hy
      simp only [ptrv, Option.map_some] at hen ⊢
      clear hs2
      gi_wp2
      refine hR.mono ?_
      rintro e W3 (⟨rfl, hJ3, hk3⟩ | ⟨rfl, hJx3⟩)
      · gi_wp2
        have hrg3 := hrg2.of_walks hk3
        go_roundw
        case rel => exact ⟨_, cnt2, ss ++ [t], hrg3, by simp; omega, hC2, hJ3⟩
        case measure => rw [hrg3.left_eq, hrg.left_eq]; exact hlt
      · gi_wp2
        refine bodyPost_ret (results_none rfl _ _ _) rfl ?_
        exact ⟨⟨_, rfl⟩, .inr ⟨ss ++ [t], trivial, hJx3⟩⟩
/-- The iterator's value. -/
theorem pvalues_stops (F : Fence) (n : Nat) (h8 : F.fn 153) (hro : F.round = none) (hn : 1 ≤ n) (Bm b nn : Nat) (D0 : DataW Unit) (l : List CutV) (hmis : PIs D0 l) (hd : (l.map (·.s.1)).Nodup) (w : World) (hBm : Bm < w.heap.size)
    (hm : w.cell? ⟨Bm, 0, none⟩ = some (.map (some b))) (hown : w.ownsMap Tryz.prog 3 ptrR b nn D0) :
    SeqStopsK F n Tryz.prog 153 #[.pointer (some ⟨Bm, 0, none⟩)] encK KeepsWalks (AllP l) (fun _ => True) (Maps.size D0) w := fun l0 J Jx W hW hJ _ hY h0 =>
  pvalues1_in F n h8 hro hn l0 Bm b nn D0 l hmis hd J Jx hY W hJ ((hW.cell (p := ⟨Bm, 0, none⟩) hBm).trans hm) (ownsMap_block hown (hW.block b hown.lt)) h0

end Go.Proofs.YtcgfmpegakpddaaGreat

/- slices.AppendSeq and slices.Collect of an iterator over spans. -/
namespace Go.Proofs.YtcgfmpegakpddaaGreat
open Go.RowKit Go.Maps Go.Shelf
set_option linter.unusedVariables false
attribute [local go_sem] Oper.semAt_some

def pcell (k : CutV) : List Value := [.pointer (some ⟨k.b, 0, none⟩)]
theorem pcell_len (k : CutV) : (pcell k).length = 1 := rfl
theorem pcell_one (y : CutV) : ∀ u ∈ pcell y, u.oneCell' = true := fun u hu => by
  simp only [pcell, List.mem_cons, List.not_mem_nil, or_false] at hu
  subst hu; rfl
theorem info_ptr : (Tryz.prog.info? 109).map (fun i => (i.zero, i.size, i.bytes)) = some (some (.pointer none), 1, 8) := by kernel_rfl
/-- What AppendSeq's own variable has, between two rounds. -/
def ApIP (w : World) (pre : List CutV) (W : World) : Prop :=
  (∃ v, Boxed W w.heap.size 107 v ∧ W.ownsRow w.heap.size 109 1 v pre.length (cellsAll pcell pre) ∧ True) ∧ Below w.heap.size w W
def ApAxP (f : CutV → Act) (x : CutV) (a : Act) (_ : World) : Prop := a = f x

set_option maxRecDepth 100000 in
set_option maxHeartbeats 2000000 in
theorem pappendSeq_in (F : Fence) (n : Nat) (h11 : F.fn 192) (hro : F.round = none) (hn : 3 ≤ n) (g : Nat) (lb : Array Value) (hFg : F.fn g) (eg : ∀ args w, (callFunc g args).run Tryz.prog w = .ok (.enter g args) w)
    (S : List CutV → Prop) (N : Nat) (hN : N ≤ 1000000000) (w : World) (hseq : SeqStopsK F (n - 1) Tryz.prog g lb encK KeepsWalks S (fun _ => True) N w) :
    CallsIn F n Tryz.prog 192 #[.slice none 0 0, .func (.func g) #[] lb] w fun e w' => ∃ (v : Value) (ss : List CutV), e = .returned v ∧ S ss ∧ w'.ownsRow w.heap.size 109 1 v ss.length (cellsAll pcell ss) ∧ Below w.heap.size w w' := by
  have h1 : 1 ≤ n := by omega
  obtain ⟨i0, hi, hz0, hz1, hz2⟩ := info_parts info_ptr
  refine callsIn_of_wp_marks Tryz.func192 rfl h11 ?_ hro
  simp only [Tryz.ntmps192, List.size_toArray, List.length_cons, List.length_nil, Nat.reduceAdd, Nat.reduceSub, Array.replicate_succ, Array.replicate_zero, List.push_toArray, List.append_toArray, List.nil_append, List.cons_append]
  gi_wp2
  have hb0 : Below w.heap.size w (w.alloc (.cells #[.slice none 0 0] 107)) := (Below.refl _ _).alloc (Nat.le_refl _) _
  refine wpIn_rangeFunc_ownH hro h1 (gf := g) (lb := lb) rfl hFg eg hseq walksK_t walksK_b hb0 (fun _ => rfl) (ApIP w) (fun _ _ _ => False)
    (OwnFrom.and (Own.from (holdsRow_own w.heap.size w.heap.size 107 109 1 (fun pre => pre.length) (fun pre => cellsAll pcell pre) (fun _ _ => True)) _) (ownFrom_below (Nat.le_refl _) (by simp)))
    (fun _ _ _ _ _ hs _ _ => hs)
    ⟨⟨_, Boxed.new w _ _, World.ownsRow_nil _ _ _ _, trivial⟩, hb0⟩
    (ApAxP (fun x => { tmps := #[.slice none 0 0, .func (.func g) #[] lb, .pointer (some ⟨w.heap.size, 0, none⟩), undef, .slice none 0 0, .pointer (some ⟨x.b, 0, none⟩), .func (.func g) #[] lb, .pointer (some ⟨x.b, 0, none⟩), undef, undef, undef, undef, undef], defers := [] }))
    (fun x a' => fun _ X Y row h hg hr => h) ?assign ?body ?done ?stop
  case assign =>
    rintro l pre x W K ⟨⟨v, hv, hrow, _⟩, hB⟩ hK
    have hlt := hv.lt
    gi_wp2
    exact hK _ _ ((KeepsOthers.refl _).from _) (KeepsWalks.refl _) ⟨⟨v, hv, hrow, trivial⟩, hB⟩ rfl
  case body =>
    rintro l pre x a' W hl ⟨r, hr⟩ ⟨⟨v, hv, hrow, _⟩, hB⟩ rfl hlen
    have hc := hv.cell
    have hsz := hB.size
    gi_wp2_with (first
      | (gi_at_builtin; refine wpListIn_append_own _ rfl _ _ 107 rfl w.heap.size 109 i0 (.pointer none) 1 8 Tryz.underlying107 hi hz0 hz1 hz2 rfl (by decide) _ _ _ rfl (hrow.alloc _) ⟨W.heap.size, 0, none⟩ 1 1 (pcell x) rfl rfl (cells_new W (pcell x) _ _ rfl) (pcell_one _) (by unfold maxLen; omega) (by omega) (by simp; omega) ?_; intro v' w1 hown' hgrow _; obtain ⟨g', cap', rfl⟩ := ownsRow_succ hown'; obtain ⟨hv1, hv2, hr2, hk2, hb2⟩ := hv.appended (by decide) hrow hsz (Nat.le_refl _) hown' hgrow; have hc1 := hv1.cell; have hf1 := hv1.frozen)
      | gi_in)
    refine ⟨hk2.from _, hk2.walks, ⟨⟨_, hv2, ?_, trivial⟩, hB.trans hb2⟩⟩
    rw [List.length_append, cellsAll_append, cellsAll_one]
    exact hr2
  case done =>
    rintro D ys W hD hS ⟨⟨v, hv, hrow, _⟩, hB⟩ hK
    have hc := hv.cell
    gi_wp2
    refine ⟨by simp, .inl ⟨_, _, rfl, run_takeDeferred hK, ?_⟩⟩
    refine ⟨_, results_tmp rfl _ _ _, v, ys, rfl, hS, ownsRow_putObj hrow _ hK rfl, hB.trans (belowK_b (w := w) (Nat.le_refl _) W D _ _ (by simp at hD; omega) hK rfl rfl)⟩
  case stop =>
    rintro D c pre W _ _ h _
    exact h.elim

set_option maxHeartbeats 1000000 in
theorem pcollect_in (F : Fence) (n : Nat) (h8 : F.fn 151) (h11 : F.fn 192) (hro : F.round = none) (hn : 4 ≤ n) (g : Nat) (lb : Array Value) (hFg : F.fn g) (eg : ∀ args w, (callFunc g args).run Tryz.prog w = .ok (.enter g args) w)
    (S : List CutV → Prop) (N : Nat) (hN : N ≤ 1000000000) (w : World) (hseq : SeqStopsK F (n - 1 - 1) Tryz.prog g lb encK KeepsWalks S (fun _ => True) N w) :
    CallsIn F n Tryz.prog 151 #[.func (.func g) #[] lb] w fun e w' => ∃ (v : Value) (ss : List CutV), e = .returned v ∧ S ss ∧ w'.ownsRow w.heap.size 109 1 v ss.length (cellsAll pcell ss) ∧ Below w.heap.size w w' := by
  have h1 : 1 ≤ n := by omega
  refine callsIn_of_wp Tryz.func151 rfl h8 ?_ hro
  simp only [Tryz.ntmps151, List.size_toArray, List.length_cons, List.length_nil, Nat.reduceAdd, Nat.reduceSub, Array.replicate_succ, Array.replicate_zero, List.push_toArray, List.append_toArray, List.nil_append, List.cons_append]
  gi_wp2_with (gi_at_call 192; refine (pappendSeq_in F (n - 1) h11 hro (by omega) g lb hFg eg S N hN _ hseq).mono ?_; rintro e w' ⟨v, ss, rfl, hS, hrow, hb⟩)
  go_ret
  exact ⟨v, ss, rfl, hS, hrow, hb⟩
/-- slices.Collect of maps.Values of a map of spans. -/
theorem code_pcollect (Bm b nn : Nat) (D0 : DataW Unit) (l : List CutV) (hmis : PIs D0 l) (hd : (l.map (·.s.1)).Nodup) (hnn : nn ≤ 1000000000) (w : World)
    (hm : w.cell? ⟨Bm, 0, none⟩ = some (.map (some b))) (hown : w.ownsMap Tryz.prog 3 ptrR b nn D0) :
    Calls Tryz.prog 151 #[.func (.func 153) #[] #[.pointer (some ⟨Bm, 0, none⟩)]] w fun e w' => ∃ A c ss, e = .returned (.slice A (List.length ss) c) ∧ AllP l ss ∧ w'.ownsRow w.heap.size 109 1 (.slice A ss.length c) ss.length (cellsAll pcell ss) ∧ Below w.heap.size w w' := by
  have hsz := hown.size_le
  refine ((callsIn_wide (n := 6)).1 (pcollect_in Fence.wide 6 trivial trivial rfl (by omega) _ _ trivial (enters_of Tryz.func153 (by kernel_rfl) rfl) (AllP l) (Maps.size D0) (by omega) w
    (pvalues_stops Fence.wide _ trivial rfl (by omega) Bm b nn D0 l hmis hd w (lt_of_cell hm) hm hown))).mono ?_
  rintro e w' ⟨v, ss, rfl, hS, hrow, hb⟩
  rcases hrow.2 with ⟨rfl, h0⟩ | ⟨g, cap, cur, rfl, rest⟩
  · exact ⟨none, 0, ss, by rw [h0], hS, by rw [h0] at hrow ⊢; exact hrow, hb⟩
  · exact ⟨_, _, ss, rfl, hS, hrow, hb⟩

end Go.Proofs.YtcgfmpegakpddaaGreat

