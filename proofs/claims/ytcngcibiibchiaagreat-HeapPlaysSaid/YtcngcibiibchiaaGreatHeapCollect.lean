/- slices.AppendSeq and slices.Collect of an iterator over spans. -/
import Derived.Test.YtcngcibiibchiaaGreatHeapIter
import Derived.Test.YtcngcibiibchiaaGreatHeapSort
import Derived.RangeFuncBox
import Derived.RangeFuncCalls
import Derived.Maps.AppendAt
import Derived.Shelf.RegionOpen
namespace Go.Proofs.YtcngcibiibchiaaGreat
open Go.RowKit Go.Maps Go.Shelf
set_option linter.unusedVariables false
attribute [local go_sem] Oper.semAt_some

/-- A loop variable's box: a span. -/
def Box4 (W : World) (B : Nat) (s : Int × Int × Int × Int) : Prop := W.heap[B]? = some (.cells #[.int .i64 s.1, .int .i64 s.2.1, .int .i64 s.2.2.1, .int .i64 s.2.2.2] 43 (0, 0))
theorem box4_own (B : Nat) : Own (fun s W => Box4 W B s) := fun s X Y row hs hg hrow => by
  refine (hg.block B (Array.getElem?_eq_some_iff.1 hs).1 (fun e => ?_)).trans hs
  obtain ⟨o, ho, hc⟩ := hrow B e.symm
  rw [show X.heap[B]? = _ from hs] at ho
  cases ho; cases hc
theorem scells_oneS (y : Int × Int × Int × Int) : ∀ u ∈ scells y, u.oneCell' = true := fun u hu => by
  simp only [scells, List.mem_cons, List.not_mem_nil, or_false] at hu
  rcases hu with rfl | rfl | rfl | rfl <;> rfl
/-- What AppendSeq's own variable has, between two rounds. -/
def ApI (w : World) (pre : List (Int × Int × Int × Int)) (W : World) : Prop :=
  (∃ v, Boxed W w.heap.size 29 v ∧ W.ownsRow w.heap.size 43 4 v pre.length (cellsAll scells pre) ∧ True) ∧ Below w.heap.size w W
def ApAx (w : World) (f : Nat → (Int × Int × Int × Int) → Act) (x : Int × Int × Int × Int) (a : Act) (W : World) : Prop := ∃ Bx, w.heap.size < Bx ∧ Box4 W Bx x ∧ a = f Bx x

set_option maxRecDepth 100000 in
set_option maxHeartbeats 2000000 in
theorem appendSeq_in (F : Fence) (n : Nat) (h11 : F.fn 76) (hro : F.round = none) (hn : 3 ≤ n) (g : Nat) (lb : Array Value) (hFg : F.fn g) (eg : ∀ args w, (callFunc g args).run Tryz.prog w = .ok (.enter g args) w)
    (S : List (Int × Int × Int × Int) → Prop) (N : Nat) (hN : N ≤ 1000000000) (w : World) (hseq : SeqStopsK F (n - 1) Tryz.prog g lb encV KeepsWalks S (fun _ => True) N w) :
    CallsIn F n Tryz.prog 76 #[.slice none 0 0, .func (.func g) #[] lb] w fun e w' => ∃ (v : Value) (ss : List (Int × Int × Int × Int)), e = .returned v ∧ S ss ∧ w'.ownsRow w.heap.size 43 4 v ss.length (cellsAll scells ss) ∧ Below w.heap.size w w' := by
  have h1 : 1 ≤ n := by omega
  obtain ⟨i0, hi, hz0, hz1, hz2⟩ := info_parts info_span
  refine callsIn_of_wp_marks Tryz.func76 rfl h11 ?_ hro
  simp only [Tryz.ntmps76, List.size_toArray, List.length_cons, List.length_nil, Nat.reduceAdd, Nat.reduceSub, Array.replicate_succ, Array.replicate_zero, List.push_toArray, List.append_toArray, List.nil_append, List.cons_append]
  gi_wp2
  have hb0 : Below w.heap.size w (w.alloc (.cells #[.slice none 0 0] 29)) := (Below.refl _ _).alloc (Nat.le_refl _) _
  refine wpIn_rangeFunc_ownH hro h1 (gf := g) (lb := lb) rfl hFg eg hseq walksK_t walksK_b hb0 (fun _ => rfl) (ApI w) (fun _ _ _ => False)
    (OwnFrom.and (Own.from (holdsRow_own w.heap.size w.heap.size 29 43 4 (fun pre => pre.length) (fun pre => cellsAll scells pre) (fun _ _ => True)) _) (ownFrom_below (Nat.le_refl _) (by simp)))
    (fun _ _ _ _ _ hs _ _ => hs)
    ⟨⟨_, Boxed.new w _ _, World.ownsRow_nil _ _ _ _, trivial⟩, hb0⟩
    (ApAx w (fun Bx x => { tmps := #[.slice none 0 0, .func (.func g) #[] lb, .pointer (some ⟨w.heap.size, 0, none⟩), undef, .slice none 0 0, .pointer (some ⟨Bx, 0, none⟩), .func (.func g) #[] lb, .agg #[.int .i64 x.1, .int .i64 x.2.1, .int .i64 x.2.2.1, .int .i64 x.2.2.2], undef, undef, undef, undef, undef], defers := [] }))
    (fun x a' => fun _ X Y row ⟨Bx, h1, h2, h3⟩ hg hr => ⟨Bx, h1, box4_own Bx x X Y row h2 hg (fun r e => (hr r e).2), h3⟩) ?assign ?body ?done ?stop
  case assign =>
    rintro l pre ⟨s1, s2, s3, s4⟩ W K ⟨⟨v, hv, hrow, _⟩, hB⟩ hK
    have hlt := hv.lt
    gi_wp2
    refine hK _ _ ((KeepsOthers.alloc _ _).from _) (KeepsWalks.alloc _ _) ⟨⟨v, hv.alloc _, hrow.alloc _, trivial⟩, hB.alloc hB.size _⟩ ⟨W.heap.size, by omega, ?_, rfl⟩
    show (W.heap.push _)[W.heap.size]? = _
    simp
  case body =>
    rintro l pre ⟨s1, s2, s3, s4⟩ a' W hl ⟨r, hr⟩ ⟨⟨v, hv, hrow, _⟩, hB⟩ ⟨Bx, hlt, hbox, rfl⟩ hlen
    have hc := hv.cell
    obtain ⟨b0, b1, b2, b3, _⟩ := cells4 hbox
    have hsz := hB.size
    gi_wp2_with (first
      | (gi_at_builtin; refine wpListIn_append_own _ rfl _ _ 29 rfl w.heap.size 43 i0 (.agg #[.int .i64 0, .int .i64 0, .int .i64 0, .int .i64 0]) 4 32 Tryz.underlying29 hi hz0 hz1 hz2 rfl (by decide) _ _ _ rfl (hrow.alloc _) ⟨W.heap.size, 0, none⟩ 1 1 (scells (s1, s2, s3, s4)) rfl rfl (cells_new W (scells (s1, s2, s3, s4)) _ _ rfl) (scells_oneS _) (by unfold maxLen; omega) (by omega) (by simp; omega) ?_; intro v' w1 hown' hgrow _; obtain ⟨g', cap', rfl⟩ := ownsRow_succ hown'; obtain ⟨hv1, hv2, hr2, hk2, hb2⟩ := hv.appended (by decide) hrow hsz (Nat.le_refl _) hown' hgrow; have hc1 := hv1.cell; have hf1 := hv1.frozen)
      | gi_in)
    refine ⟨hk2.from _, hk2.walks, ⟨⟨_, hv2, ?_, trivial⟩, hB.trans hb2⟩⟩
    rw [List.length_append, cellsAll_append, cellsAll_one]
    exact hr2
  case done =>
    rintro D ys W hD hS ⟨⟨v, hv, hrow, _⟩, hB⟩ hK
    have hc := hv.cell
    gi_wp2
    refine ⟨by simp, .inl ⟨_, _, rfl, run_takeDeferred hK, ?_⟩⟩
    refine ⟨_, results_tmp rfl _ _ _, v, ys, rfl, hS, ownsRow_putObj hrow _ hK rfl, hB.trans (belowK_b (w := w) (Nat.le_refl _) W D _ _ (by simp at hD; omega) hK rfl rfl)⟩
  case stop =>
    rintro D c pre W _ _ h _
    exact h.elim

set_option maxHeartbeats 1000000 in
theorem collect_in (F : Fence) (n : Nat) (h8 : F.fn 59) (h11 : F.fn 76) (hro : F.round = none) (hn : 4 ≤ n) (g : Nat) (lb : Array Value) (hFg : F.fn g) (eg : ∀ args w, (callFunc g args).run Tryz.prog w = .ok (.enter g args) w)
    (S : List (Int × Int × Int × Int) → Prop) (N : Nat) (hN : N ≤ 1000000000) (w : World) (hseq : SeqStopsK F (n - 1 - 1) Tryz.prog g lb encV KeepsWalks S (fun _ => True) N w) :
    CallsIn F n Tryz.prog 59 #[.func (.func g) #[] lb] w fun e w' => ∃ (v : Value) (ss : List (Int × Int × Int × Int)), e = .returned v ∧ S ss ∧ w'.ownsRow w.heap.size 43 4 v ss.length (cellsAll scells ss) ∧ Below w.heap.size w w' := by
  have h1 : 1 ≤ n := by omega
  refine callsIn_of_wp Tryz.func59 rfl h8 ?_ hro
  simp only [Tryz.ntmps59, List.size_toArray, List.length_cons, List.length_nil, Nat.reduceAdd, Nat.reduceSub, Array.replicate_succ, Array.replicate_zero, List.push_toArray, List.append_toArray, List.nil_append, List.cons_append]
  gi_wp2_with (gi_at_call 76; refine (appendSeq_in F (n - 1) h11 hro (by omega) g lb hFg eg S N hN _ hseq).mono ?_; rintro e w' ⟨v, ss, rfl, hS, hrow, hb⟩)
  go_ret
  exact ⟨v, ss, rfl, hS, hrow, hb⟩
/-- slices.Collect of maps.Values of a map of spans. -/
theorem code_collect (Bm b nn : Nat) (D0 : DataW Unit) (l : List (Int × Int × Int × Int)) (hmis : MIs D0 l) (hd : (l.map (·.1)).Nodup) (hnn : nn ≤ 1000000000) (w : World)
    (hm : w.cell? ⟨Bm, 0, none⟩ = some (.map (some b))) (hown : w.ownsMap Tryz.prog 3 spanR b nn D0) :
    Calls Tryz.prog 59 #[.func (.func 61) #[] #[.pointer (some ⟨Bm, 0, none⟩)]] w fun e w' => ∃ A c ss, e = .returned (.slice A (List.length ss) c) ∧ AllOf l ss ∧ w'.ownsRow w.heap.size 43 4 (.slice A ss.length c) ss.length (cellsAll scells ss) ∧ Below w.heap.size w w' := by
  have hsz := hown.size_le
  refine ((callsIn_wide (n := 6)).1 (collect_in Fence.wide 6 trivial trivial rfl (by omega) _ _ trivial (enters_of Tryz.func61 (by kernel_rfl) rfl) (AllOf l) (Maps.size D0) (by omega) w
    (values_stops Fence.wide _ trivial rfl (by omega) Bm b nn D0 l hmis hd w (lt_of_cell hm) hm hown))).mono ?_
  rintro e w' ⟨v, ss, rfl, hS, hrow, hb⟩
  rcases hrow.2 with ⟨rfl, h0⟩ | ⟨g, cap, cur, rfl, rest⟩
  · exact ⟨none, 0, ss, by rw [h0], hS, by rw [h0] at hrow ⊢; exact hrow, hb⟩
  · exact ⟨_, _, ss, rfl, hS, hrow, hb⟩

end Go.Proofs.YtcngcibiibchiaaGreat
