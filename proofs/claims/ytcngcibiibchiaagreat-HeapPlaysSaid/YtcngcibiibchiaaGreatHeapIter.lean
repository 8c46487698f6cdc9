/- maps.Values of a map of spans: its iterator, for every loop body. -/
import Derived.Test.YtcngcibiibchiaaGreatHeapMade
import Derived.Shelf.AbstractIn
import Derived.RangeFuncMany
import Derived.RangeFuncLeaves
import Derived.RangeFuncNested
import Derived.Sort.MapsRangeIn
import Derived.WalkKit
import Derived.OwnWalkIn
import Derived.TacticsInMore
import Derived.RegionIn
import Derived.LoopNIn
import Derived.LoopIn
import Derived.Shelf.Abstract
namespace Go.Proofs.YtcngcibiibchiaaGreat
open Go.RowKit Go.Maps Go.Shelf
set_option linter.unusedVariables false

/-- Which spans have come, of a map's, where some are left. -/
structure Came (l : List (Int × Int × Int × Int)) (left : Lit → Bool) (ss : List (Int × Int × Int × Int)) : Prop where
  nodup : (ss.map (·.1)).Nodup
  mem : ∀ s, s ∈ ss ↔ s ∈ l ∧ left (.int .i64 s.1) = false
/-- All have come. -/
def AllOf (l ss : List (Int × Int × Int × Int)) : Prop := (ss.map (·.1)).Nodup ∧ ∀ s, s ∈ ss ↔ s ∈ l
theorem Came.start {D : DataW Unit} {l : List (Int × Int × Int × Int)} (h : MIs D l) : Came l (Maps.has D) [] := by
  refine ⟨List.nodup_nil, fun s => ⟨fun hs => (by cases hs), fun ⟨hs, hn⟩ => ?_⟩⟩
  rw [h.has, (MIs.any_iff s.1).2 ⟨s, hs, rfl⟩] at hn
  cases hn
theorem Came.step {D : DataW Unit} {l ss : List (Int × Int × Int × Int)} {left : Lit → Bool} (h : Came l left ss) (hm : MIs D l) (hd : (l.map (·.1)).Nodup) {x : Int} {c : Int × Int × Int × Int} (hx : left (.int .i64 x) = true) (hat : ∀ zd, D.atKey (.int .i64 x) zd = encS c) :
    Came l (fun z => left z && !z.sameKey (.int .i64 x)) (ss ++ [c]) ∧ x = c.1 ∧ c ∈ l := by
  have hhas := Maps.has_true_of_atKey hat
  rw [hm.has] at hhas
  obtain ⟨t, ht, rfl⟩ := (MIs.any_iff x).1 hhas
  have e := (hm.at_ t ht (encS spanNone)).symm.trans (hat _)
  obtain rfl := encS_inj e
  refine ⟨⟨?_, fun s => ?_⟩, rfl, ht⟩
  · rw [List.map_append]
    refine List.nodup_append.2 ⟨h.nodup, by simp, fun a ha b hb e => ?_⟩
    obtain rfl : b = t.1 := by simpa using hb
    subst e
    obtain ⟨s, hs, e2⟩ := List.mem_map.1 ha
    have := ((h.mem s).1 hs).2
    rw [e2, hx] at this; cases this
  · rw [List.mem_append, h.mem, List.mem_singleton]
    by_cases c : s.1 = t.1
    · constructor
      · rintro (⟨h1, h2⟩ | rfl)
        · exact ⟨h1, by rw [h2]; rfl⟩
        · exact ⟨ht, by rw [WideAt.sameKey_self (show WideAt.IsKeyLit (.int .i64 s.1) by trivial)]; simp⟩
      · rintro ⟨h1, _⟩
        exact Or.inr (ids_inj hd h1 ht c)
    · have hk : Lit.sameKey (.int .i64 s.1) (.int .i64 t.1) = false := Maps.sameKey_ne (lit_ne c)
      constructor
      · rintro (⟨h1, h2⟩ | rfl)
        · exact ⟨h1, by rw [h2]; rfl⟩
        · exact absurd rfl c
      · rintro ⟨h1, h2⟩
        rw [hk] at h2
        exact Or.inl ⟨h1, by simpa using h2⟩
theorem Came.end_ {l ss : List (Int × Int × Int × Int)} {left : Lit → Bool} (h : Came l left ss) (hl : ∀ k, left k = false) : AllOf l ss := ⟨h.nodup, fun s => by rw [h.mem, hl]; simp⟩

abbrev encV (s : Int × Int × Int × Int) : Array Value := #[.agg #[.int .i64 s.1, .int .i64 s.2.1, .int .i64 s.2.2.1, .int .i64 s.2.2.2]]
set_option maxRecDepth 100000 in
set_option maxHeartbeats 1000000 in
theorem values1_in (F : Fence) (n : Nat) (h8 : F.fn 61) (hro : F.round = none) (hn : 1 ≤ n) (l0 Bm b nn : Nat) (D0 : DataW Unit) (l : List (Int × Int × Int × Int)) (hmis : MIs D0 l) (hd : (l.map (·.1)).Nodup) (J Jx : List (Int × Int × Int × Int) → World → Prop)
    (hY : ∀ pre x W, J pre W → pre.length < Maps.size D0 → YieldAt F (n - 1) Tryz.prog l0 (encV x) W fun e W' =>
      (e = .returned (.bool true) ∧ J (pre ++ [x]) W' ∧ KeepsWalks W W') ∨ (e = .returned (.bool false) ∧ Jx (pre ++ [x]) W'))
    (W : World) (hJ : AbidesFrom W.heap.size J) (hm : W.cell? ⟨Bm, 0, none⟩ = some (.map (some b))) (hown : W.ownsMap Tryz.prog 3 spanR b nn D0) (h0 : J [] W) :
    CallsIn F n Tryz.prog 61 #[.func (.yield l0) #[] #[], .pointer (some ⟨Bm, 0, none⟩)] W fun e W' => (∃ v, e = .returned v) ∧
      ((∃ ss, AllOf l ss ∧ J ss W') ∨ (∃ pre, True ∧ Jx pre W')) := by
  refine callsIn_of_wp Tryz.func61 rfl h8 ?_ hro
  simp only [Tryz.ntmps61, List.size_toArray, List.length_cons, List.length_nil, Nat.reduceAdd, Nat.reduceSub, Array.replicate_succ, Array.replicate_zero, List.push_toArray, List.append_toArray, List.nil_append, List.cons_append]
  gi_wp2_with (first
    | (gi_at_range; refine wpListIn_range_own _ rfl _ 63 rfl 3 43 keyed Tryz.underlying63 _ b nn _ rfl hown ?_; intro w0 hrg0 hg0 hs0)
    | gi_in)
  go_frame
  gi_loopw [4] (fun _ wr => ∃ (left : Lit → Bool) (cnt : Nat) (ss : List (Int × Int × Int × Int)), wr.ranges Tryz.prog 3 spanR b W.heap.size nn D0 left cnt ∧ ss.length + cnt ≤ Maps.size D0 ∧ Came l left ss ∧ J ss wr)
    (fun _ wr => wr.rangeLeft b W.heap.size)
  case atStart =>
    exact ⟨_, _, [], hrg0, by simp, Came.start hmis, hJ [] W w0 none h0 hg0 (fun r e => by cases e)⟩
  case round =>
    obtain ⟨left, cnt, ss, hrg, hcs, hC, hJs⟩ := hrel
    gi_wp2_with (first
      | (gi_at_next; refine wpListIn_next_ranges _ rfl _ rfl 3 keyed spanR (Value.int .i64) spv (fun key kl hk => by obtain ⟨x, hx, _⟩ := Maps.keyOf_int_inv Tryz.underlying3 hk; exact ⟨x, hx⟩) (fun v y hv => by obtain ⟨s, hs, _⟩ := spanR_inv hv; exact ⟨s, hs⟩) b W.heap.size nn _ _ _ rfl hrg ?_ ?_)
      | gi_in)
    · intro hc0 hl0
      gi_wp2
      go_end0
      exact ⟨⟨_, rfl⟩, .inl ⟨ss, hC.end_ hl0, hJs⟩⟩
    · intro x s1 s2 s3 s4 kl yd yp w2 cnt2 hkey hlk hv hat hrg2 hlt hg2 hs2 hen
      obtain ⟨x', ex, rfl, hwx⟩ := Maps.keyOf_int_inv Tryz.underlying3 hkey
      cases ex
      rw [spanR_mk] at hv
      obtain ⟨rfl, rfl⟩ := Prod.mk.inj (Option.some.inj hv)
      have hJ2 : J ss w2 := hJ ss wr w2 (some W.heap.size) hJs hg2 (fun r e => by cases e; exact ⟨Nat.le_refl _, hrg.iter_walk⟩)
      have hJ3 : J ss (w2.alloc (.cells #[.int .i64 s1, .int .i64 s2, .int .i64 s3, .int .i64 s4] 43)) := hJ ss w2 _ none hJ2 (World.grownBy_alloc _ _ _) (fun r e => by cases e)
      obtain ⟨hC2, _, _⟩ := hC.step hmis hd hlk hat
      obtain ⟨fn, tmps, assign, body, hy, hR⟩ := hY ss (s1, s2, s3, s4) _ hJ3 (by omega)
      dsimp only [encV] at hy
      simp only [spv] at hen ⊢
      have hrgA := hrg2.alloc (.cells #[.int .i64 s1, .int .i64 s2, .int .i64 s3, .int .i64 s4] 43)
      clear hs2
      gi_wp2
      refine hR.mono ?_
      rintro e W3 (⟨rfl, hJ3, hk3⟩ | ⟨rfl, hJx3⟩)
      · gi_wp2
        have hrg3 := hrgA.of_walks hk3
        go_roundw
        case rel => exact ⟨_, cnt2, ss ++ [(s1, s2, s3, s4)], hrg3, by simp; omega, hC2, hJ3⟩
        case measure => rw [hrg3.left_eq, hrg.left_eq]; exact hlt
      · gi_wp2
        refine bodyPost_ret (results_none rfl _ _ _) rfl ?_
        exact ⟨⟨_, rfl⟩, .inr ⟨ss ++ [(s1, s2, s3, s4)], trivial, hJx3⟩⟩
/-- The iterator's value. -/
theorem values_stops (F : Fence) (n : Nat) (h8 : F.fn 61) (hro : F.round = none) (hn : 1 ≤ n) (Bm b nn : Nat) (D0 : DataW Unit) (l : List (Int × Int × Int × Int)) (hmis : MIs D0 l) (hd : (l.map (·.1)).Nodup) (w : World) (hBm : Bm < w.heap.size)
    (hm : w.cell? ⟨Bm, 0, none⟩ = some (.map (some b))) (hown : w.ownsMap Tryz.prog 3 spanR b nn D0) :
    SeqStopsK F n Tryz.prog 61 #[.pointer (some ⟨Bm, 0, none⟩)] encV KeepsWalks (AllOf l) (fun _ => True) (Maps.size D0) w := fun l0 J Jx W hW hJ _ hY h0 =>
  values1_in F n h8 hro hn l0 Bm b nn D0 l hmis hd J Jx hY W hJ ((hW.cell (p := ⟨Bm, 0, none⟩) hBm).trans hm) (ownsMap_block hown (hW.block b hown.lt)) h0

end Go.Proofs.YtcngcibiibchiaaGreat
