/- What Free of layer 7 (heap) leans on: a map of numbers that were named, the closure that asks it, and maps.DeleteFunc at spans. -/
import Derived.Test.YtcngcibiibchiaaGreatHeapMade
import Derived.Lib.SlMapFilter
import Derived.WalkKit
import Derived.Deep.LoopGhost
import Derived.Laws.IdiomRangeMap
namespace Go.Proofs.YtcngcibiibchiaaGreat
open Go.RowKit Go.Maps
set_option linter.unusedVariables false

/-- Was a number named? -/
theorem named_run {w : World} {nb n : Nat} {D : DataW Unit} {J : List Int} (hown : w.ownsMap Tryz.prog 3 boolR nb n D) (hn : NIs D J) (i : Int) (hi : in64 i) :
    (Instr.lookup 70 (.map (some nb)) (.int .i64 i) false).run Tryz.prog w = .ok (.bool (J.contains i)) w := named_at hown hn i hi _ Tryz.underlying70

/-- The closure that Free hands to maps.DeleteFunc. -/
theorem code_hfree1 {w : World} {tb nb n : Nat} {D : DataW Unit} {J : List Int} (hc : w.cell? ⟨tb, 0, none⟩ = some (.map (some nb))) (hown : w.ownsMap Tryz.prog 3 boolR nb n D) (hn : NIs D J) (i : Int) (hi : in64 i) (s1 s2 s3 s4 : Int) :
    Calls Tryz.prog 31 #[.int .i64 i, .agg #[.int .i64 s1, .int .i64 s2, .int .i64 s3, .int .i64 s4], .pointer (some ⟨tb, 0, none⟩)] w fun e w' => e = .returned (.bool (J.contains i)) ∧ w.grownBy w' none := by
  have hrun := named_run (hown.alloc (.cells #[.int .i64 s1, .int .i64 s2, .int .i64 s3, .int .i64 s4] 43)) hn i hi
  obtain ⟨b, hb⟩ : ∃ b, J.contains i = b := ⟨_, rfl⟩
  rw [hb] at hrun ⊢
  have hc1 := alloc_old (.cells #[.int .i64 s1, .int .i64 s2, .int .i64 s3, .int .i64 s4] 43) hc
  clear hown hn hb hi hc
  go_enter Tryz.func31, Tryz.ntmps31
  go_wp2
  go_ret
  exact ⟨rfl, World.grownBy_alloc _ _ _⟩

/-- Which entries go: those whose numbers are named. -/
def pdJ (J : List Int) (k : Lit) (_ : DataW Unit) : Bool := match k with | .int _ x => J.contains x | _ => false
theorem MIs.drop {D : DataW Unit} {l : List (Int × Int × Int × Int)} (h : MIs D l) (hD : Maps.IsMap D) (J : List Int) : MIs (Lib.deleteFuncD (pdJ J) D) (hLeft l J) := by
  obtain ⟨es, rfl⟩ := hD
  have hk : ∀ (id : Int) (p : Lit × DataW Unit), J.contains id = false → p.1.sameKey (.int .i64 id) = true → (!pdJ J p.1 p.2) = true := fun id p hj hp => by
    rw [WideAt.sameKey_eq hp]
    show (!J.contains id) = true
    rw [hj]; rfl
  refine ⟨fun id => ?_, fun s hs z => ?_⟩
  · show (es.filter fun p => !pdJ J p.1 p.2).any (fun p => p.1.sameKey (.int .i64 id)) = _
    have h1 := h.has id
    rw [Maps.has_eq] at h1
    cases hj : J.contains id with
    | false =>
      rw [Maps.any_filter_keep (fun p hp => hk id p hj hp), h1]
      unfold hLeft
      rw [List.any_filter]
      congr 1
      funext s
      by_cases c : s.1 = id
      · subst c; simpa using hj
      · simp [c]
    | true =>
      have e1 : (es.filter fun p => !pdJ J p.1 p.2).any (fun p => p.1.sameKey (.int .i64 id)) = false := by
        rw [List.any_eq_false]
        intro p hp c
        have h2 := (List.mem_filter.1 hp).2
        rw [WideAt.sameKey_eq c] at h2
        have h3 : (!J.contains id) = true := h2
        rw [hj] at h3; cases h3
      rw [e1]
      symm
      rw [List.any_eq_false]
      intro s hs c
      have h2 := ((hLeft_mem s).1 hs).2
      have h3 : s.1 = id := by simpa using c
      exact h2 (by rw [h3]; simpa using hj)
  · obtain ⟨h2, h3⟩ := (hLeft_mem s).1 hs
    have h1 := h.at_ s h2 z
    have hj : J.contains s.1 = false := by simpa using h3
    unfold Lib.deleteFuncD DataW.atKey at *
    simp only at h1 ⊢
    rw [Maps.find_filter_keep (fun p hp => hk s.1 p hj hp)]
    exact h1

set_option maxHeartbeats 4000000 in
set_option maxRecDepth 100000 in
/-- maps.DeleteFunc of a map of spans. -/
theorem code_dfspan (pd : Lit → DataW Unit → Bool) (g : Nat) (cb : Array Value) (b n : Nat) (D : DataW Unit) (w : World) (eg : ∀ args w, (callFunc g args).run Tryz.prog w = .ok (.enter g args) w) (hown : w.ownsMap Tryz.prog 3 spanR b n D)
    (hdel : ∀ (W : World) (i s1 s2 s3 s4 : Int), w.grownBy W (some b) → in64 i → Calls Tryz.prog g (#[.int .i64 i, .agg #[.int .i64 s1, .int .i64 s2, .int .i64 s3, .int .i64 s4]] ++ cb) W fun e w' => e = .returned (.bool (pd (.int .i64 i) (encS (s1, s2, s3, s4)))) ∧ W.grownBy w' none) :
    Calls Tryz.prog 30 #[.map (some b), .func (.func g) #[] cb] w fun e w' => e = .returned (.tuple #[]) ∧ w'.ownsMap Tryz.prog 3 spanR b n (Lib.deleteFuncD pd D) ∧ w.grownBy w' (some b) := by
  obtain ⟨es0, rfl, hap, hkeys⟩ := hown.entries keyed
  have HD : Hid _ := hidb hdel
  clear hdel
  go_enter Tryz.func30, Tryz.ntmps30
  go_wp2_with (first
    | (at_range; refine wpList_range_own _ rfl _ 63 rfl 3 43 keyed Tryz.underlying63 spanR b n _ rfl hown ?_; intro w0 hrg0 hg0 hs0)
    | go_in)
  go_frame
  go_loopw [8] (fun _ wr => ∃ (left : Lit → Bool) (cnt : Nat), wr.ranges Tryz.prog 3 spanR b w.heap.size n (Fk pd es0 left) left cnt ∧ w.grownBy wr (some b))
    (fun _ wr => wr.rangeLeft b w.heap.size)
  case atStart => exact ⟨_, _, by rw [Fk_start hkeys]; exact hrg0, hg0.but _⟩
  case round =>
    obtain ⟨left, cnt, hrg, hgw⟩ := hrel
    go_wp2_with (first
      | (at_next; refine wpList_next_ranges _ rfl _ rfl 3 keyed spanR (Value.int .i64) spv (fun key kl hk => by obtain ⟨x, hx, _⟩ := Maps.keyOf_int_inv Tryz.underlying3 hk; exact ⟨x, hx⟩) (fun v y hv => by obtain ⟨s, hs, _⟩ := spanR_inv hv; exact ⟨s, hs⟩) b w.heap.size n _ _ _ rfl hrg ?_ ?_)
      | go_in)
    · intro _ hl0
      go_wp2
      go_end0
      exact ⟨rfl, by rw [← Fk_end hl0]; exact hrg.owns, hgw⟩
    · intro x s1 s2 s3 s4 kl yd yp w1 cnt1 hkey hlx hv hat hrg1 hlt hg1 hs1 hen
      obtain ⟨x', ex, rfl, hwx⟩ := Maps.keyOf_int_inv Tryz.underlying3 hkey
      cases ex
      rw [spanR_mk] at hv
      obtain ⟨rfl, rfl⟩ := Prod.mk.inj (Option.some.inj hv)
      have hgw1 := hgw.andThen hg1 (fun j hj => by cases hj; exact Or.inl (Nat.le_refl _))
      have hc := HD.out (w1.alloc (.cells #[.int .i64 s1, .int .i64 s2, .int .i64 s3, .int .i64 s4] 43)) x s1 s2 s3 s4 (grown_alloc hgw1 _) (wf_in64 hwx)
      have hbl := hrg1.owns.lt
      have hrl := hrg1.lt
      have hkl : WideAt.IsKeyLit (.int .i64 x) := keyed.key hkey
      have HGA : Hid (∀ w2, (w1.alloc (.cells #[.int .i64 s1, .int .i64 s2, .int .i64 s3, .int .i64 s4] 43)).grownBy w2 none → w1.grownBy w2 none) := hidb (fun w2 hg2 => grown_trans (World.grownBy_alloc w1 _ none) hg2)
      simp only [spv] at hen ⊢
      clear hs1
      cases hp : pd (.int .i64 x) (encS (s1, s2, s3, s4)) <;> rw [hp] at hc
      · go_wp2_with (first
          | (go_at_fn g; (with_reducible refine hc.mono ?_); rintro e w2 ⟨rfl, hg2'⟩; have hg2 := HGA.out _ hg2')
          | go_in)
        have hrg2 := hrg1.kept hg2 (by simp) (by simp)
        go_roundw
        case rel => exact ⟨_, cnt1, by rw [← Fk_stays hap hkl hlx hp hat]; exact hrg2, hgw1.andThen hg2 (fun j hj => by cases hj)⟩
        case measure => rw [hrg2.left_eq, hrg.left_eq]; exact hlt
      · go_wp2_with (first
          | (go_at_fn g; (with_reducible refine hc.mono ?_); rintro e w2 ⟨rfl, hg2'⟩; have hg2 := HGA.out _ hg2'; have hrg2 := hrg1.kept hg2 (by simp) (by simp))
          | (at_delete; refine wpList_delete_ranges _ rfl _ _ 63 3 rfl 43 keyed Tryz.underlying63 spanR b w.heap.size n _ _ _ rfl hrg2 _ _ rfl hkey ?_; intro w3 cnt3 hrg3 hle hturn; go_frame)
          | go_in)
        rw [strike_twice] at hrg3
        go_roundw
        case rel => exact ⟨_, cnt3, by rw [← Fk_struck hap hkl hlx hp hat]; exact hrg3, (hgw1.andThen hg2 (fun j hj => by cases hj)).andThen hturn.grown (fun j hj => by cases hj; exact Or.inr rfl)⟩
        case measure => rw [hrg3.left_eq, hrg.left_eq]; omega

set_option maxHeartbeats 2000000 in
theorem code_dfspan_nil (fv : Value) (w : World) :
    Calls Tryz.prog 30 #[.map none, fv] w fun e w' => e = .returned (.tuple #[]) ∧ Below w.heap.size w w' := by
  have hrg := run_range_nilMap (P := Tryz.prog) w 63 _ _ Tryz.underlying63
  have hnx : ∀ ty, (Instr.next (.pointer (some ⟨w.heap.size, 0, none⟩)) false ty).run Tryz.prog (w.alloc (.mapIter none 0 #[] 0)) = _ := fun ty => run_next_nilMap _ ty 0 0 #[]
  go_enter Tryz.func30, Tryz.ntmps30
  go_wp2
  refine wp_loop_rounds 1 ?_
  rw [rounds_succ]
  go_wp2
  go_end0
  exact ⟨rfl, (Below.refl _ _).alloc (Nat.le_refl _) _⟩

end Go.Proofs.YtcngcibiibchiaaGreat
