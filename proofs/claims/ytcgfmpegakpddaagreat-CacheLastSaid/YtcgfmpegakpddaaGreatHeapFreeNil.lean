/- What Free of a nil heap of layer 7 (heap) answers. -/
import Derived.Test.YtcgfmpegakpddaaGreatHeapMain
import Derived.Test.YtcgfmpegakpddaaGreatRunsMain
import Derived.Test.YtcgfmpegakpddaaGreatIndexAll
namespace Go.Proofs.YtcgfmpegakpddaaGreat
open Go.RowKit Go.Maps
set_option linter.unusedVariables false

theorem FreeBoxN (w1 : World) : ∀ W, Below (w1.alloc (.cells #[.pointer none, .pointer none, .map none, .int .i64 0] 131)).heap.size (w1.alloc (.cells #[.pointer none, .pointer none, .map none, .int .i64 0] 131)) W →
    W.cell? ⟨w1.heap.size, 0, none⟩ = some (.pointer none) ∧ W.cell? ⟨w1.heap.size, 1, none⟩ = some (.pointer none) ∧ W.cell? ⟨w1.heap.size, 2, none⟩ = some (.map none) := fun W hb => by
  have h1 : W.heap[w1.heap.size]? = some (.cells #[.pointer none, .pointer none, .map none, .int .i64 0] 131 (0, 0)) := by
    rw [hb.block _ (by simp)]
    show (w1.heap.push _)[w1.heap.size]? = _
    simp
  obtain ⟨a, b, c, _⟩ := cells4 h1
  exact ⟨a, b, c⟩
set_option maxHeartbeats 2000000 in
theorem code_hfree_nil0 (A : Option Addr) (c : Nat) (w : World) :
    Calls Tryz.prog 143 #[.pointer none, .slice A 0 c] w fun e w' => e = .returned (.int .i64 0) ∧ Below w.heap.size w w' := by
  have hmk := @run_makeMap Tryz.prog
  have hz : Hid (∀ W, W = (w.alloc (.map #[] 0)).alloc (.cells #[.map (some w.heap.size)] 170) → Below w.heap.size w W) := hidb (by rintro W rfl; exact ((Below.refl _ _).alloc (Nat.le_refl _) _).alloc (by simp) _)
  have cp := fun W => code_hparts_nil W
  have cd : ∀ W, Calls Tryz.prog 183 #[.pointer none, .slice none 0 0] W fun e w' => e = .returned (.int .i64 (nilNo [])) ∧ Below W.heap.size W w' := fun W => code_xdrop_nil none 0 0 [] W Rn.nil_ (by omega) (fun r hr => by cases hr)
  have ca : ∀ W, Calls Tryz.prog 134 #[.pointer none, .slice none 0 0] W fun e w' => e = .returned (.int .i64 0) ∧ Below W.heap.size W w' := fun W => code_radd_nil none 0 0 [] W Rn.nil_ (by omega) (fun r hr => by cases hr)
  have cf := fun W => code_dfspan_nil (.func (.func 185) #[] #[.pointer (some ⟨w.heap.size + 1, 0, none⟩)]) W
  go_enter Tryz.func143, Tryz.ntmps143
  go_wp2
  have hz1 := hz.out _ rfl
  generalize (w.alloc (.map #[] 0)).alloc (.cells #[.map (some w.heap.size)] 170) = W0 at hz1 ⊢
  have HZ1 := hidb hz1
  clear hz hz1
  refine wp_loop_rounds 1 ?_
  rw [rounds_succ]
  go_wp2_with (first
    | (go_at_call 71; (with_reducible refine (cp _).mono ?_); rintro e w1 ⟨rfl, hb1⟩; have hs1 := hb1.size; have HQ := hidb (FreeBoxN w1); obtain ⟨q0, q1, q2⟩ := HQ.out _ (Below.refl _ _); have HB1 : Hid (Below w.heap.size w (w1.alloc (.cells #[.pointer none, .pointer none, .map none, .int .i64 0] 131))) := hidb (by have h := HZ1.out.trans (hb1.mono HZ1.out.size); exact h.alloc h.size _))
    | (go_at_call 183; (with_reducible refine (cd _).mono ?_); rintro e w3 ⟨rfl, hb3⟩; have HB3 := hidb (HB1.out.trans (hb3.mono HB1.out.size)); obtain ⟨_, q1', q2'⟩ := HQ.out _ hb3)
    | (go_at_call 134; (with_reducible refine (ca _).mono ?_); rintro e w4 ⟨rfl, hb4⟩; have HB4 := hidb (HB3.out.trans (hb4.mono HB3.out.size)); obtain ⟨_, _, q2''⟩ := HQ.out _ (hb3.trans (hb4.mono hb3.size)))
    | (go_at_call 184; (with_reducible refine (cf _).mono ?_); rintro e w5 ⟨rfl, hb5⟩))
  go_ret
  exact ⟨rfl, HB4.out.trans (hb5.mono HB4.out.size)⟩
set_option maxHeartbeats 2000000 in
theorem code_hfree_nil1 (A : Option Addr) (m c : Nat) (ids : List Int) (w : World) (hs : Sl w w.heap.size A m (ids.map iv)) (hm : 0 < m) (hid : ∀ i ∈ ids, in64 i) :
    Calls Tryz.prog 143 #[.pointer none, .slice A m c] w fun e w' => e = .returned (.int .i64 6) ∧ Below w.heap.size w w' := by
  have hmk := @run_makeMap Tryz.prog
  have hz : Hid (∀ W, W = (w.alloc (.map #[] 0)).alloc (.cells #[.map (some w.heap.size)] 170) → Below w.heap.size w W) := hidb (by rintro W rfl; exact ((Below.refl _ _).alloc (Nat.le_refl _) _).alloc (by simp) _)
  obtain ⟨b, off, z, rfl, hbz, hx, hc⟩ := hs.at_ hm
  have hli : ids.length = m := by have := hs.1; simpa using this
  rw [List.getElem?_map] at hx
  obtain ⟨id, hi⟩ : ∃ id, ids[0]? = some id := ⟨_, List.getElem?_eq_getElem (by omega)⟩
  rw [hi] at hx
  obtain rfl : iv id = z := by simpa using hx
  have hid64 := hid id (List.mem_of_getElem? hi)
  have HC : Hid (∀ W, Below w.heap.size w W → W.cell? ⟨b, off, none⟩ = some (.int .i64 id)) := hidb (fun W hb => (hb.cell (p := ⟨b, off, none⟩) hbz).trans (by rw [Nat.add_zero] at hc; exact hc))
  have cs : ∀ W, Calls Tryz.prog 155 #[.pointer none, .int .i64 id] W fun e w' => e = .returned (.tuple #[.agg #[.int .i64 0, .int .i64 0, .int .i64 0, .int .i64 0], .bool false]) ∧ Below W.heap.size W w' := fun W => code_hspan_nil id hid64 W
  have hm1 : (0 : Int) < (m : Int) := by omega
  clear hs hid hx hi hc
  go_enter Tryz.func143, Tryz.ntmps143
  go_wp2
  have hz1 := hz.out _ rfl
  generalize (w.alloc (.map #[] 0)).alloc (.cells #[.map (some w.heap.size)] 170) = W0 at hz1 ⊢
  have HZ1 := hidb hz1
  have hc1 := HC.out _ hz1
  clear hz hz1 HC
  refine wp_loop_rounds 1 ?_
  rw [rounds_succ]
  go_wp2_with (first
    | (go_at_call 155; (with_reducible refine (cs _).mono ?_); rintro e w2 ⟨rfl, hb2⟩; have HB2 : Hid (Below w.heap.size w (w2.alloc (.cells #[.int .i64 0, .int .i64 0, .int .i64 0, .int .i64 0] 49))) := hidb (by have h := HZ1.out.trans (hb2.mono HZ1.out.size); exact h.alloc h.size _)))
  go_ret
  exact ⟨rfl, HB2.out⟩

end Go.Proofs.YtcgfmpegakpddaaGreat
