/- slices.Grow of nil, and slices.Concat of two rows of numbers. -/
import Derived.Test.YtcngcibiibchiaaAppendRow
namespace Go.Proofs.Ytcngcibiibchiaa
open Go.RowKit
set_option linter.unusedVariables false

/-- A row of numbers of the call's own. -/
def OwnZs (w : World) (zs : List Int) (e : Ending) (w' : World) : Prop := ∃ A c, e = .returned (.slice A zs.length c) ∧ w'.ownsRow w.heap.size 3 1 (.slice A zs.length c) zs.length (zs.map iv) ∧ Below w.heap.size w w'
theorem ivs_one (zs : List Int) : ∀ u ∈ zs.map iv, u.oneCell' = true := fun u hu => by
  obtain ⟨z, _, rfl⟩ := List.mem_map.1 hu; rfl
theorem sl_cells {w : World} {B n : Nat} {A : Option Addr} {l : List Value} (h : Sl w B A n l) : CellsAt w A l := fun ad e j u hj => by
  have hlt : j < l.length := (List.getElem?_eq_some_iff.1 hj).1
  obtain ⟨b, off, e2, _, hc⟩ := h.2 (by have := h.1; omega)
  rw [e] at e2
  obtain rfl := Option.some.inj e2
  rw [Go.WideShapes.add_plain, hc j (by have := h.1; omega)]
  exact hj

/-- Room for numbers: a row of none. -/
def OwnRoomI (w : World) (e : Ending) (w' : World) : Prop := ∃ A c, e = .returned (.slice A 0 c) ∧ w'.ownsRow w.heap.size 3 1 (.slice A 0 c) 0 [] ∧ Below w.heap.size w w'

set_option maxRecDepth 100000 in
theorem code_igrow (k : Nat) (w : World) (hk : k ≤ 131072) :
    Calls Try.prog 45 #[.slice none 0 0, .int .i64 (k : Int)] w (OwnRoomI w) := by
  obtain ⟨i0, hi, hz0, hz1, hz2⟩ := info_parts info_int
  by_cases h0 : k = 0
  · subst h0
    go_enter Try.func45, Try.ntmps45
    go_wp2
    go_ret
    exact ⟨none, 0, rfl, World.ownsRow_nil _ _ _ _, Below.refl _ _⟩
  · have hr := fun ty => Lib.run_append_nil_zeros (P := Try.prog) w 32 3 ty 3 i0 _ .i64 .i64 Try.underlying32 Try.underlying3 hi hz0 k (by omega) (by rw [hz1]; decide) (by omega) (by rw [hz2]; omega)
    have hge := grownCap_ge w k 0 3
    have hcm := grownCap_le_maxLen w k 0 3 (by unfold maxLen; omega)
    obtain ⟨G, hG⟩ : ∃ G, grownCap w k 0 3 = G := ⟨_, rfl⟩
    rw [hG] at hge hcm
    have hr2 : ∀ ty, ∃ W, (Builtin.append_ #[32, 3] ty #[.slice none 0 0, .int .i64 (k : Int)]).run Try.prog w = .ok (.slice (some ⟨w.heap.size, 0, none⟩) k G) W ∧ W.ownsRow w.heap.size 3 1 (.slice (some ⟨w.heap.size, 0, none⟩) 0 G) 0 [] ∧ Below w.heap.size w W := fun ty => by
      have h := hr ty
      rw [hG] at h
      refine ⟨_, h, ?_, (Below.refl _ _).drew.alloc (Nat.le_refl _) _⟩
      refine ⟨rfl, .inr ⟨w.heap.size, G, _, rfl, Nat.le_refl _, heap_alloc_new w.drew _, by omega, hcm, ?_, rfl⟩⟩
      simp only [Array.size_append, size_zeroCells]
      rw [← Nat.add_mul]
      show (k + (G - k)) * 1 = G * 1
      omega
    obtain ⟨W, hrun, hown, hbel⟩ := hr2 32
    have HO := hidb hown
    have HB := hidb hbel
    have hk1 : (0 : Int) < (k : Int) := by omega
    clear hr hr2 hG hown hbel
    go_enter Try.func45, Try.ntmps45
    go_wp2_with (first | (at_builtin; refine Lib.wpList_append_run _ rfl _ _ _ _ rfl _ _ rfl rfl _ _ hrun ?_))
    go_ret
    exact ⟨_, _, rfl, HO.out, HB.out⟩

set_option maxRecDepth 100000 in
set_option maxHeartbeats 2000000 in
theorem code_iconcat (N : Nat) (A1 A2 : Option Addr) (n1 c1 n2 c2 : Nat) (rs1 rs2 : List Int) (w : World) (hN : N < w.heap.size) (h0 : w.cell? ⟨N, 0, none⟩ = some (.slice A1 n1 c1)) (h1 : w.cell? ⟨N, 1, none⟩ = some (.slice A2 n2 c2))
    (hs1 : Sl w w.heap.size A1 n1 (rs1.map iv)) (hs2 : Sl w w.heap.size A2 n2 (rs2.map iv)) (hn1 : n1 ≤ 65536) (hn2 : n2 ≤ 65536) :
    Calls Try.prog 29 #[.slice (some ⟨N, 0, none⟩) 2 2] w (OwnZs w (rs1 ++ rs2)) := by
  obtain ⟨i0, hi, hz0, hz1, hz2⟩ := info_parts info_int
  have l1 : rs1.length = n1 := by have := hs1.1; simpa using this
  have l2 : rs2.length = n2 := by have := hs2.1; simpa using this
  have cg := code_igrow (n1 + n2) w (by omega)
  rw [Int.natCast_add] at cg
  have nil0 : ∀ (A : Option Addr) (n : Nat) (rs : List Int), Sl w w.heap.size A n (rs.map iv) → A = none → n = 0 := fun A n rs hs e => by
    refine Nat.eq_zero_of_not_pos fun h => ?_
    obtain ⟨b, off, e2, _⟩ := hs.2 h
    rw [e] at e2; cases e2
  have HA1 : Hid (A1 = none → n1 = 0) := hidb (fun e => nil0 A1 n1 rs1 hs1 e)
  have HA2 : Hid (A2 = none → n2 = 0) := hidb (fun e => nil0 A2 n2 rs2 hs2 e)
  have HC1 : Hid (∀ W, Below w.heap.size w W → CellsAt W A1 (rs1.map iv)) := hidb (fun W hb => sl_cells (hs1.below hb))
  have HC2 : Hid (∀ W, Below w.heap.size w W → CellsAt W A2 (rs2.map iv)) := hidb (fun W hb => sl_cells (hs2.below hb))
  have HQ : Hid (∀ W, Below w.heap.size w W → W.cell? ⟨N, 0, none⟩ = some (.slice A1 n1 c1) ∧ W.cell? ⟨N, 1, none⟩ = some (.slice A2 n2 c2)) := hidb (fun W hb => by
    rw [hb.cell (p := ⟨N, 0, none⟩) hN, hb.cell (p := ⟨N, 1, none⟩) hN]; exact ⟨h0, h1⟩)
  have HL1 := hidb l1
  have HL2 := hidb l2
  have o1 := hidb (ivs_one rs1)
  have o2 := hidb (ivs_one rs2)
  clear hs1 hs2 l1 l2 nil0
  go_enter Try.func29, Try.ntmps29
  go_wp2
  refine wp_loop_rounds 3 ?_
  rw [rounds_succ]
  go_wp2
  rw [rounds_succ]
  go_wp2
  rw [rounds_succ]
  go_wp2_with (first | (go_at_call 45; (with_reducible refine cg.mono ?_); rintro e w1 ⟨A3, c3, rfl, hown3, hb3⟩; obtain ⟨q0, q1⟩ := HQ.out _ hb3))
  have HO3 := hidb hown3
  have HB3 := hidb hb3
  clear hown3 hb3
  refine wp_loop_rounds 3 ?_
  rw [rounds_succ]
  go_wp2_with (first | (at_builtin; refine wpList_append_rowN _ rfl (.tmp 31) (.tmp 32) 32 rfl w.heap.size 3 i0 (.int .i64 0) 1 8 Try.underlying32 hi hz0 hz1 hz2 rfl (by decide) _ 0 [] rfl HO3.out HB3.out.size A1 n1 c1 (rs1.map iv) rfl (by rw [List.length_map, HL1.out, Nat.mul_one]) HA1.out (HC1.out _ HB3.out) o1.out (by unfold maxLen; omega) (by omega) ?_; intro A4 c4 w4 hown4 hg4))
  rw [Nat.zero_add, List.nil_append] at hown4
  have HO4 := hidb hown4
  have HB4 : Hid (Below w.heap.size w w4) := hidb (HB3.out.grown hg4 HB3.out.size (fun k hk => (HO3.out.lt k hk).1))
  obtain ⟨r0, r1⟩ := HQ.out _ HB4.out
  clear hown4 hg4
  rw [rounds_succ]
  go_wp2_with (first | (at_builtin; refine wpList_append_rowN _ rfl (.tmp 31) (.tmp 32) 32 rfl w.heap.size 3 i0 (.int .i64 0) 1 8 Try.underlying32 hi hz0 hz1 hz2 rfl (by decide) _ n1 (rs1.map iv) rfl HO4.out HB4.out.size A2 n2 c2 (rs2.map iv) rfl (by rw [List.length_map, HL2.out, Nat.mul_one]) HA2.out (HC2.out _ HB4.out) o2.out (by unfold maxLen; omega) (by omega) ?_; intro A5 c5 w5 hown5 hg5))
  have HO5 := hidb hown5
  have HB5 : Hid (Below w.heap.size w w5) := hidb (HB4.out.grown hg5 HB4.out.size (fun k hk => (HO4.out.lt k hk).1))
  clear hown5 hg5
  rw [rounds_succ]
  go_wp2
  go_ret
  refine ⟨A5, c5, ?_, ?_, HB5.out⟩
  · rw [List.length_append, HL1.out, HL2.out]; rfl
  · rw [List.length_append, HL1.out, HL2.out, List.map_append]; exact HO5.out

end Go.Proofs.Ytcngcibiibchiaa
