/- What told, the questions and the deferred closures of layer 5 (index) do. -/
import Derived.Test.YtoghahldlnhpdaaIndexAsk
namespace Go.Proofs.Ytoghahldlnhpdaa
open Go.RowKit
set_option linter.unusedVariables false

theorem as_yes (T : TypeId) (hT : T = 56 ∨ T = 58 ∨ T = 59) (W : World) (v : Value) : (Instr.typeAssert (.iface T v) 20 T true).run Try.prog W = .ok (.tuple #[v, .bool true]) W := by
  rcases hT with rfl | rfl | rfl <;> kernel_rfl
theorem nl_yes (W : World) (v : Value) : (Instr.typeAssert (.iface 56 v) 20 56 true).run Try.prog W = .ok (.tuple #[v, .bool true]) W := by kernel_rfl
theorem nl_no2 (W : World) (v : Value) : (Instr.typeAssert (.iface 58 v) 20 56 true).run Try.prog W = .ok (.tuple #[.agg #[], .bool false]) W := by kernel_rfl
theorem nl_no3 (W : World) (v : Value) : (Instr.typeAssert (.iface 59 v) 20 56 true).run Try.prog W = .ok (.tuple #[.agg #[], .bool false]) W := by kernel_rfl
theorem ms_yes (W : World) (v : Value) : (Instr.typeAssert (.iface 58 v) 20 58 true).run Try.prog W = .ok (.tuple #[v, .bool true]) W := by kernel_rfl
theorem ms_no3 (W : World) (v : Value) : (Instr.typeAssert (.iface 59 v) 20 58 true).run Try.prog W = .ok (.tuple #[.agg #[], .bool false]) W := by kernel_rfl
theorem ow_yes (W : World) (v : Value) : (Instr.typeAssert (.iface 59 v) 20 59 true).run Try.prog W = .ok (.tuple #[v, .bool true]) W := by kernel_rfl
theorem iface_nil_no (W : World) (T : TypeId) (v : Value) : (binOp .eql 20 (.iface T v) .nilIface).run Try.prog W = .ok (.bool false) W := by kernel_rfl
theorem nil_iface_yes (W : World) : (binOp .eql 20 .nilIface .nilIface).run Try.prog W = .ok (.bool true) W := by kernel_rfl

theorem code_told_nil (w : World) :
    Calls Try.prog 22 #[.nilIface] w fun e w' => e = .returned (.int .i64 0) ∧ w = w' := by
  have q := nil_iface_yes
  go_enter Try.func22, Try.ntmps22
  go_wp2
  go_ret
  exact ⟨rfl, rfl⟩
theorem code_told1 (w : World) :
    Calls Try.prog 22 #[.iface 56 (.agg #[])] w fun e w' => e = .returned (.int .i64 1) ∧ w' = w.alloc (.cells #[] 56) := by
  have q := fun W => iface_nil_no W 56 (.agg #[])
  have q1 := nl_yes
  go_enter Try.func22, Try.ntmps22
  go_wp2
  go_ret
  exact ⟨rfl, rfl⟩
theorem code_told2 (w : World) :
    Calls Try.prog 22 #[.iface 58 (.agg #[])] w fun e w' => e = .returned (.int .i64 2) ∧ w' = w.alloc (.cells #[] 58) := by
  have q := fun W => iface_nil_no W 58 (.agg #[])
  have q1 := nl_no2
  have q2 := ms_yes
  go_enter Try.func22, Try.ntmps22
  go_wp2
  go_ret
  exact ⟨rfl, rfl⟩
theorem code_told9 (w : World) :
    Calls Try.prog 22 #[.iface 59 (.agg #[])] w fun e w' => e = .returned (.int .i64 9) ∧ w' = w.alloc (.cells #[] 59) := by
  have q := fun W => iface_nil_no W 59 (.agg #[])
  have q1 := nl_no3
  have q2 := ms_no3
  have q3 := ow_yes
  go_enter Try.func22, Try.ntmps22
  go_wp2
  go_ret
  exact ⟨rfl, rfl⟩

/-- An error that is thrown, and its number. -/
def TellsAs (T : TypeId) (no : Int) : Prop := ∀ w : World, Calls Try.prog 22 #[.iface T (.agg #[])] w fun e w' => e = .returned (.int .i64 no) ∧ w' = w.alloc (.cells #[] T)
/-- The closure that is deferred: what was thrown is told. -/
theorem catch_drop (T : TypeId) (no : Int) (ht : TellsAs T no) (p : Addr) (x : Int) (w : World) (hb : p.block < w.heap.size) (hc : w.cell? p = some (.int .i64 x)) (hz : w.frozen? p = false) :
    CallsD Try.prog 21 #[.pointer (some p)] (.panicking [thrown T]) w fun e u' w' =>
      e = .returned (.tuple #[]) ∧ u' = .panicking [{ thrown T with recovered := true }] ∧ w' = (w.alloc (.cells #[] T)).setCell p (.int .i64 no) := by
  have hz' : (w.alloc (.cells #[] T)).frozen? p = false := by rw [((Below.refl w.heap.size w).alloc (Nat.le_refl _) _).frozen hb]; exact hz
  have hc' : (w.alloc (.cells #[] T)).cell? p = some (.int .i64 x) := by rw [World.cell?_alloc_lt _ _ _ hb]; exact hc
  refine callsD_of_wpS Try.func21 rfl fun c₀ cs' hu => ?_
  change Code.wpS _ _ _ { tmps := #[.pointer (some p), undef, undef], defers := [] } _ _
  unfold thrown at hu
  apply wpS_region
  simp [wpOpsS, go_sem, recoverD, hu]
  refine (ht _).mono ?_
  rintro e w' ⟨rfl, rfl⟩
  simp [go_sem, hz', hc', bodyPostS, results, Try.results21, thrown]

theorem idle_drop (p : Addr) (x : Int) (w : World) (hc : w.cell? p = some (.int .i64 x)) (hz : w.frozen? p = false) :
    CallsD Try.prog 21 #[.pointer (some p)] .returning w fun e u' w' => e = .returned (.tuple #[]) ∧ u' = .returning ∧ w' = w.setCell p (.int .i64 0) := by
  refine callsD_of_wpS Try.func21 rfl fun c₀ cs' hu => ?_
  change Code.wpS _ _ _ { tmps := #[.pointer (some p), undef, undef], defers := [] } _ _
  apply wpS_region
  simp [wpOpsS, go_sem, recoverD, hu]
  refine (code_told_nil _).mono ?_
  rintro e w' ⟨rfl, rfl⟩
  simp [go_sem, hz, hc, bodyPostS, results, Try.results21]
  cases c₀
  simp_all

theorem catch_set (T : TypeId) (no : Int) (ht : TellsAs T no) (p : Addr) (x : Int) (w : World) (hb : p.block < w.heap.size) (hc : w.cell? p = some (.int .i64 x)) (hz : w.frozen? p = false) :
    CallsD Try.prog 26 #[.pointer (some p)] (.panicking [thrown T]) w fun e u' w' =>
      e = .returned (.tuple #[]) ∧ u' = .panicking [{ thrown T with recovered := true }] ∧ w' = (w.alloc (.cells #[] T)).setCell p (.int .i64 no) := by
  have hz' : (w.alloc (.cells #[] T)).frozen? p = false := by rw [((Below.refl w.heap.size w).alloc (Nat.le_refl _) _).frozen hb]; exact hz
  have hc' : (w.alloc (.cells #[] T)).cell? p = some (.int .i64 x) := by rw [World.cell?_alloc_lt _ _ _ hb]; exact hc
  refine callsD_of_wpS Try.func26 rfl fun c₀ cs' hu => ?_
  change Code.wpS _ _ _ { tmps := #[.pointer (some p), undef, undef], defers := [] } _ _
  unfold thrown at hu
  apply wpS_region
  simp [wpOpsS, go_sem, recoverD, hu]
  refine (ht _).mono ?_
  rintro e w' ⟨rfl, rfl⟩
  simp [go_sem, hz', hc', bodyPostS, results, Try.results26, thrown]

theorem idle_set (p : Addr) (x : Int) (w : World) (hc : w.cell? p = some (.int .i64 x)) (hz : w.frozen? p = false) :
    CallsD Try.prog 26 #[.pointer (some p)] .returning w fun e u' w' => e = .returned (.tuple #[]) ∧ u' = .returning ∧ w' = w.setCell p (.int .i64 0) := by
  refine callsD_of_wpS Try.func26 rfl fun c₀ cs' hu => ?_
  change Code.wpS _ _ _ { tmps := #[.pointer (some p), undef, undef], defers := [] } _ _
  apply wpS_region
  simp [wpOpsS, go_sem, recoverD, hu]
  refine (code_told_nil _).mono ?_
  rintro e w' ⟨rfl, rfl⟩
  simp [go_sem, hz, hc, bodyPostS, results, Try.results26]
  cases c₀
  simp_all

/-- Drop's question: a page that has a number. -/
theorem code_xdrop2 {p g n : Nat} {ids : List Int} {B t : Nat} (w : World) (hx : Ix w B p g n ids) (hc : w.cell? ⟨t, 0, none⟩ = some (.pointer (some ⟨p, 0, none⟩))) (page : Nat) (hp : page < n) :
    Calls Try.prog 24 #[.int .i64 (page : Int), .pointer (some ⟨t, 0, none⟩)] w fun e w' => e = .returned (.bool (ids.getD page 0 != 0)) ∧ w = w' := by
  have h1 := hx.cell
  have h2 := hx.int_ hp
  have h3 := hx.small
  obtain ⟨y, hy⟩ : ∃ y, ids.getD page 0 = y := ⟨_, rfl⟩
  rw [hy] at h2 ⊢
  have hp0 : (0 : Int) ≤ (page : Int) := by omega
  have hp1 : (page : Int) < (n : Int) := by omega
  clear hx hy
  go_enter Try.func24, Try.ntmps24
  go_wp2
  go_ret
  exact ⟨rfl, rfl⟩

end Go.Proofs.Ytoghahldlnhpdaa
