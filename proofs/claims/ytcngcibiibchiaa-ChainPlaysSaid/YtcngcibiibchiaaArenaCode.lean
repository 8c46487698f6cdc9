/- What each function of layer 4 (arena) returns. -/
import Derived.Test.YtcngcibiibchiaaRowWords
import Derived.Test.YtcngcibiibchiaaArenaMath
import Derived.Test.YtcngcibiibchiaaRows7
import Derived.Defers
import Derived.Recover
import Derived.Laws.Pointers
import Derived.Laws.CopyOwn
import Derived.Lib.SliceRun
namespace Go.Proofs.Ytcngcibiibchiaa
open Go.RowKit
set_option linter.unusedVariables false

/-- An arena: its cell, and its row of words in a block of its own; both from block B on. -/
structure Ar (w : World) (B p g len : Nat) (xs : List Nat) : Prop where
  cell : w.cell? ⟨p, 0, none⟩ = some (.slice (some ⟨g, 0, none⟩) len len)
  heap : w.heap[g]? = some (.cells (xs.map wv).toArray 31 (0, 0))
  hlen : xs.length = len
  ge : B ≤ p
  geg : B ≤ g
  ne : p ≠ g
  small : len ≤ 65536

section
variable {w w' w'' : World} {B p g len : Nat} {xs ys : List Nat}
theorem Ar.lt (h : Ar w B p g len xs) : g < w.heap.size := (Array.getElem?_eq_some_iff.1 h.heap).1
theorem Ar.ltp (h : Ar w B p g len xs) : p < w.heap.size := lt_of_cell h.cell
theorem Ar.word (h : Ar w B p g len xs) (j : Nat) : w.cell? ⟨g, j, none⟩ = (xs.map wv)[j]? := by
  simp [World.cell?, h.heap]
theorem Ar.kept (h : Ar w B p g len xs) (hk : ∀ k, k < w.heap.size → w'.heap[k]? = w.heap[k]?) : Ar w' B p g len xs :=
  ⟨(World.cell?_of_block (w := w) (a := ⟨p, 0, none⟩) (hk p h.ltp)).trans h.cell, (hk g h.lt).trans h.heap, h.hlen, h.ge, h.geg, h.ne, h.small⟩
theorem Ar.below {B' : Nat} (h : Ar w B p g len xs) (hb : Below B' w w') (hB : w.heap.size ≤ B') : Ar w' B p g len xs := h.kept (fun k hk => hb.block k (by omega))
theorem Ar.alloc (h : Ar w B p g len xs) (o : Obj) : Ar (w.alloc o) B p g len xs := h.below ((Below.refl _ _).alloc (Nat.le_refl _) o) (Nat.le_refl _)
theorem Ar.more {B' : Nat} (h : Ar w B p g len xs) (hB : B' ≤ B) : Ar w B' p g len xs := ⟨h.cell, h.heap, h.hlen, by have := h.ge; omega, by have := h.geg; omega, h.ne, h.small⟩
theorem Ar.setRow (h : Ar w B p g len xs) (hy : ys.length = len) : Ar (w.setRow g (ys.map wv).toArray) B p g len ys :=
  ⟨(World.cell?_of_block (w := w) (a := ⟨p, 0, none⟩) (setRow_other w g p _ h.ne)).trans h.cell, setRow_heap w g _ _ _ _ h.heap, hy, h.ge, h.geg, h.ne, h.small⟩
theorem Ar.setCell (h : Ar w B p g len xs) {a : Addr} (hp : a.block ≠ p) (hg : a.block ≠ g) (u : Value) : Ar (w.setCell a u) B p g len xs :=
  ⟨(World.cell?_of_block (w := w) (a := ⟨p, 0, none⟩) (Below.heap_setCell _ _ _ _ (by show p ≠ _; omega))).trans h.cell, (Below.heap_setCell _ _ _ _ (by omega)).trans h.heap, h.hlen, h.ge, h.geg, h.ne, h.small⟩
theorem Ar.sl (h : Ar w B p g len xs) : Sl w w.heap.size (some ⟨g, 0, none⟩) len (xs.map wv) :=
  ⟨by rw [List.length_map]; exact h.hlen, fun _ => ⟨g, 0, rfl, h.lt, fun j _ => by rw [Nat.zero_add]; exact h.word j⟩⟩
theorem grown_trans {r : Option Nat} (h : w.grownBy w' r) (k : w'.grownBy w'' r) : w.grownBy w'' r :=
  ⟨k.os.trans h.os, k.tape.trans h.tape, k.output.trans h.output, Nat.le_trans h.size k.size, fun i hi hr => (k.block i (by have := h.size; omega) hr).trans (h.block i hi hr)⟩
theorem grown_alloc {r : Option Nat} (h : w.grownBy w' r) (o : Obj) : w.grownBy (w'.alloc o) r := grown_trans h (World.grownBy_alloc w' o r)
theorem grown_setRow (h : w.grownBy w' (some g)) (cs : Array Value) : w.grownBy (w'.setRow g cs) (some g) :=
  grown_trans h ⟨rfl, rfl, rfl, by simp, fun k hk hr => setRow_other w' g k cs (fun e => hr (by rw [e]))⟩
theorem grown_setCell {r : Option Nat} (h : w.grownBy w' r) {a : Addr} (ha : w.heap.size ≤ a.block) (u : Value) : w.grownBy (w'.setCell a u) r :=
  ⟨h.os, h.tape, h.output, by have := h.size; simp [World.setCell]; omega, fun k hk hr => (Below.heap_setCell _ _ _ _ (by omega)).trans (h.block k hk hr)⟩
theorem below_to_grown (h : Below w.heap.size w w') (r : Option Nat) : w.grownBy w' r := ⟨h.os, h.tape, h.output, h.size, fun k hk _ => h.block k hk⟩
end

theorem code_awords (p : Nat) (A : Option Addr) (len c : Nat) (w : World) (hc : w.cell? ⟨p, 0, none⟩ = some (.slice A len c)) :
    Calls Try.prog 44 #[.pointer (some ⟨p, 0, none⟩)] w fun e w' => e = .returned (.int .i64 (len : Int)) ∧ w = w' := by
  go_enter Try.func44, Try.ntmps44
  go_wp2
  go_ret
  exact ⟨rfl, rfl⟩

theorem code_awords_nil (w : World) :
    Calls Try.prog 44 #[.pointer none] w fun e w' => e = .returned (.int .i64 0) ∧ w = w' := by
  go_enter Try.func44, Try.ntmps44
  go_wp2
  go_ret
  exact ⟨rfl, rfl⟩

theorem code_ain_of (v : Value) (len : Nat) (at' n : Int) (w : World) (hl : len ≤ 65536)
    (hw : Calls Try.prog 44 #[v] w fun e w' => e = .returned (.int .i64 (len : Int)) ∧ w = w')
    (h0 : in64 at') (h1 : in64 n) :
    Calls Try.prog 28 #[v, .int .i64 at', .int .i64 n] w fun e w' => e = .returned (.bool (aIn len at' n)) ∧ w = w' := by
  obtain ⟨h00, h01⟩ := h0
  obtain ⟨h10, h11⟩ := h1
  by_cases a0 : 0 ≤ at'
  · by_cases n0 : 0 ≤ n
    · have hw64 : wrap64 ((len : Int) - at') = (len : Int) - at' := by unfold wrap64; omega
      have E : Hid (decide (n ≤ (len : Int) - at') = aIn len at' n) := hidb (by unfold aIn; rw [Bool.eq_iff_iff, decide_eq_true_iff, decide_eq_true_iff]; omega)
      go_enter Try.func28, Try.ntmps28
      go_wp2_with (go_at_call 44; refine hw.mono ?_; rintro e w' ⟨rfl, rfl⟩)
      go_ret
      exact ⟨congrArg Ending.returned (congrArg Value.bool E.out), rfl⟩
    · have e : aIn len at' n = false := by unfold aIn; exact decide_eq_false (by omega)
      rw [e]; clear e
      go_enter Try.func28, Try.ntmps28
      go_wp2
      go_ret
      exact ⟨rfl, rfl⟩
  · have e : aIn len at' n = false := by unfold aIn; exact decide_eq_false (by omega)
    rw [e]; clear e
    go_enter Try.func28, Try.ntmps28
    go_wp2
    go_ret
    exact ⟨rfl, rfl⟩

/-- What is thrown where words aren't there. -/
def gone : PanicEntry := { v := .iface 88 (.agg #[]), recovered := false }

theorem code_arow_no_of (v : Value) (len : Nat) (at' n : Int) (w : World)
    (hi : Calls Try.prog 28 #[v, .int .i64 at', .int .i64 n] w fun e w' => e = .returned (.bool (aIn len at' n)) ∧ w = w')
    (hno : aIn len at' n = false) :
    Calls Try.prog 36 #[v, .int .i64 at', .int .i64 n] w fun e w' => e = .panicked [gone] ∧ w = w' := by
  rw [hno] at hi
  go_enter Try.func36, Try.ntmps36
  go_wp2_with (go_at_call 28; refine hi.mono ?_; rintro e w' ⟨rfl, rfl⟩)
  exact ⟨rfl, rfl, rfl⟩

theorem code_arow_none_of (v : Value) (len : Nat) (at' : Int) (w : World)
    (hi : Calls Try.prog 28 #[v, .int .i64 at', .int .i64 0] w fun e w' => e = .returned (.bool (aIn len at' 0)) ∧ w = w')
    (hin : aIn len at' 0 = true) :
    Calls Try.prog 36 #[v, .int .i64 at', .int .i64 0] w fun e w' => e = .returned (.slice none 0 0) ∧ w = w' := by
  rw [hin] at hi
  go_enter Try.func36, Try.ntmps36
  go_wp2_with (go_at_call 28; refine hi.mono ?_; rintro e w' ⟨rfl, rfl⟩)
  go_ret
  exact ⟨rfl, rfl⟩

theorem code_arow (p g len at' n : Nat) (w : World) (hc : w.cell? ⟨p, 0, none⟩ = some (.slice (some ⟨g, 0, none⟩) len len)) (hl : len ≤ 65536) (hn : 0 < n) (hin : at' + n ≤ len) :
    Calls Try.prog 36 #[.pointer (some ⟨p, 0, none⟩), .int .i64 (at' : Int), .int .i64 (n : Int)] w fun e w' => e = .returned (.slice (some ⟨g, at', none⟩) n (len - at')) ∧ w = w' := by
  have hi := code_ain_of (.pointer (some ⟨p, 0, none⟩)) len (at' : Int) (n : Int) w hl (code_awords p _ len len w hc) (by unfold in64; omega) (by unfold in64; omega)
  rw [show aIn len (at' : Int) (n : Int) = true by unfold aIn; exact decide_eq_true (by omega)] at hi
  have eb : ((n : Int) == 0) = false := by simp; omega
  have hw64 : wrap64 ((at' : Int) + (n : Int)) = ((at' + n : Nat) : Int) := by unfold wrap64; omega
  have h1 : (at' : Int) ≤ ((at' + n : Nat) : Int) := by omega
  have h2 : ((at' + n : Nat) : Int) ≤ (len : Int) := by omega
  go_enter Try.func36, Try.ntmps36
  go_wp2_with (go_at_call 28; refine hi.mono ?_; rintro e w' ⟨rfl, rfl⟩)
  go_ret
  exact ⟨by simp, rfl⟩

theorem missing_yes (W : World) (v : Value) : (Instr.typeAssert (.iface 88 v) 20 88 true).run Try.prog W = .ok (.tuple #[v, .bool true]) W := by kernel_rfl
theorem iface_nil_no (W : World) (T : TypeId) (v : Value) : (binOp .eql 20 (.iface T v) .nilIface).run Try.prog W = .ok (.bool false) W := by kernel_rfl
theorem nil_iface_yes (W : World) : (binOp .eql 20 .nilIface .nilIface).run Try.prog W = .ok (.bool true) W := by kernel_rfl

theorem code_told_nil (w : World) :
    Calls Try.prog 35 #[.nilIface] w fun e w' => e = .returned (.int .i64 0) ∧ w = w' := by
  have q := nil_iface_yes
  go_enter Try.func35, Try.ntmps35
  go_wp2
  go_ret
  exact ⟨rfl, rfl⟩

theorem code_told (w : World) :
    Calls Try.prog 35 #[.iface 88 (.agg #[])] w fun e w' => e = .returned (.int .i64 2) ∧ w' = w.alloc (.cells #[] 88) := by
  have q := fun W => iface_nil_no W 88 (.agg #[])
  have qa := fun W => missing_yes W (.agg #[])
  go_enter Try.func35, Try.ntmps35
  go_wp2
  go_ret
  exact ⟨rfl, rfl⟩

theorem catch_store (p : Addr) (x : Int) (w : World) (hb : p.block < w.heap.size) (hc : w.cell? p = some (.int .i64 x)) (hz : w.frozen? p = false) :
    CallsD Try.prog 34 #[.pointer (some p)] (.panicking [gone]) w fun e u' w' =>
      e = .returned (.tuple #[]) ∧ u' = .panicking [{ gone with recovered := true }] ∧ w' = (w.alloc (.cells #[] 88)).setCell p (.int .i64 2) := by
  have hz' : (w.alloc (.cells #[] 88)).frozen? p = false := by rw [((Below.refl w.heap.size w).alloc (Nat.le_refl _) _).frozen hb]; exact hz
  have hc' : (w.alloc (.cells #[] 88)).cell? p = some (.int .i64 x) := by rw [World.cell?_alloc_lt _ _ _ hb]; exact hc
  refine callsD_of_wpS Try.func34 rfl fun c₀ cs' hu => ?_
  change Code.wpS _ _ _ { tmps := #[.pointer (some p), undef, undef], defers := [] } _ _
  unfold gone at hu
  apply wpS_region
  simp [wpOpsS, go_sem, recoverD, hu]
  refine (code_told _).mono ?_
  rintro e w' ⟨rfl, rfl⟩
  simp [go_sem, hz', hc', bodyPostS, results, Try.results34, gone]

theorem idle_store (p : Addr) (x : Int) (w : World) (hc : w.cell? p = some (.int .i64 x)) (hz : w.frozen? p = false) :
    CallsD Try.prog 34 #[.pointer (some p)] .returning w fun e u' w' => e = .returned (.tuple #[]) ∧ u' = .returning ∧ w' = w.setCell p (.int .i64 0) := by
  refine callsD_of_wpS Try.func34 rfl fun c₀ cs' hu => ?_
  change Code.wpS _ _ _ { tmps := #[.pointer (some p), undef, undef], defers := [] } _ _
  apply wpS_region
  simp [wpOpsS, go_sem, recoverD, hu]
  refine (code_told_nil _).mono ?_
  rintro e w' ⟨rfl, rfl⟩
  simp [go_sem, hz, hc, bodyPostS, results, Try.results34]
  cases c₀
  simp_all

theorem catch_zero (p : Addr) (x : Int) (w : World) (hb : p.block < w.heap.size) (hc : w.cell? p = some (.int .i64 x)) (hz : w.frozen? p = false) :
    CallsD Try.prog 48 #[.pointer (some p)] (.panicking [gone]) w fun e u' w' =>
      e = .returned (.tuple #[]) ∧ u' = .panicking [{ gone with recovered := true }] ∧ w' = (w.alloc (.cells #[] 88)).setCell p (.int .i64 2) := by
  have hz' : (w.alloc (.cells #[] 88)).frozen? p = false := by rw [((Below.refl w.heap.size w).alloc (Nat.le_refl _) _).frozen hb]; exact hz
  have hc' : (w.alloc (.cells #[] 88)).cell? p = some (.int .i64 x) := by rw [World.cell?_alloc_lt _ _ _ hb]; exact hc
  refine callsD_of_wpS Try.func48 rfl fun c₀ cs' hu => ?_
  change Code.wpS _ _ _ { tmps := #[.pointer (some p), undef, undef], defers := [] } _ _
  unfold gone at hu
  apply wpS_region
  simp [wpOpsS, go_sem, recoverD, hu]
  refine (code_told _).mono ?_
  rintro e w' ⟨rfl, rfl⟩
  simp [go_sem, hz', hc', bodyPostS, results, Try.results48, gone]

theorem idle_zero (p : Addr) (x : Int) (w : World) (hc : w.cell? p = some (.int .i64 x)) (hz : w.frozen? p = false) :
    CallsD Try.prog 48 #[.pointer (some p)] .returning w fun e u' w' => e = .returned (.tuple #[]) ∧ u' = .returning ∧ w' = w.setCell p (.int .i64 0) := by
  refine callsD_of_wpS Try.func48 rfl fun c₀ cs' hu => ?_
  change Code.wpS _ _ _ { tmps := #[.pointer (some p), undef, undef], defers := [] } _ _
  apply wpS_region
  simp [wpOpsS, go_sem, recoverD, hu]
  refine (code_told_nil _).mono ?_
  rintro e w' ⟨rfl, rfl⟩
  simp [go_sem, hz, hc, bodyPostS, results, Try.results48]
  cases c₀
  simp_all

theorem catch_load (p : Addr) (x : Int) (w : World) (hb : p.block < w.heap.size) (hc : w.cell? p = some (.int .i64 x)) (hz : w.frozen? p = false) :
    CallsD Try.prog 42 #[.pointer (some p)] (.panicking [gone]) w fun e u' w' =>
      e = .returned (.tuple #[]) ∧ u' = .panicking [{ gone with recovered := true }] ∧ w' = (w.alloc (.cells #[] 88)).setCell p (.int .i64 2) := by
  have hz' : (w.alloc (.cells #[] 88)).frozen? p = false := by rw [((Below.refl w.heap.size w).alloc (Nat.le_refl _) _).frozen hb]; exact hz
  have hc' : (w.alloc (.cells #[] 88)).cell? p = some (.int .i64 x) := by rw [World.cell?_alloc_lt _ _ _ hb]; exact hc
  refine callsD_of_wpS Try.func42 rfl fun c₀ cs' hu => ?_
  change Code.wpS _ _ _ { tmps := #[.pointer (some p), undef, undef], defers := [] } _ _
  unfold gone at hu
  apply wpS_region
  simp [wpOpsS, go_sem, recoverD, hu]
  refine (code_told _).mono ?_
  rintro e w' ⟨rfl, rfl⟩
  simp [go_sem, hz', hc', bodyPostS, results, Try.results42, gone]

theorem idle_load (p : Addr) (x : Int) (w : World) (hc : w.cell? p = some (.int .i64 x)) (hz : w.frozen? p = false) :
    CallsD Try.prog 42 #[.pointer (some p)] .returning w fun e u' w' => e = .returned (.tuple #[]) ∧ u' = .returning ∧ w' = w.setCell p (.int .i64 0) := by
  refine callsD_of_wpS Try.func42 rfl fun c₀ cs' hu => ?_
  change Code.wpS _ _ _ { tmps := #[.pointer (some p), undef, undef], defers := [] } _ _
  apply wpS_region
  simp [wpOpsS, go_sem, recoverD, hu]
  refine (code_told_nil _).mono ?_
  rintro e w' ⟨rfl, rfl⟩
  simp [go_sem, hz, hc, bodyPostS, results, Try.results42]
  cases c₀
  simp_all

theorem catch_row (p : Addr) (x : Int) (w : World) (hb : p.block < w.heap.size) (hc : w.cell? p = some (.int .i64 x)) (hz : w.frozen? p = false) :
    CallsD Try.prog 40 #[.pointer (some p)] (.panicking [gone]) w fun e u' w' =>
      e = .returned (.tuple #[]) ∧ u' = .panicking [{ gone with recovered := true }] ∧ w' = (w.alloc (.cells #[] 88)).setCell p (.int .i64 2) := by
  have hz' : (w.alloc (.cells #[] 88)).frozen? p = false := by rw [((Below.refl w.heap.size w).alloc (Nat.le_refl _) _).frozen hb]; exact hz
  have hc' : (w.alloc (.cells #[] 88)).cell? p = some (.int .i64 x) := by rw [World.cell?_alloc_lt _ _ _ hb]; exact hc
  refine callsD_of_wpS Try.func40 rfl fun c₀ cs' hu => ?_
  change Code.wpS _ _ _ { tmps := #[.pointer (some p), undef, undef], defers := [] } _ _
  unfold gone at hu
  apply wpS_region
  simp [wpOpsS, go_sem, recoverD, hu]
  refine (code_told _).mono ?_
  rintro e w' ⟨rfl, rfl⟩
  simp [go_sem, hz', hc', bodyPostS, results, Try.results40, gone]

theorem idle_row (p : Addr) (x : Int) (w : World) (hc : w.cell? p = some (.int .i64 x)) (hz : w.frozen? p = false) :
    CallsD Try.prog 40 #[.pointer (some p)] .returning w fun e u' w' => e = .returned (.tuple #[]) ∧ u' = .returning ∧ w' = w.setCell p (.int .i64 0) := by
  refine callsD_of_wpS Try.func40 rfl fun c₀ cs' hu => ?_
  change Code.wpS _ _ _ { tmps := #[.pointer (some p), undef, undef], defers := [] } _ _
  apply wpS_region
  simp [wpOpsS, go_sem, recoverD, hu]
  refine (code_told_nil _).mono ?_
  rintro e w' ⟨rfl, rfl⟩
  simp [go_sem, hz, hc, bodyPostS, results, Try.results40]
  cases c₀
  simp_all

end Go.Proofs.Ytcngcibiibchiaa
