/- What Move and Zero of layer 4 (arena), Page and Base return. -/
import Derived.Test.YtcngcibiibchiaaArenaCode3
namespace Go.Proofs.Ytcngcibiibchiaa
open Go.RowKit
set_option linter.unusedVariables false

/-- clear of a part of a row of words, in a walk. -/
theorem wpList_clear_words {P : Program} {w : World} {ops : Array Oper} {rest : List Oper} {o : Oper} {a : Act} {Q : Exit → Act → World → Prop} (hgd : o.guard = none) (d : Operand) (t : TypeId)
    (ho : o.op = .call { callee := .builtin .clear, args := #[d], argTypes := #[t] }) (e : TypeId) (ht : P.underlying t = some (.slice e)) (hv : ∀ w, (zeroValue e).run P w = .ok (.int .u64 0) w)
    (g off n c : Nat) (hd : a.eval d = .slice (some ⟨g, off, none⟩) n c) (xs : List Nat) (u : TypeId) (hg : w.heap[g]? = some (.cells (xs.map wv).toArray u (0, 0))) (hn : 0 < n) (hfit : off + n ≤ xs.length)
    (h : ∀ w2, Hid (w2 = w.setRow g ((aStore xs off (List.replicate n 0)).map wv).toArray) → wpList P ops Q rest (a.put o.dst (.tuple #[])) w2) : wpList P ops Q (o :: rest) a w := by
  refine wpList_plain hgd fun K hK => ?_
  have hrun := run_clear_row (P := P) w t e o.type ht hv g off n c xs u hn hg hfit
  unfold Oper.wp
  simp [execOp, ho, resolve, invoke, builtin, hd, hrun, Result.andThen]
  exact hK _ _ (h _ (show Hid (_ = _) from rfl))

/-- clear of nil. -/
theorem wpList_clear_nil {P : Program} {w : World} {ops : Array Oper} {rest : List Oper} {o : Oper} {a : Act} {Q : Exit → Act → World → Prop} (hgd : o.guard = none) (d : Operand) (t : TypeId)
    (ho : o.op = .call { callee := .builtin .clear, args := #[d], argTypes := #[t] }) (e : TypeId) (ht : P.underlying t = some (.slice e)) (hv : ∀ w, (zeroValue e).run P w = .ok (.int .u64 0) w)
    (hd : a.eval d = .slice none 0 0) (h : wpList P ops Q rest (a.put o.dst (.tuple #[])) w) : wpList P ops Q (o :: rest) a w := by
  refine wpList_plain hgd fun K hK => ?_
  unfold Oper.wp
  simp [execOp, ho, resolve, invoke, builtin, hd, Builtin.clear_, run_underlying ht, Result.andThen]
  exact hK _ _ h

theorem zero_u64 (w : World) : (zeroValue 31).run Try.prog w = .ok (.int .u64 0) w := by kernel_rfl

theorem code_azero_no (v : Value) (len : Nat) (at' n : Int) (w : World) (hl : len ≤ 65536)
    (hw : Calls Try.prog 44 #[v] (eCell w) fun e w' => e = .returned (.int .i64 (len : Int)) ∧ eCell w = w')
    (h0 : in64 at') (h1 : in64 n) (hno : aIn len at' n = false) :
    Calls Try.prog 46 #[v, .int .i64 at', .int .i64 n] w fun e w' => e = .returned (.int .i64 2) ∧ Below w.heap.size w w' := by
  have cr := code_arow_no_of v len at' n _ (code_ain_of v len at' n _ hl hw h0 h1) hno
  unfold eCell at cr
  clear hw hno h0 h1
  go_enter_defers Try.func46, Try.ntmps46
  go_wp2_with (go_at_call 36; refine cr.mono ?_; rintro e w' ⟨rfl, rfl⟩)
  refine leaves_cons (f := 48) (args := #[.pointer (some ⟨w.heap.size, 0, none⟩)]) (by simp) (by simp [go_sem]) ?_
  refine (catch_zero ⟨w.heap.size, 0, none⟩ 0 _ (by simp) (by simp) (by simp [go_sem])).mono ?_
  rintro e u' w'' ⟨rfl, rfl, rfl⟩
  simp [Leaves, settle, results, Try.results46, go_sem]
  exact ((Below.refl _ _).alloc (Nat.le_refl _) _).alloc (by simp) _

theorem code_azero_none (v : Value) (len : Nat) (at' : Int) (w : World) (hl : len ≤ 65536)
    (hw : Calls Try.prog 44 #[v] (eCell w) fun e w' => e = .returned (.int .i64 (len : Int)) ∧ eCell w = w')
    (h0 : in64 at') (hin : aIn len at' 0 = true) :
    Calls Try.prog 46 #[v, .int .i64 at', .int .i64 0] w fun e w' => e = .returned (.int .i64 0) ∧ Below w.heap.size w w' := by
  have cr := code_arow_none_of v len at' _ (code_ain_of v len at' 0 _ hl hw h0 (by unfold in64; omega)) hin
  unfold eCell at cr
  clear hw hin h0
  have hu := Try.underlying30
  go_enter_defers Try.func46, Try.ntmps46
  go_wp2_with (first
    | (go_at_call 36; refine cr.mono ?_; rintro e w' ⟨rfl, rfl⟩)
    | (refine wpList_clear_nil rfl (.tmp 11) 30 rfl 31 hu zero_u64 rfl ?_))
  refine leaves_cons (f := 48) (args := #[.pointer (some ⟨w.heap.size, 0, none⟩)]) (by simp) (by simp [go_sem]) ?_
  refine (idle_zero ⟨w.heap.size, 0, none⟩ 0 _ (by simp) (by simp [go_sem])).mono ?_
  rintro e u' w'' ⟨rfl, rfl, rfl⟩
  simp [Leaves, settle, results, Try.results46, go_sem]
  exact (Below.refl _ _).alloc (Nat.le_refl _) _

theorem code_azero {p g len : Nat} {xs : List Nat} (at' n : Nat) {w : World} {B : Nat} (ha : Ar w B p g len xs) (hin : at' + n ≤ len) :
    Calls Try.prog 46 #[.pointer (some ⟨p, 0, none⟩), .int .i64 (at' : Int), .int .i64 (n : Int)] w fun e w' => e = .returned (.int .i64 0) ∧ Ar w' B p g len (aStore xs at' (List.replicate n 0)) ∧ w.grownBy w' (some g) := by
  have hl := ha.hlen
  have hsm := ha.small
  by_cases h0 : n = 0
  · subst h0
    refine (code_azero_none _ len at' w hsm (code_awords p _ _ _ _ (ha.alloc _).cell) (by unfold in64; omega) (by unfold aIn; exact decide_eq_true (by omega))).mono ?_
    rintro e w' ⟨rfl, hb⟩
    exact ⟨rfl, by rw [show List.replicate 0 0 = ([] : List Nat) from rfl, aStore_nil]; exact ha.below hb (Nat.le_refl _), below_to_grown hb _⟩
  · have h1 := ha.alloc (.cells #[.int .i64 0] 27)
    have cr := code_arow p g len at' n _ h1.cell hsm (by omega) hin
    have hu := Try.underlying30
    have HG := hidb h1.heap
    have HE : ∀ w2, Hid (w2 = (w.alloc (.cells #[.int .i64 0] 27)).setRow g ((aStore xs at' (List.replicate n 0)).map wv).toArray) → _ := fun w2 h => end_row ha (ys := aStore xs at' (List.replicate n 0)) h.out (by rw [aStore_length _ _ _ (by simp; omega)]; exact hl)
    clear h1
    go_enter_defers Try.func46, Try.ntmps46
    go_wp2_with (first
      | (go_at_call 36; refine cr.mono ?_; rintro e w' ⟨rfl, rfl⟩)
      | (refine wpList_clear_words rfl (.tmp 11) 30 rfl 31 hu zero_u64 g at' n (len - at') rfl xs _ HG.out (by omega) (by omega) ?_; intro w2 hw2; obtain ⟨hce, hfe, HA, HGR⟩ := HE w2 hw2))
    refine leaves_cons (f := 48) (args := #[.pointer (some ⟨w.heap.size, 0, none⟩)]) (by simp) (by simp [go_sem]) ?_
    refine (idle_zero ⟨w.heap.size, 0, none⟩ 0 _ (World.cell?_setCell_same _ _ _ hce) (by simp [hfe])).mono ?_
    rintro e u' w'' ⟨rfl, rfl, rfl⟩
    have hc2 := World.cell?_setCell_same (w2.setCell ⟨w.heap.size, 0, none⟩ (.int .i64 0)) ⟨w.heap.size, 0, none⟩ (.int .i64 0) (World.cell?_setCell_same _ _ (.int .i64 0) hce)
    simp [Leaves, settle, results, Try.results46, go_sem, hc2]
    exact ⟨HA, HGR⟩

end Go.Proofs.Ytcngcibiibchiaa
