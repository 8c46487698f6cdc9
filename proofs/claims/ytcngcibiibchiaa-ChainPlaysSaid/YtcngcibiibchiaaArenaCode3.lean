/- What Store and Row of layer 4 (arena) return. -/
import Derived.Test.YtcngcibiibchiaaArenaCode2
namespace Go.Proofs.Ytcngcibiibchiaa
open Go.RowKit
set_option linter.unusedVariables false

/-- copy of words into a row of words. -/
theorem wpList_copy_words {P : Program} {w : World} {ops : Array Oper} {rest : List Oper} {o : Oper} {a : Act} {Q : Exit → Act → World → Prop} (hgd : o.guard = none) (d s : Operand) (dT sT : TypeId)
    (ho : o.op = .call { callee := .builtin .copy, args := #[d, s], argTypes := #[dT, sT] }) (elem : TypeId) (hu : P.underlying dT = some (.slice elem)) (hsz : (P.info? elem).map (·.size) = some 1)
    (g off n dCap : Nat) (A : Option Addr) (sCap : Nat) (hd : a.eval d = .slice (some ⟨g, off, none⟩) n dCap) (hs : a.eval s = .slice A n sCap)
    (xs ys : List Nat) (t : TypeId) (hg : w.heap[g]? = some (.cells (xs.map wv).toArray t (0, 0))) (B : Nat) (hsl : Sl w B A n (ys.map wv)) (hn : 0 < n) (hfit : off + n ≤ xs.length)
    (h : ∀ w2, Hid (w2 = w.setRow g ((aStore xs off ys).map wv).toArray) → wpList P ops Q rest (a.put o.dst (goInt n)) w2) : wpList P ops Q (o :: rest) a w := by
  have hl : ys.length = n := by have := hsl.1; simpa using this
  obtain ⟨b, off2, rfl, hb, hcells⟩ := hsl.2 hn
  refine wpList_copy_own hgd d s dT sT ho elem hu hsz g off n dCap ⟨b, off2, none⟩ n sCap hd hs _ t hg (ys.map wv) (by rw [List.length_map, hl]; exact (Nat.min_self n).symm) ?_ (by simp; omega) ?_ ?_
  · intro j v hj
    have hjn : j < n := by have := (List.getElem?_eq_some_iff.1 hj).1; rw [List.length_map] at this; omega
    rw [Go.WideShapes.add_plain, hcells j hjn]; exact hj
  · intro v hv
    obtain ⟨x, _, rfl⟩ := List.mem_map.1 hv; rfl
  · have := h _ (show Hid (_ = _) from rfl)
    rw [List.length_map, hl]
    unfold aStore at this
    simpa [hl] using this

/-- The cell of a result that a call defers to. -/
def eCell (w : World) : World := w.alloc (.cells #[.int .i64 0] 27)

theorem eCell_cell {w w1 : World} (hb : Below (eCell w).heap.size (eCell w) w1) : w1.cell? ⟨w.heap.size, 0, none⟩ = some (.int .i64 0) := by
  unfold eCell at hb; rw [hb.cell (by simp)]; simp
theorem eCell_free {w w1 : World} (hb : Below (eCell w).heap.size (eCell w) w1) : w1.frozen? ⟨w.heap.size, 0, none⟩ = false := by
  unfold eCell at hb; rw [hb.frozen (by simp)]; simp [go_sem]
theorem eCell_size (w : World) : (eCell w).heap.size = w.heap.size + 1 := by unfold eCell; simp

/-- The end of a call that has written a row of words. -/
theorem end_row {w w2 : World} {B p g len : Nat} {xs ys : List Nat} (ha : Ar w B p g len xs) (hw2 : w2 = (eCell w).setRow g (ys.map wv).toArray) (hy : ys.length = len) :
    w2.cell? ⟨w.heap.size, 0, none⟩ = some (.int .i64 0) ∧ w2.frozen? ⟨w.heap.size, 0, none⟩ = false ∧
      Ar ((w2.setCell ⟨w.heap.size, 0, none⟩ (.int .i64 0)).setCell ⟨w.heap.size, 0, none⟩ (.int .i64 0)) B p g len ys ∧ w.grownBy ((w2.setCell ⟨w.heap.size, 0, none⟩ (.int .i64 0)).setCell ⟨w.heap.size, 0, none⟩ (.int .i64 0)) (some g) := by
  have hg := ha.lt
  have hp := ha.ltp
  subst hw2
  have hk : ((eCell w).setRow g (ys.map wv).toArray).heap[w.heap.size]? = (eCell w).heap[w.heap.size]? := setRow_other _ _ _ _ (by omega)
  refine ⟨?_, ?_, ?_, ?_⟩
  · rw [World.cell?_of_block (w := eCell w) (a := ⟨w.heap.size, 0, none⟩) hk]; exact eCell_cell (Below.refl _ _)
  · rw [World.frozen?_of_block (w := eCell w) (a := ⟨w.heap.size, 0, none⟩) hk]; exact eCell_free (Below.refl _ _)
  · exact (((ha.alloc _).setRow hy).setCell (by show w.heap.size ≠ p; omega) (by show w.heap.size ≠ g; omega) _).setCell (by show w.heap.size ≠ p; omega) (by show w.heap.size ≠ g; omega) _
  · exact grown_setCell (grown_setCell (grown_setRow (World.grownBy_alloc _ _ _) _) (Nat.le_refl _) _) (Nat.le_refl _) _

/-- row, wherever words are there. -/
theorem code_arow_any {p g len : Nat} {xs : List Nat} (at' n : Nat) {w : World} {B : Nat} (ha : Ar w B p g len xs) (hin : at' + n ≤ len) :
    ∃ A c, (Calls Try.prog 36 #[.pointer (some ⟨p, 0, none⟩), .int .i64 (at' : Int), .int .i64 (n : Int)] w fun e w' => e = .returned (.slice A n c) ∧ w = w') ∧
      (A = none → c = 0) ∧ Sl w w.heap.size A n ((aRow xs at' n).map wv) ∧ (0 < n → A = some ⟨g, at', none⟩) := by
  have hl := ha.hlen
  have hsm := ha.small
  have hlen := aRow_length xs at' n (by omega)
  by_cases h0 : n = 0
  · subst h0
    exact ⟨none, 0, code_arow_none_of _ len at' _ (code_ain ha _ _ (by unfold in64; omega) (by unfold in64; omega)) (by unfold aIn; exact decide_eq_true (by omega)), fun _ => rfl, by rw [aRow_zero]; exact Sl.nil_, fun h => absurd h (by omega)⟩
  · refine ⟨_, _, code_arow p g len at' n _ ha.cell hsm (by omega) hin, (fun h => by cases h), ⟨by rw [List.length_map]; exact hlen, fun _ => ⟨g, at', rfl, ha.lt, fun j hj => ?_⟩⟩, fun _ => rfl⟩
    rw [ha.word, List.getElem?_map, List.getElem?_map]
    unfold aRow
    rw [List.getElem?_take_of_lt hj, List.getElem?_drop]

theorem code_arow_no (v : Value) (len : Nat) (at' n : Int) (w : World) (hl : len ≤ 65536)
    (hw : Calls Try.prog 44 #[v] (eCell w) fun e w' => e = .returned (.int .i64 (len : Int)) ∧ eCell w = w')
    (h0 : in64 at') (h1 : in64 n) (hno : aIn len at' n = false) :
    Calls Try.prog 21 #[v, .int .i64 at', .int .i64 n] w (OwnWNo w [] 2) := by
  have cr := code_arow_no_of v len at' n _ (code_ain_of v len at' n _ hl hw h0 h1) hno
  unfold eCell at cr
  clear hw hno h0 h1
  go_enter_defers Try.func21, Try.ntmps21
  go_wp2_with (go_at_call 36; refine cr.mono ?_; rintro e w' ⟨rfl, rfl⟩)
  refine leaves_cons (f := 40) (args := #[.pointer (some ⟨w.heap.size, 0, none⟩)]) (by simp) (by simp [go_sem]) ?_
  refine (catch_row ⟨w.heap.size, 0, none⟩ 0 _ (by simp) (by simp) (by simp [go_sem])).mono ?_
  rintro e u' w'' ⟨rfl, rfl, rfl⟩
  simp [Leaves, settle, results, Try.results21, go_sem]
  exact ⟨none, 0, rfl, World.ownsRow_nil _ _ _ _, ((Below.refl _ _).alloc (Nat.le_refl _) _).alloc (by simp) _⟩

theorem code_astore_no (v : Value) (len : Nat) (at' : Int) (A : Option Addr) (n c : Nat) (w : World) (hl : len ≤ 65536) (hn : n ≤ 9223372036854775807)
    (hw : Calls Try.prog 44 #[v] (eCell w) fun e w' => e = .returned (.int .i64 (len : Int)) ∧ eCell w = w')
    (h0 : in64 at') (hno : aIn len at' (n : Int) = false) :
    Calls Try.prog 16 #[v, .int .i64 at', .slice A n c] w fun e w' => e = .returned (.int .i64 2) ∧ Below w.heap.size w w' := by
  have cr := code_arow_no_of v len at' n _ (code_ain_of v len at' n _ hl hw h0 (by unfold in64; omega)) hno
  unfold eCell at cr
  clear hw hno h0
  go_enter_defers Try.func16, Try.ntmps16
  go_wp2_with (go_at_call 36; refine cr.mono ?_; rintro e w' ⟨rfl, rfl⟩)
  refine leaves_cons (f := 34) (args := #[.pointer (some ⟨w.heap.size, 0, none⟩)]) (by simp) (by simp [go_sem]) ?_
  refine (catch_store ⟨w.heap.size, 0, none⟩ 0 _ (by simp) (by simp) (by simp [go_sem])).mono ?_
  rintro e u' w'' ⟨rfl, rfl, rfl⟩
  simp [Leaves, settle, results, Try.results16, go_sem]
  exact ((Below.refl _ _).alloc (Nat.le_refl _) _).alloc (by simp) _

theorem code_astore_none (v : Value) (len : Nat) (at' : Int) (A : Option Addr) (c : Nat) (w : World) (hl : len ≤ 65536)
    (hw : Calls Try.prog 44 #[v] (eCell w) fun e w' => e = .returned (.int .i64 (len : Int)) ∧ eCell w = w')
    (h0 : in64 at') (hin : aIn len at' 0 = true) :
    Calls Try.prog 16 #[v, .int .i64 at', .slice A 0 c] w fun e w' => e = .returned (.int .i64 0) ∧ Below w.heap.size w w' := by
  have cr := code_arow_none_of v len at' _ (code_ain_of v len at' 0 _ hl hw h0 (by unfold in64; omega)) hin
  unfold eCell at cr
  clear hw hin h0
  have hu := Try.underlying30
  have hsz : (Try.prog.info? 31).map (·.size) = some 1 := by kernel_rfl
  go_enter_defers Try.func16, Try.ntmps16
  go_wp2_with (first
    | (go_at_call 36; refine cr.mono ?_; rintro e w' ⟨rfl, rfl⟩)
    | (refine wpList_copy_nothing rfl (.tmp 12) (.tmp 13) 30 30 rfl 31 hu hsz none A 0 0 0 c rfl rfl rfl ?_))
  refine leaves_cons (f := 34) (args := #[.pointer (some ⟨w.heap.size, 0, none⟩)]) (by simp) (by simp [go_sem]) ?_
  refine (idle_store ⟨w.heap.size, 0, none⟩ 0 _ (by simp) (by simp [go_sem])).mono ?_
  rintro e u' w'' ⟨rfl, rfl, rfl⟩
  simp [Leaves, settle, results, Try.results16, go_sem]
  exact (Below.refl _ _).alloc (Nat.le_refl _) _

theorem code_astore {p g len : Nat} {xs ys : List Nat} (at' : Nat) (A : Option Addr) (n c : Nat) {w : World} {B : Nat} (ha : Ar w B p g len xs) (hs : Sl w w.heap.size A n (ys.map wv)) (hin : at' + n ≤ len) :
    Calls Try.prog 16 #[.pointer (some ⟨p, 0, none⟩), .int .i64 (at' : Int), .slice A n c] w fun e w' => e = .returned (.int .i64 0) ∧ Ar w' B p g len (aStore xs at' ys) ∧ w.grownBy w' (some g) := by
  have hl := ha.hlen
  have hly : ys.length = n := by have := hs.1; simpa using this
  have hsm := ha.small
  by_cases h0 : n = 0
  · subst h0
    obtain rfl : ys = [] := List.eq_nil_of_length_eq_zero hly
    refine (code_astore_none _ len at' A c w hsm (code_awords p _ _ _ _ (ha.alloc _).cell) (by unfold in64; omega) (by unfold aIn; exact decide_eq_true (by omega))).mono ?_
    rintro e w' ⟨rfl, hb⟩
    exact ⟨rfl, by rw [aStore_nil]; exact ha.below hb (Nat.le_refl _), below_to_grown hb _⟩
  · have h1 := ha.alloc (.cells #[.int .i64 0] 27)
    have cr := code_arow p g len at' n _ h1.cell hsm (by omega) hin
    have hsl := (hs.alloc (Nat.le_refl _) (.cells #[.int .i64 0] 27)).more (B' := w.heap.size + 1) (by omega)
    have hu := Try.underlying30
    have hsz : (Try.prog.info? 31).map (·.size) = some 1 := by kernel_rfl
    have hpl := ha.ltp
    have hgl := ha.lt
    have H1 := hidb h1
    have HS := hidb hsl
    have hg := h1.heap
    have HE : ∀ w2, Hid (w2 = (w.alloc (.cells #[.int .i64 0] 27)).setRow g ((aStore xs at' ys).map wv).toArray) → _ := fun w2 h => end_row ha (ys := aStore xs at' ys) h.out (by rw [aStore_length _ _ _ (by omega)]; exact hl)
    clear hs h1 hsl
    have HG := hidb hg; clear hg
    go_enter_defers Try.func16, Try.ntmps16
    go_wp2_with (first
      | (go_at_call 36; refine cr.mono ?_; rintro e w' ⟨rfl, rfl⟩)
      | (refine wpList_copy_words rfl (.tmp 12) (.tmp 13) 30 30 rfl 31 hu hsz g at' n (len - at') A c rfl rfl xs ys _ HG.out _ HS.out (by omega) (by omega) ?_; intro w2 hw2; obtain ⟨hce, hfe, HA, HGR⟩ := HE w2 hw2))
    refine leaves_cons (f := 34) (args := #[.pointer (some ⟨w.heap.size, 0, none⟩)]) (by simp) (by simp [go_sem]) ?_
    refine (idle_store ⟨w.heap.size, 0, none⟩ 0 _ (World.cell?_setCell_same _ _ _ hce) (by simp [hfe])).mono ?_
    rintro e u' w'' ⟨rfl, rfl, rfl⟩
    have hc2 := World.cell?_setCell_same (w2.setCell ⟨w.heap.size, 0, none⟩ (.int .i64 0)) ⟨w.heap.size, 0, none⟩ (.int .i64 0) (World.cell?_setCell_same _ _ (.int .i64 0) hce)
    simp [Leaves, settle, results, Try.results16, go_sem, hc2]
    exact ⟨HA, HGR⟩

/-- clear of a part of a row of words. -/
theorem run_clear_row {P : Program} (w : World) (t e ty : TypeId) (ht : P.underlying t = some (.slice e)) (hv : ∀ w, (zeroValue e).run P w = .ok (.int .u64 0) w) (g o n c : Nat) (xs : List Nat) (u : TypeId) (hn : 0 < n)
    (hg : w.heap[g]? = some (.cells (xs.map wv).toArray u (0, 0))) (hfit : o + n ≤ xs.length) :
    (Builtin.clear_ #[t] ty #[.slice (some ⟨g, o, none⟩) n c]).run P w = .ok (.tuple #[]) (w.setRow g ((aStore xs o (List.replicate n 0)).map wv).toArray) := by
  have hzc : (Builtin.zeroCells (Value.int .u64 0).cells n).toList = (List.replicate n 0).map wv := by
    simp [Builtin.zeroCells, Value.cells, wv]
    apply List.ext_getElem
    · simp
    · intro i h1 h2
      simp [Nat.mod_one]
  have hst := run_storeCells_at P g o u ((List.replicate n 0).map wv) 0 _ w hg (by simp; omega) (by intro v hv'; obtain ⟨x, _, rfl⟩ := List.mem_map.1 hv'; rfl)
  simp only [Nat.add_zero] at hst
  obtain ⟨m, rfl⟩ : ∃ m, n = m + 1 := ⟨n - 1, by omega⟩
  have he : (List.take o (xs.map wv).toArray.toList ++ (List.replicate (m + 1) 0).map wv ++ List.drop (o + ((List.replicate (m + 1) 0).map wv).length) (xs.map wv).toArray.toList).toArray = ((aStore xs o (List.replicate (m + 1) 0)).map wv).toArray := by
    unfold aStore
    simp
  rw [he] at hst
  rw [show (List.replicate (m + 1) 0).map wv = List.replicate (m + 1) (wv 0) by simp] at hst
  simp [Builtin.clear_, run_underlying ht, hv, hzc]
  rw [hst]
  rfl

end Go.Proofs.Ytcngcibiibchiaa
