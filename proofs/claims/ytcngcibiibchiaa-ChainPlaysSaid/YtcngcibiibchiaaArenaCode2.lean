/- What New, Load and Row of layer 4 (arena) return. -/
import Derived.Test.YtcngcibiibchiaaArenaCode
import Derived.Test.YtcngcibiibchiaaClone
namespace Go.Proofs.Ytcngcibiibchiaa
open Go.RowKit
set_option linter.unusedVariables false

theorem code_anew_no (pages : Int) (w : World) (h : pages < 4 ∨ 1024 < pages) :
    Calls Try.prog 8 #[.int .i64 pages] w fun e w' => e = .returned (.tuple #[.pointer none, .int .i64 1]) ∧ w = w' := by
  rcases h with h | h
  · go_enter Try.func8, Try.ntmps8
    go_wp2
    go_ret2
    exact ⟨rfl, rfl⟩
  · have h' : ¬ pages < 4 := by omega
    go_enter Try.func8, Try.ntmps8
    go_wp2
    go_ret2
    exact ⟨rfl, rfl⟩

theorem zero_words (n : Nat) : (madeCells (Value.int .u64 0).cells (n * 1)).toList = (List.replicate n 0).map wv := by
  rw [Nat.mul_one]
  exact (toList_madeCells_one _ n).trans (by simp [wv])

theorem heap_of_own {w : World} {base : Nat} {g n : Nat} {xs : List Nat} (h : w.ownsRow base 31 1 (.slice (some ⟨g, 0, none⟩) n n) n (xs.map wv)) : w.heap[g]? = some (.cells (xs.map wv).toArray 31 (0, 0)) := by
  rcases h.2 with ⟨h1, _⟩ | ⟨g', cap, cur, h1, _, hh, _, _, hs, ht⟩
  · cases h1
  · injection h1 with h2 h3 h4
    injection h2 with h2
    injection h2 with h2
    subst h2 h4
    rw [hh, ← ht, List.take_of_length_le (by simp [hs])]

theorem code_anew (pages : Nat) (w : World) (h0 : 4 ≤ pages) (h1 : pages ≤ 1024) :
    Calls Try.prog 8 #[.int .i64 (pages : Int)] w fun e w' => ∃ p g, e = .returned (.tuple #[.pointer (some ⟨p, 0, none⟩), .int .i64 0]) ∧ Ar w' w.heap.size p g (64 * pages) (List.replicate (64 * pages) 0) ∧ Below w.heap.size w w' := by
  obtain ⟨i0, hi, hz0, hz1, hz2⟩ := info_parts info_u64
  go_enter Try.func8, Try.ntmps8
  go_wp2_with (at_make; refine wpList_make_full w rfl _ _ 30 rfl w.heap.size 31 i0 (.int .u64 0) 1 Try.underlying30 hi hz0 hz1 .i64 .i64 _ _ (64 * pages) rfl rfl (by omega) (by omega) (by rw [hz2]; omega) (by unfold maxLen; omega) (Nat.le_refl _) ?_; intro w1 hown hgrow)
  go_ret2
  rw [zero_words] at hown
  have hlt : w.heap.size < w1.heap.size := (hown.lt w.heap.size rfl).2
  refine ⟨w1.heap.size, w.heap.size, rfl, ⟨by simp, ?_, by simp, by omega, by omega, by omega, by omega⟩, ?_⟩
  · rw [Below.heap_alloc _ _ _ hlt]; exact heap_of_own hown
  exact ((Below.refl _ _).grown hgrow (Nat.le_refl _) (fun k hk => by cases hk)).alloc (by omega) _

/-- In, of an arena. -/
theorem code_ain {w : World} {B p g len : Nat} {xs : List Nat} (ha : Ar w B p g len xs) (at' n : Int) (h0 : in64 at') (h1 : in64 n) :
    Calls Try.prog 28 #[.pointer (some ⟨p, 0, none⟩), .int .i64 at', .int .i64 n] w fun e w' => e = .returned (.bool (aIn len at' n)) ∧ w = w' :=
  code_ain_of _ len at' n w ha.small (code_awords p _ _ _ w ha.cell) h0 h1
theorem code_ain_nil (w : World) (at' n : Int) (h0 : in64 at') (h1 : in64 n) :
    Calls Try.prog 28 #[.pointer none, .int .i64 at', .int .i64 n] w fun e w' => e = .returned (.bool (aIn 0 at' n)) ∧ w = w' :=
  code_ain_of _ 0 at' n w (by omega) (code_awords_nil w) h0 h1

theorem code_aload {p g len : Nat} {xs : List Nat} (at' x : Nat) {w : World} {B : Nat} (ha : Ar w B p g len xs) (hx : xs[at']? = some x) :
    Calls Try.prog 24 #[.pointer (some ⟨p, 0, none⟩), .int .i64 (at' : Int)] w fun e w' => e = .returned (.tuple #[.int .u64 (x : Int), .int .i64 0]) ∧ Below w.heap.size w w' := by
  have hl := ha.hlen
  have hat : at' < len := by have := (List.getElem?_eq_some_iff.1 hx).1; omega
  have hgl := ha.lt
  have hpl := ha.ltp
  have hcx : w.cell? ⟨g, at', none⟩ = some (.int .u64 (x : Int)) := by
    rw [ha.word, List.getElem?_map, hx]; rfl
  have hsm := ha.small
  have hcx' : (w.alloc (.cells #[.int .i64 0] 27)).cell? ⟨g, at', none⟩ = some (.int .u64 (x : Int)) := by rw [World.cell?_alloc_lt w _ _ hgl]; exact hcx
  have cr := code_arow p g len at' 1 (w.alloc (.cells #[.int .i64 0] 27)) (by rw [World.cell?_alloc_lt w _ _ hpl]; exact ha.cell) hsm (by omega) (by omega)
  clear ha hx hl hcx hsm
  go_enter_defers Try.func24, Try.ntmps24
  go_wp2_with (go_at_call 36; refine cr.mono ?_; rintro e w' ⟨rfl, rfl⟩)
  refine leaves_cons (f := 42) (args := #[.pointer (some ⟨w.heap.size, 0, none⟩)]) (by simp) (by simp [go_sem]) ?_
  refine (idle_load ⟨w.heap.size, 0, none⟩ 0 _ (by simp) (by simp [go_sem])).mono ?_
  rintro e u' w'' ⟨rfl, rfl, rfl⟩
  simp [Leaves, settle, results, Try.results24, go_sem]
  exact (Below.refl _ _).alloc (Nat.le_refl _) _

theorem code_aload_no (v : Value) (len : Nat) (at' : Int) (w : World) (hl : len ≤ 65536)
    (hw : Calls Try.prog 44 #[v] (w.alloc (.cells #[.int .i64 0] 27)) fun e w' => e = .returned (.int .i64 (len : Int)) ∧ w.alloc (.cells #[.int .i64 0] 27) = w')
    (h0 : in64 at') (hno : aIn len at' 1 = false) :
    Calls Try.prog 24 #[v, .int .i64 at'] w fun e w' => e = .returned (.tuple #[.int .u64 0, .int .i64 2]) ∧ Below w.heap.size w w' := by
  have cr := code_arow_no_of v len at' 1 _ (code_ain_of v len at' 1 _ hl hw h0 (by unfold in64; omega)) hno
  clear hw hno h0
  go_enter_defers Try.func24, Try.ntmps24
  go_wp2_with (go_at_call 36; refine cr.mono ?_; rintro e w' ⟨rfl, rfl⟩)
  refine leaves_cons (f := 42) (args := #[.pointer (some ⟨w.heap.size, 0, none⟩)]) (by simp) (by simp [go_sem]) ?_
  refine (catch_load ⟨w.heap.size, 0, none⟩ 0 _ (by simp) (by simp) (by simp [go_sem])).mono ?_
  rintro e u' w'' ⟨rfl, rfl, rfl⟩
  simp [Leaves, settle, results, Try.results24, go_sem]
  exact ((Below.refl _ _).alloc (Nat.le_refl _) _).alloc (by simp) _

theorem code_arow_ok {p g len : Nat} {xs : List Nat} (at' n : Nat) {w : World} {B : Nat} (ha : Ar w B p g len xs) (hin : at' + n ≤ len) :
    Calls Try.prog 21 #[.pointer (some ⟨p, 0, none⟩), .int .i64 (at' : Int), .int .i64 (n : Int)] w (OwnWNo w (aRow xs at' n) 0) := by
  have hl := ha.hlen
  have hsm := ha.small
  have h1 := ha.alloc (.cells #[.int .i64 0] 27)
  have hlen := aRow_length xs at' n (by omega)
  have R : ∃ A c, (Calls Try.prog 36 #[.pointer (some ⟨p, 0, none⟩), .int .i64 (at' : Int), .int .i64 (n : Int)] (w.alloc (.cells #[.int .i64 0] 27)) fun e w' => e = .returned (.slice A n c) ∧ w.alloc (.cells #[.int .i64 0] 27) = w') ∧
      (A = none → c = 0) ∧ Sl (w.alloc (.cells #[.int .i64 0] 27)) (w.alloc (.cells #[.int .i64 0] 27)).heap.size A n ((aRow xs at' n).map wv) := by
    by_cases h0 : n = 0
    · subst h0
      exact ⟨none, 0, code_arow_none_of _ len at' _ (code_ain h1 _ _ (by unfold in64; omega) (by unfold in64; omega)) (by unfold aIn; exact decide_eq_true (by omega)), fun _ => rfl, by rw [aRow_zero]; exact Sl.nil_⟩
    · refine ⟨_, _, code_arow p g len at' n _ h1.cell hsm (by omega) hin, (fun h => by cases h), by rw [List.length_map]; exact hlen, fun _ => ⟨g, at', rfl, h1.lt, fun j hj => ?_⟩⟩
      rw [h1.word, List.getElem?_map, List.getElem?_map]
      unfold aRow
      rw [List.getElem?_take_of_lt hj, List.getElem?_drop]
  obtain ⟨A, c, cr, hA, hsl⟩ := R
  have hce0 : ∀ w1, Below (w.alloc (.cells #[.int .i64 0] 27)).heap.size (w.alloc (.cells #[.int .i64 0] 27)) w1 → w1.cell? ⟨w.heap.size, 0, none⟩ = some (.int .i64 0) := fun w1 hb => by rw [hb.cell (by simp)]; simp
  have hfe0 : ∀ w1, Below (w.alloc (.cells #[.int .i64 0] 27)).heap.size (w.alloc (.cells #[.int .i64 0] 27)) w1 → w1.frozen? ⟨w.heap.size, 0, none⟩ = false := fun w1 hb => by rw [hb.frozen (by simp)]; simp [go_sem]
  have cc := code_wclone A n c (aRow xs at' n) _ hsl (by omega) hA
  have HL := hidb hlen
  clear ha hl hsl h1 hA hlen
  go_enter_defers Try.func21, Try.ntmps21
  go_wp2_with (first
    | (go_at_call 36; refine cr.mono ?_; rintro e w' ⟨rfl, rfl⟩)
    | (go_at_call 41; refine cc.mono ?_; rintro e w1 ⟨A1, c1, rfl, hown, hb⟩; have hce := hce0 w1 hb; have hfe := hfe0 w1 hb))
  refine leaves_cons (f := 40) (args := #[.pointer (some ⟨w.heap.size, 0, none⟩)]) (by simp) (by simp [go_sem]) ?_
  have hsz := hb.size
  refine (idle_row ⟨w.heap.size, 0, none⟩ 0 _ (World.cell?_setCell_same _ _ _ hce) (by simp [hfe])).mono ?_
  rintro e u' w'' ⟨rfl, rfl, rfl⟩
  have hc2 := World.cell?_setCell_same (w1.setCell ⟨w.heap.size, 0, none⟩ (.int .i64 0)) ⟨w.heap.size, 0, none⟩ (.int .i64 0) (World.cell?_setCell_same _ _ (.int .i64 0) hce)
  simp [Leaves, settle, results, Try.results21, go_sem, hc2]
  have hown2 := ownsRow_setCell_below (ownsRow_setCell_below hown (a := ⟨w.heap.size, 0, none⟩) (by simp) (.int .i64 0)) (a := ⟨w.heap.size, 0, none⟩) (by simp) (.int .i64 0)
  refine ⟨A1, c1, by first | rfl | rw [HL.out], ⟨hown2.1, ?_⟩, ?_⟩
  · rcases hown2.2 with h | ⟨g, cap, cur, h1, h2, h3⟩
    · exact Or.inl h
    · exact Or.inr ⟨g, cap, cur, h1, by simp at h2; omega, h3⟩
  · refine ((((Below.refl _ _).alloc (Nat.le_refl _) _).trans (hb.mono (by simp))).setCell (Nat.le_refl _) _).setCell (Nat.le_refl _) _

end Go.Proofs.Ytcngcibiibchiaa
