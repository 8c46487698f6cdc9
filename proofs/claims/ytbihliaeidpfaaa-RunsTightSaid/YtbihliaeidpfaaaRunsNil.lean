/- The walk of layer 6's statement on nil free runs. -/
import Derived.Test.YtbihliaeidpfaaaRunsLaws0
import Derived.Test.YtbihliaeidpfaaaRunReads
namespace Go.Proofs.Ytbihliaeidpfaaa
open Go.RowKit
set_option linter.unusedVariables false

/-- A run that came in. -/
theorem read_run_arg {H : Type} {enc : TypeId × Value → H} {W : World} {sp : Nat → Bool} {hd : Bool} {v : Value} {d : DataW H} {ps : List MemPlace} (h : DataW.Trod enc Try.prog W 0 sp hd 34 v d ps) :
    ∃ r : Int × Int, v.cells.toList = [.int .i64 r.1, .int .i64 r.2] ∧ in64 r.1 ∧ in64 r.2 := by
  obtain ⟨fuel, hf⟩ := h
  obtain ⟨r, h1, h2⟩ := read_run fuel _ _ hf
  exact ⟨r, h1, h2⟩

theorem err_eq6 (a b : Int) (W : World) : (binOp .eql 30 (.int .i64 a) (.int .i64 b)).run Try.prog W = .ok (.bool (a == b)) W := by
  simp [go_sem]
theorem fPut_no_range (f : List Bool) (rs : List (Int × Int)) (b : Bool) : (fPut f rs b).2 = 0 ∨ (fPut f rs b).2 = 2 ∨ (fPut f rs b).2 = 9 := by
  unfold fPut
  split
  · unfold freeEnd
    split
    · exact Or.inl rfl
    · exact Or.inr (Or.inr rfl)
  · exact Or.inr (Or.inl rfl)
theorem fPut_two (f : List Bool) (rs : List (Int × Int)) (b : Bool) : (fPut f rs b).2 = 2 ↔ rs.all fMay = false := by
  unfold fPut
  cases h : rs.all fMay with
  | false => simp
  | true =>
    simp only [if_true]
    unfold freeEnd
    split <;> simp

set_option maxRecDepth 100000 in
set_option maxHeartbeats 4000000 in
theorem runsNil_any (s l k : Int) (A : Option Addr) (m d : Nat) (rs : List (Int × Int)) (w : World) (h1 : in64 s ∧ in64 l) (hk : in64 k) (hm : m ≤ maxLen) (hs : Rn w w.heap.size A m rs) (hr : ∀ r ∈ rs, in64 r.1 ∧ in64 r.2) :
    Calls Try.prog 6 #[.agg #[.int .i64 s, .int .i64 l], .int .i64 k, .slice A m d] w fun e w' => e = .returned (.bool true) ∧ Below w.heap.size w w' := by
  have cw := fun W => awake6 W
  unfold maxLen at hm
  obtain ⟨w0, hw0⟩ : ∃ w0, w0 = w.alloc (.cells #[.int .i64 s, .int .i64 l] 34) := ⟨_, rfl⟩
  have hz0 : w0.heap.size = w.heap.size + 1 := by rw [hw0]; simp
  have hb0 : Below w.heap.size w w0 := by rw [hw0]; exact (Below.refl _ _).alloc (Nat.le_refl _) _
  have q0 : w0.cell? ⟨w.heap.size, 0, none⟩ = some (.int .i64 s) := by rw [hw0]; simp
  have q1 : w0.cell? ⟨w.heap.size, 1, none⟩ = some (.int .i64 l) := by rw [hw0]; simp
  have HW0 := hidb hw0
  have HB0 := hidb hb0
  have hzz : w.heap.size ≤ w0.heap.size := by omega
  by_cases g1 : 5 < m
  · clear hw0 hs hr h1 hk q0 q1 hb0 hz0
    go_enter Try.func6, Try.ntmps6
    go_wp2_with (first | (go_at_call 8; rw [← HW0.out]; (with_reducible refine (cw _).mono ?_); rintro e w1 ⟨rfl, hb1⟩))
    go_ret
    exact ⟨rfl, HB0.out.trans (hb1.mono hzz)⟩
  have hl : rs.length = m := hs.1
  have HQ : Hid (∀ W, Below w0.heap.size w0 W → W.cell? ⟨w.heap.size, 0, none⟩ = some (.int .i64 s) ∧ W.cell? ⟨w.heap.size, 1, none⟩ = some (.int .i64 l)) := hidb (fun W hb => by
    rw [hb.cell (p := ⟨w.heap.size, 0, none⟩) (by show w.heap.size < _; omega), hb.cell (p := ⟨w.heap.size, 1, none⟩) (by show w.heap.size < _; omega)]; exact ⟨q0, q1⟩)
  have HS : Hid (∀ W, Below w0.heap.size w0 W → Rn W W.heap.size A m rs) := hidb (fun W hb => by
    have hbw := hb0.trans (hb.mono hzz)
    exact (hs.below hbw).more hbw.size)
  have hall : Below w0.heap.size w0 w0 := Below.refl _ _
  obtain ⟨f0, hf0⟩ : ∃ f0, List.replicate 1024 false = f0 := ⟨_, rfl⟩
  have hl0 : f0.length = 1024 := by rw [← hf0, List.length_replicate]
  obtain ⟨P, hP⟩ : ∃ P, fPut f0 rs true = P := ⟨_, rfl⟩
  have hno := fPut_no_range f0 rs true
  have h2 := fPut_two f0 rs true
  rw [hP] at hno h2
  obtain ⟨F, no⟩ := P
  simp only at hno h2
  have cn := fun W => ref_fnew W
  unfold OwnBools at cn
  simp only [hf0, hl0] at cn
  have cp : ∀ W, Below w0.heap.size w0 W → ∀ A2 c2, Sl W W.heap.size A2 1024 (f0.map bv) → 1024 ≤ c2 → c2 ≤ 9223372036854775807 → Calls Try.prog 9 #[.slice A2 1024 c2, .slice A m d, .bool true] W fun e w' => ∃ A3 c3 n3, e = .returned (.tuple #[.slice A3 n3 c3, .int .i64 no]) ∧ Below w0.heap.size w0 w' := fun W hb A2 c2 h3 h4 h5 => by
    refine (ref_fput A2 A 1024 c2 m d f0 rs true W h3 (HS.out W hb) (by omega) (by omega) (by omega) h4 h5 hr).mono ?_
    rintro e w' ⟨A3, c3, rfl, _, _, _, _, hb', _⟩
    rw [hP]
    exact ⟨A3, c3, _, rfl, hb.trans (hb'.mono hb.size)⟩
  have cmay : ∀ W, Below w0.heap.size w0 W → Calls Try.prog 24 #[.agg #[.int .i64 s, .int .i64 l]] W fun e w' => e = .returned (.bool (fMay (s, l))) ∧ Below w0.heap.size w0 w' := fun W hb => (ref_fmay (s, l) W h1).mono fun e w' ⟨x, y⟩ => ⟨x, by rw [y]; exact hb.alloc hb.size _⟩
  have cb : ∀ W, Below w0.heap.size w0 W → Calls Try.prog 16 #[.pointer none, .int .i64 k] W fun e w' => e = .returned (.tuple #[.agg #[.int .i64 0, .int .i64 0], .bool false]) ∧ Below w0.heap.size w0 w' := fun W hb => (code_rbest_nil W k hk).mono fun e w' ⟨x, y⟩ => ⟨x, hb.trans (y.mono hb.size)⟩
  have ct : ∀ W, Below w0.heap.size w0 W → Calls Try.prog 15 #[.pointer none, .int .i64 k] W fun e w' => e = .returned (.tuple #[.agg #[.int .i64 0, .int .i64 0], .bool false]) ∧ Below w0.heap.size w0 w' ∧ Below W.heap.size W w' := fun W hb => (code_rtake_nil W k hk).mono fun e w' ⟨x, y⟩ => ⟨x, hb.trans (y.mono hb.size), y⟩
  have cad : ∀ W, Below w0.heap.size w0 W → Calls Try.prog 12 #[.pointer none, .slice A m d] W fun e w' => e = .returned (.int .i64 (if rs.all fMay then (if m = 0 then 0 else 9) else 2)) ∧ Below w0.heap.size w0 w' := fun W hb => (code_radd_nil A m d rs W (HS.out W hb) (by omega) hr).mono fun e w' ⟨x, y⟩ => ⟨x, hb.trans (y.mono hb.size)⟩
  have ccu : ∀ W, Below w0.heap.size w0 W → Calls Try.prog 13 #[.pointer none, .agg #[.int .i64 s, .int .i64 l]] W fun e w' => e = .returned (.int .i64 (if fMay (s, l) then 9 else 2)) ∧ Below w0.heap.size w0 w' := fun W hb => (code_rcut_nil W s l h1.1 h1.2).mono fun e w' ⟨x, y⟩ => ⟨x, hb.trans (y.mono hb.size)⟩
  have ch : ∀ W, Below w0.heap.size w0 W → Calls Try.prog 20 #[.pointer none, .agg #[.int .i64 s, .int .i64 l]] W fun e w' => e = .returned (.bool false) ∧ Below w0.heap.size w0 w' := fun W hb => (code_rhas_nil W s l h1.1 h1.2).mono fun e w' ⟨x, y⟩ => ⟨x, hb.trans (y.mono hb.size)⟩
  have cli : ∀ W, Below w0.heap.size w0 W → Calls Try.prog 18 #[.pointer none] W fun e w' => ∃ A9 c9, e = .returned (.slice A9 0 c9) ∧ Below w0.heap.size w0 w' := fun W hb => (code_rlist_nil W).mono fun e w' ⟨A9, c9, x, _, y⟩ => ⟨A9, c9, x, hb.trans (y.mono hb.size)⟩
  have cpg : ∀ W, Below w0.heap.size w0 W → Calls Try.prog 22 #[.pointer none] W fun e w' => e = .returned (.int .i64 0) ∧ Below w0.heap.size w0 w' := fun W hb => (code_rpages_nil W).mono fun e w' ⟨x, y⟩ => ⟨x, hb.trans (y.mono hb.size)⟩
  have e0 := fun W => eql_run 0 0 0 0 W
  have hm0 : m = 0 → rs.all fMay = true := fun h => by
    obtain rfl : rs = [] := List.eq_nil_of_length_eq_zero (by omega)
    rfl
  obtain ⟨am, ham⟩ : ∃ am, rs.all fMay = am := ⟨_, rfl⟩
  obtain ⟨mm, hmm⟩ : ∃ mm, fMay (s, l) = mm := ⟨_, rfl⟩
  rw [ham] at cad h2 hm0
  rw [hmm] at cmay ccu
  have HL0 := hidb hl0
  have hcase : (am = false ∧ no = 2 ∧ 0 < m) ∨ (am = true ∧ no ≠ 2 ∧ m = 0) ∨ (am = true ∧ no ≠ 2 ∧ 0 < m) := by
    cases am with
    | false => exact Or.inl ⟨rfl, h2.2 rfl, Nat.pos_of_ne_zero (fun h => by have := hm0 h; cases this)⟩
    | true =>
      have hne : no ≠ 2 := fun h => by have := h2.1 h; cases this
      by_cases h : m = 0
      · exact Or.inr (Or.inl ⟨rfl, hne, h⟩)
      · exact Or.inr (Or.inr ⟨rfl, hne, Nat.pos_of_ne_zero h⟩)
  clear hw0 hs hr h1 hk q0 q1 hb0 hz0 hl hf0 hl0 hP hno h2 hm0 ham hmm
  cases mm
  all_goals
    rcases hcase with ⟨rfl, rfl, hpos⟩ | ⟨rfl, hne, rfl⟩ | ⟨rfl, hne, hpos⟩
    all_goals
      go_enter Try.func6, Try.ntmps6
      go_wp2_with (first
        | (go_at_call 10; rw [← HW0.out]; (with_reducible refine (cn _).mono ?_); rintro e w1 ⟨A1, c1, rfl, hown1, hb1⟩; have hq1 := own_caps hown1; replace hall := hall.trans hb1)
        | (go_at_call 9; (with_reducible refine (cp _ hall A1 c1 (Sl.of_own hown1) hq1.1 hq1.2.1).mono ?_); rintro e w2 ⟨A3, c3, n3, rfl, hb2⟩; replace hall := hb2; obtain ⟨y0, y1⟩ := HQ.out _ hall)
        | (go_at_call 24; (with_reducible refine (cmay _ hall).mono ?_); rintro e w3 ⟨rfl, hb3⟩; replace hall := hb3)
        | (go_at_call 16; (with_reducible refine (cb _ hall).mono ?_); rintro e w4 ⟨rfl, hb4⟩; replace hall := hb4)
        | (go_at_call 15; (with_reducible refine (ct _ (by exact hall.alloc hall.size _)).mono ?_); rintro e w5 ⟨rfl, hb5, hr5⟩; replace hall := hb5; have y4 : w5.cell? ⟨w4.heap.size, 0, none⟩ = some (.int .i64 0) := (by rw [hr5.cell (by simp)]; simp); have y5 : w5.cell? ⟨w4.heap.size, 1, none⟩ = some (.int .i64 0) := (by rw [hr5.cell (by simp)]; simp); have hz5 : w4.heap.size < w5.heap.size := (lt_of_cell y4))
        | (go_at_call 12; (with_reducible refine (cad _ (by exact hall.alloc hall.size _)).mono ?_); rintro e w6 ⟨rfl, hb6⟩; replace hall := hb6; obtain ⟨x0, x1⟩ := HQ.out _ hall)
        | (go_at_call 13; (with_reducible refine (ccu _ hall).mono ?_); rintro e w7 ⟨rfl, hb7⟩; replace hall := hb7; obtain ⟨t0, t1⟩ := HQ.out _ hall)
        | (go_at_call 20; (with_reducible refine (ch _ hall).mono ?_); rintro e w8 ⟨rfl, hb8⟩; replace hall := hb8)
        | (go_at_call 18; (with_reducible refine (cli _ hall).mono ?_); rintro e w9 ⟨A9, c9, rfl, hb9⟩; replace hall := hb9)
        | (go_at_call 22; (with_reducible refine (cpg _ hall).mono ?_); rintro e w10 ⟨rfl, hb10⟩; replace hall := hb10)
        | (go_at_call 8; (with_reducible refine (cw _).mono ?_); rintro e w11 ⟨rfl, hb11⟩))
      go_ret
      exact ⟨rfl, HB0.out.trans ((hall.trans (hb11.mono hall.size)).mono hzz)⟩

end Go.Proofs.Ytbihliaeidpfaaa
