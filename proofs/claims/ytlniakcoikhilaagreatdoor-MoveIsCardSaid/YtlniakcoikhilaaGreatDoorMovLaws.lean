/- Layer 17 (move): the laws' own functions, and a contract a call. -/
import Derived.Test.YtlniakcoikhilaaGreatDoorMovToC
import Derived.Test.YtlniakcoikhilaaGreatDoorSltLaws
namespace Go.Proofs.YtlniakcoikhilaaGreatDoor
open Go.RowKit Go.ChangeShapes Go.WideShapes
set_option linter.unusedVariables false

theorem aw17_by : mvBy ⟨0, 16, 16⟩ 32 32 = 48 := by decide
theorem aw17_fit : mvFit ⟨0, 16, 0⟩ ⟨16, 16, 0⟩ = true := by decide
theorem awake17 (w : World) : Calls Tryz.prog 6 #[] w fun e w' => e = .returned (.bool true) ∧ Below w.heap.size w w' := by
  have cb := fun W => code_mvby ⟨0, 16, 16⟩ 32 32 W 48 aw17_by
  have CF : Hid (∀ W : World, Calls Tryz.prog 16 #[.agg #[.int .i64 0, .int .i64 16, .int .i64 0], .slice (some ⟨W.heap.size, 0, none⟩) 1 1] (W.alloc (.cells #[.int .i64 16, .int .i64 16, .int .i64 0] 25)) fun e w' => e = .returned (.bool true) ∧ Below (W.alloc (.cells #[.int .i64 16, .int .i64 16, .int .i64 0] 25)).heap.size (W.alloc (.cells #[.int .i64 16, .int .i64 16, .int .i64 0] 25)) w') := hidb (fun W => code_mvfit ⟨0, 16, 0⟩ ⟨16, 16, 0⟩ _ _ (StAt.new W ⟨16, 16, 0⟩ _ (by simp; exact Below.refl _ _)) true aw17_fit)
  unfold stC at cb
  simp only at cb
  --@1
  go_enter Tryz.func6, Tryz.ntmps6
  go_wp2_with (first
    | (go_at_call 15; (with_reducible refine (cb _).mono ?_); rintro e w1 ⟨rfl, hb1⟩)
    | (go_at_call 16; (with_reducible refine (CF.out _).mono ?_); rintro e w2 ⟨rfl, hb2⟩))
  go_ret
  exact ⟨rfl, belF_tr (belF_al hb1 _) hb2⟩
theorem t_laid17 {A : Option Addr} {n c : Nat} {us : List Nat} {W : World} (hs : Sl W W.heap.size A n (us.map wv)) (hn : n ≤ 256) :
    Calls Tryz.prog 7 #[.slice A n c] W fun e w' => ∃ p g, e = .returned (.pointer (some ⟨p, 0, none⟩)) ∧ Ar w' W.heap.size p g 256 (frLaid us) ∧ Below W.heap.size W w' := by
  have ca := code_anewZ W
  have CS : Hid (∀ W1 p g, Below W.heap.size W W1 → Ar W1 W.heap.size p g 256 frZ → Calls Tryz.prog 18 #[.pointer (some ⟨p, 0, none⟩), .int .i64 0, .slice A n c] W1 fun e w' => e = .returned (.int .i64 0) ∧ Ar w' W.heap.size p g 256 (frLaid us) ∧ Below W.heap.size W w') := hidb (fun W1 p g hb ha => by
    refine (code_astore 0 A n c ha ((hs.below hb).more hb.size) (by omega)).mono ?_
    rintro e w' ⟨h1, h2, h3⟩
    exact ⟨h1, h2, hb.grown h3 hb.size (fun k hk => by cases hk; exact ha.geg)⟩)
  clear hs hn
  --@2
  go_enter Tryz.func7, Tryz.ntmps7
  go_wp2_with (first
    | (go_at_call 17; (with_reducible refine ca.mono ?_); rintro e w1 ⟨p, g, rfl, ha1, hb1⟩; have CS1 := CS.out w1 p g hb1 ha1; clear ha1 hb1)
    | (go_at_call 18; (with_reducible refine CS1.mono ?_); rintro e w2 ⟨rfl, ha2, hb2⟩))
  go_ret
  exact ⟨p, g, rfl, ha2, hb2⟩
theorem c_wreck_no (s : StV) (hs : ¬ StNear s) (w : World) : Calls Tryz.prog 62 #[stC s] w fun e w' => e = .returned (.bool false) ∧ Below w.heap.size w w' := by
  obtain ⟨lo, size, sp⟩ := s
  unfold StNear at hs
  simp only at hs
  unfold stC
  simp only
  by_cases h0 : 0 ≤ min (min lo size) sp
  · have hd : decide (0 ≤ min (min lo size) sp) = true := decide_eq_true h0
    have hd2 : decide (max (max lo size) sp ≤ 1099511627776) = false := decide_eq_false (by omega)
    --@3
    go_enter Tryz.func62, Tryz.ntmps62
    go_wp2
    all_goals go_ret
    all_goals exact ⟨by first | rfl | (simp; omega), belF_al (Below.refl _ _) _⟩
  · have hd : decide (0 ≤ min (min lo size) sp) = false := decide_eq_false h0
    --@4
    go_enter Tryz.func62, Tryz.ntmps62
    go_wp2
    all_goals go_ret
    all_goals exact ⟨by first | rfl | (simp; omega), belF_al (Below.refl _ _) _⟩
/-- How many words are used, of whatever stack. -/
theorem c_wused_any (s : StV) (w : World) : Calls Tryz.prog 31 #[stC s] w fun e w' => ∃ n : Int, e = .returned (.int .i64 n) ∧ in64 n ∧ Below w.heap.size w w' := by
  by_cases hs : StNear s
  · have h := hs
    unfold StNear at h
    exact (code_wused s hs w).mono fun e w' k => ⟨_, k.1, by unfold in64; omega, k.2⟩
  · have cr := fun W => c_wreck_no s hs W
    obtain ⟨lo, size, sp⟩ := s
    have HB := hidb (belF_al (Below.refl w.heap.size w) (.cells #[.int .i64 lo, .int .i64 size, .int .i64 sp] 25))
    unfold stC at *
    simp only at *
    clear hs
    --@5
    go_enter Tryz.func31, Tryz.ntmps31
    go_wp2_with (first | (go_at_call 62; (with_reducible refine (cr _).mono ?_); rintro e w1 ⟨rfl, hb1⟩))
    go_ret
    exact ⟨0, rfl, by unfold in64; omega, belF_tr HB.out hb1⟩
theorem eql_stack (a b c : Int) (W : World) : (binOp .eql 25 (.agg #[.int .i64 a, .int .i64 b, .int .i64 c]) (.agg #[.int .i64 a, .int .i64 b, .int .i64 c])).run Tryz.prog W = .ok (.bool true) W := by
  simp [go_sem]
section
variable {X W : World} {p g : Nat} {xs : List Nat} {tp : Option Addr} {O : Fns}
/-- The law's world: an arena and a table; words that were read. -/
def S17 (X : World) (p g : Nat) (xs : List Nat) (tp : Option Addr) (O : Fns) (D : Option Addr) (n k : Nat) (us : List Nat) (W : World) : Prop :=
  AT X W p g 256 xs tp O ∧ ∃ base, g < base ∧ W.ownsRow base 59 1 (.slice D n k) n (us.map wv)
theorem S17.step {W' : World} {D : Option Addr} {n k : Nat} {us : List Nat} (h : S17 X p g xs tp O D n k us W) (hb : Below W.heap.size W W') : S17 X p g xs tp O D n k us W' := by
  obtain ⟨h1, base, h2, h3⟩ := h
  exact ⟨h1.step hb, base, h2, own_same h3 fun b hb2 => hb.block b (h3.lt b hb2).2⟩
theorem S17.wrote {W' : World} {ys : List Nat} {D : Option Addr} {n k : Nat} {us : List Nat} (h : S17 X p g xs tp O D n k us W) (ha : AT X W' p g 256 ys tp O) (hg : W.grownBy W' (some g)) : S17 X p g ys tp O D n k us W' := by
  obtain ⟨h1, base, h2, h3⟩ := h
  refine ⟨ha, base, h2, own_grown h3 hg fun b hb e => ?_⟩
  have := (h3.lt b e).1
  injection hb with hb
  omega
theorem S17.row {D : Option Addr} {n k : Nat} {us : List Nat} (h : S17 X p g xs tp O D n k us W) : Sl W W.heap.size D n (us.map wv) := by
  obtain ⟨_, _, _, h3⟩ := h
  exact Sl.of_own h3
/-- Row, of whatever numbers. -/
theorem t_row_any (st : AT X W p g 256 xs tp O) (a n : Int) (h0 : in64 a) (h1 : in64 n) :
    Calls Tryz.prog 11 #[.pointer (some ⟨p, 0, none⟩), .int .i64 a, .int .i64 n] W fun e w' => ∃ D m k us no, e = .returned (.tuple #[.slice D m k, .int .i64 no]) ∧ us.length = m ∧ S17 X p g xs tp O D m k us w' ∧ Below W.heap.size W w' := by
  by_cases h : aIn 256 a n = true
  · unfold aIn at h
    have h := of_decide_eq_true h
    have := code_arow_ok a.toNat n.toNat st.ar (by omega)
    rw [show ((a.toNat : Nat) : Int) = a by omega, show ((n.toNat : Nat) : Int) = n by omega] at this
    refine this.mono ?_
    rintro e w' ⟨D, k, rfl, h2, h3⟩
    exact ⟨D, _, k, _, 0, rfl, rfl, ⟨st.step h3, _, st.ar.lt, h2⟩, h3⟩
  · refine (code_arow_no (.pointer (some ⟨p, 0, none⟩)) 256 a n W (by omega) (code_awords p _ _ _ _ (st.ar.alloc _).cell) h0 h1 (by simpa using h)).mono ?_
    rintro e w' ⟨D, k, rfl, h2, h3⟩
    exact ⟨D, _, k, _, 2, rfl, rfl, ⟨st.step h3, _, st.ar.lt, h2⟩, h3⟩
/-- Row, of words that are there. -/
theorem t_row (st : AT X W p g 256 xs tp O) (a n : Nat) (h : a + n ≤ 256) :
    Calls Tryz.prog 11 #[.pointer (some ⟨p, 0, none⟩), .int .i64 (a : Int), .int .i64 (n : Int)] W fun e w' => ∃ D k, e = .returned (.tuple #[.slice D n k, .int .i64 0]) ∧ S17 X p g xs tp O D n k (aRow xs a n) w' ∧ Below W.heap.size W w' := by
  refine (code_arow_ok a n st.ar h).mono ?_
  rintro e w' ⟨D, k, rfl, h2, h3⟩
  have hl : (aRow xs a n).length = n := aRow_length _ _ _ (by have := st.ar.hlen; omega)
  rw [hl] at h2
  exact ⟨D, k, by rw [hl], ⟨st.step h3, _, st.ar.lt, h2⟩, h3⟩
end
end Go.Proofs.YtlniakcoikhilaaGreatDoor
