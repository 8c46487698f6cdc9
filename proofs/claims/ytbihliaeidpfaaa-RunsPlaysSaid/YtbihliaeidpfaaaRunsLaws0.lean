/- Words for the walks of layer 6's statements; the document's example. -/
import Derived.Test.YtbihliaeidpfaaaRunsTake
import Derived.Test.YtbihliaeidpfaaaRunsRefP
import Derived.Test.YtbihliaeidpfaaaRunSame
namespace Go.Proofs.Ytbihliaeidpfaaa
open Go.RowKit
set_option linter.unusedVariables false

theorem eql_run (a b c d : Int) (W : World) : (binOp .eql 34 (.agg #[.int .i64 a, .int .i64 b]) (.agg #[.int .i64 c, .int .i64 d])).run Try.prog W = .ok (.bool (a == c && b == d)) W := by
  simp [go_sem]
  by_cases h1 : a = c <;> by_cases h2 : b = d <;> simp [h1, h2]
theorem bool_run (b : Bool) (W : World) : True := trivial
theorem Rn.one6 {w : World} (s l : Int) (t : TypeId) : Rn (w.alloc (.cells #[.int .i64 s, .int .i64 l] t)) (w.heap.size + 1) (some ⟨w.heap.size, 0, none⟩) 1 [(s, l)] :=
  ⟨rfl, fun _ => ⟨w.heap.size, 0, rfl, by omega, fun j r hj => by
    cases j with
    | zero =>
      obtain rfl : (s, l) = r := by simpa using hj
      simp [iv]
    | succ j => simp at hj⟩⟩
theorem Rn.two6 {w : World} (s l s2 l2 : Int) (t : TypeId) : Rn (w.alloc (.cells #[.int .i64 s, .int .i64 l, .int .i64 s2, .int .i64 l2] t)) (w.heap.size + 1) (some ⟨w.heap.size, 0, none⟩) 2 [(s, l), (s2, l2)] :=
  ⟨rfl, fun _ => ⟨w.heap.size, 0, rfl, by omega, fun j r hj => by
    match j, hj with
    | 0, hj =>
      obtain rfl : (s, l) = r := by simpa using hj
      simp [iv]
    | 1, hj =>
      obtain rfl : (s2, l2) = r := by simpa using hj
      simp [iv]
    | j + 2, hj => simp at hj⟩⟩

/-- Runs that a call made, or that came in: in no block of S. -/
def RnOff (w : World) (S : Nat → Prop) (A : Option Addr) (n : Nat) (rs : List (Int × Int)) : Prop := Rn w w.heap.size A n rs ∧ ∀ a, A = some a → 0 < n → a.block < w.heap.size ∧ ¬ S a.block
section
variable {w w' : World} {S : Nat → Prop} {A : Option Addr} {n : Nat} {rs : List (Int × Int)}
theorem Rn.kept {w w' : World} {B n : Nat} {A : Option Addr} {rs : List (Int × Int)} (h : Rn w w.heap.size A n rs) (hk : Kept S w w') (ha : ∀ a, A = some a → 0 < n → ¬ S a.block) : Rn w' w'.heap.size A n rs :=
  ⟨h.1, fun hn => by
    obtain ⟨b, off, e, hb, hc⟩ := h.2 hn
    have hns : ¬ S b := ha ⟨b, off, none⟩ e hn
    refine ⟨b, off, e, Nat.lt_of_lt_of_le hb hk.size, fun j r hj => ?_⟩
    exact ⟨(hk.cell (a := ⟨b, off + j * 2, none⟩) hb hns).trans (hc j r hj).1, (hk.cell (a := ⟨b, off + j * 2 + 1, none⟩) hb hns).trans (hc j r hj).2⟩⟩
theorem RnOff.did (h : RnOff w S A n rs) (hk : Kept S w w') : RnOff w' (more S w w') A n rs :=
  ⟨Rn.kept (B := 0) h.1 hk (fun a e hn => (h.2 a e hn).2), fun a e hn => ⟨Nat.lt_of_lt_of_le (h.2 a e hn).1 hk.size, fun c => (h.2 a e hn).2 (more_old (h.2 a e hn).1 c)⟩⟩
theorem RnOff.below (h : RnOff w S A n rs) (hb : Below w.heap.size w w') : RnOff w' S A n rs :=
  ⟨(h.1.below hb).more hb.size, fun a e hn => ⟨Nat.lt_of_lt_of_le (h.2 a e hn).1 hb.size, (h.2 a e hn).2⟩⟩
theorem RnOff.of_own {w0 : World} {c : Nat} (h : w.ownsRow w0.heap.size 34 2 (.slice A n c) n (rcells rs)) (hl : rs.length = n) (hS : ∀ b, S b → b < w0.heap.size) : RnOff w S A n rs :=
  ⟨Rn.of_own h hl, fun a e hn => by
    subst e
    have := h.lt a.block rfl
    exact ⟨this.2, fun c => by have := hS _ c; omega⟩⟩
end
theorem same_off {A A2 : Option Addr} {n m c c2 : Nat} {xs ys : List (Int × Int)} {W : World} {B B2 : Nat} (h1 : Rn W B A n xs) (h2 : Rn W B2 A2 m ys) (hn : n ≤ 65536) (hm : m ≤ 65536) :
    Calls Try.prog 17 #[.slice A n c, .slice A2 m c2] W fun e w' => e = .returned (.bool (decide (xs = ys))) ∧ Below W.heap.size W w' :=
  (ref_xsame A A2 n c m c2 xs ys W B B2 h1 h2 (by omega) (by omega)).mono fun e w' ⟨x, q, y⟩ => ⟨x, by rw [y]; exact belowN (Below.refl _ _) q⟩

theorem aw_new : ∃ F, fPut (List.replicate 1024 false) [(8, 2), (0, 5)] true = (F, 0) ∧ F.length = 1024 ∧ fList F = [(0, 5), (8, 2)] := by
  obtain ⟨f0, hf0⟩ : ∃ f0, List.replicate 1024 false = f0 := ⟨_, rfl⟩
  have hl0 : f0.length = 1024 := by rw [← hf0, List.length_replicate]
  have he0 : fList f0 = [] := by rw [← hf0]; exact f0_list
  rw [hf0]
  have hm : ∀ r ∈ [((8 : Int), (2 : Int)), (0, 5)], fMay r = true := by decide
  have hd : [((0 : Int), (5 : Int)), (8, 2)].Perm (fList f0 ++ [((8 : Int), (2 : Int)), (0, 5)]) := by rw [he0, List.nil_append]; exact List.Perm.swap _ _ _
  obtain ⟨_, h2⟩ := add_all hl0 hm hd (by decide)
  obtain ⟨g, e1, e2⟩ := h2 (by decide)
  refine ⟨g, e1, ?_, e2⟩
  have := fPut_length f0 [((8 : Int), (2 : Int)), (0, 5)] true
  rw [e1] at this
  simp only at this
  omega
theorem aw_take {F : List Bool} (hl : F.length = 1024) (h : fList F = [(0, 5), (8, 2)]) : fBest F 2 = some (8, 2) ∧ fPages (fTake F 2) = 5 := by
  have hb : fBest F 2 = some (8, 2) := by rw [fBest_is F (by omega), h]; decide
  refine ⟨hb, ?_⟩
  obtain ⟨g, e1, _, i, hi, hin, e2⟩ := take_ok hl hb
  have hg : fTake F 2 = g := by unfold fTake; rw [hb]; simp only; rw [e1]
  have h1 := fPages_cut hi hin e2
  have h2 := fPages_sum F
  rw [h] at h2
  have h3 : sumL [((0 : Int), (5 : Int)), (8, 2)] = 7 := by decide
  rw [hg]
  simp only at h1
  omega

set_option maxRecDepth 100000 in
set_option maxHeartbeats 1000000 in
theorem awake6 (w : World) : Calls Try.prog 8 #[] w fun e w' => e = .returned (.bool true) ∧ Below w.heap.size w w' := by
  obtain ⟨F, h1, h2, h3⟩ := aw_new
  obtain ⟨h4, h5⟩ := aw_take h2 h3
  have c1 := code_rnew (some ⟨w.heap.size, 0, none⟩) 2 2 [(8, 2), (0, 5)] (w.alloc (.cells #[.int .i64 8, .int .i64 2, .int .i64 0, .int .i64 5] 34)) ((Rn.two6 8 2 0 5 _).more (by simp)) (by omega) (by unfold in64; decide) F 0 h1
  unfold ResFr at c1
  have c2 : ∀ (W : World) (S : Nat → Prop) (p : Nat), Fr W S p F → (∀ b, S b → w.heap.size ≤ b) → Below w.heap.size w W → Calls Try.prog 15 #[.pointer (some ⟨p, 0, none⟩), .int .i64 2] W fun e w' => e = .returned (.tuple #[.agg #[.int .i64 8, .int .i64 2], .bool true]) ∧ (∃ S', Fr w' S' p (fTake F 2)) ∧ Below w.heap.size w w' := fun W S p hF hlow hb => by
    refine (code_rtake hF 2 ⟨by omega, by omega⟩).mono ?_
    rintro e w' ⟨h6, h7, h8⟩
    rw [h4] at h6
    exact ⟨h6, ⟨_, h7⟩, hb.trans (h8.below hb.size hlow)⟩
  have c3 : ∀ (W W' : World) (S : Nat → Prop) (p : Nat), Fr W S p (fTake F 2) → Below W.heap.size W W' → Calls Try.prog 22 #[.pointer (some ⟨p, 0, none⟩)] W' fun e w' => e = .returned (.int .i64 5) ∧ Below W'.heap.size W' w' := fun W W' S p hF hb => by
    have := code_rpages (hF.below hb)
    rw [h5] at this
    exact this
  have C2 := hidb c2
  have C3 := hidb c3
  have q1 := eql_run 8 2 8 2
  clear c2 c3 h1 h2 h3 h4 h5
  go_enter Try.func8, Try.ntmps8
  go_wp2_with (first | (go_at_call 11; (with_reducible refine c1.mono ?_); rintro e w1 ⟨hb1, ⟨_, p, S, rfl, hF, hlow⟩ | ⟨h0, _⟩⟩))
  · have hB1 : Below w.heap.size w w1 := ((Below.refl _ _).alloc (Nat.le_refl _) _).trans (hb1.mono (by simp))
    have hlow' : ∀ b, S b → w.heap.size ≤ b := fun b hb => by have := hlow b hb; simp at this; omega
    refine (C2.out w1 S p hF hlow' hB1).mono ?_
    rintro e w2 ⟨rfl, ⟨S', hF2⟩, hb2⟩
    have HF2 := hidb hF2
    have hz2 := hb2.size
    have HB2 := hidb hb2
    clear hF2 hF hlow hlow' hB1 hb1 hb2
    go_wp2_with (first | (go_at_call 22; (with_reducible refine (C3.out w2 _ S' p HF2.out (by exact (Below.refl _ _).alloc (Nat.le_refl _) _)).mono ?_); rintro e w3 ⟨rfl, hb3⟩))
    go_ret
    exact ⟨rfl, (HB2.out.alloc hz2 _).trans (hb3.mono (by simp; omega))⟩
  · exact absurd rfl h0

end Go.Proofs.Ytbihliaeidpfaaa
