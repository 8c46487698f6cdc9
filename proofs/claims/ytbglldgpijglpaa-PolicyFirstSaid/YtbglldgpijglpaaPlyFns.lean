/- Layer 18 (policy): First, Grow and Shrink are the plain ones. -/
import Derived.Test.YtbglldgpijglpaaPlyCode
namespace Go.Proofs.Ytbglldgpijglpaa
open Go.RowKit
set_option linter.unusedVariables false

/-- A pair of numbers, and old blocks as they were. -/
def ResNB (r : Int × Int) (w : World) (e : Ending) (w' : World) : Prop := e = .returned (.tuple #[.int .i64 r.1, .int .i64 r.2]) ∧ Below w.heap.size w w'
def ResBB (r : Int × Bool) (w : World) (e : Ending) (w' : World) : Prop := e = .returned (.tuple #[.int .i64 r.1, .bool r.2]) ∧ Below w.heap.size w w'
theorem pl_b1 {w w1 : World} {o : Obj} (h : Below (w.alloc o).heap.size (w.alloc o) w1) : Below w.heap.size w w1 := belF_tr (belF_al (Below.refl _ _) _) h

theorem code_plfirst (words limit : Int) (w : World) (h0 : in64 words) (h1 : in64 limit) : Calls Try.prog 8 #[.int .i64 words, .int .i64 limit] w (ResNB (plFirst words limit) w) := by
  obtain ⟨b, hz⟩ : ∃ b, plLim limit = b := ⟨_, rfl⟩
  have cl := fun W g hc => code_lim1 limit h1 g W hc b hz
  cases b with
  | false =>
    have E : plFirst words limit = (0, 1) := by unfold plFirst; rw [if_pos (Or.inl hz)]
    rw [E]
    clear hz E
    --@1
    go_enter Try.func8, Try.ntmps8
    go_wp2_with (first | (go_at_call 10; (with_reducible refine (cl _ _ (by simp)).mono ?_); rintro e w1 ⟨rfl, hb1⟩))
    go_ret2
    exact ⟨rfl, pl_b1 hb1⟩
  | true =>
    obtain ⟨l1, l2⟩ := plLim_facts hz
    have l3 := stkSz_16 l1
    have h0' := h0
    obtain ⟨z0, z1⟩ := h0
    by_cases c1 : words < 1
    · have E : plFirst words limit = (0, 1) := by unfold plFirst; rw [if_pos (Or.inr c1)]
      rw [E]
      clear hz E l1
      --@2
      go_enter Try.func8, Try.ntmps8
      go_wp2_with (first | (go_at_call 10; (with_reducible refine (cl _ _ (by simp)).mono ?_); rintro e w1 ⟨rfl, hb1⟩))
      go_ret2
      exact ⟨rfl, pl_b1 hb1⟩
    · by_cases c2 : limit < words
      · have E : plFirst words limit = (0, 4) := by unfold plFirst; rw [if_neg (by rw [hz]; simp; omega), if_pos c2]
        rw [E]
        clear hz E l1
        --@3
        go_enter Try.func8, Try.ntmps8
        go_wp2_with (first | (go_at_call 10; (with_reducible refine (cl _ _ (by simp)).mono ?_); rintro e w1 ⟨rfl, hb1⟩))
        go_ret2
        exact ⟨rfl, pl_b1 hb1⟩
      · have E : plFirst words limit = (plDbl 20 16 words, 0) := by unfold plFirst; rw [if_neg (by rw [hz]; simp; omega), if_neg c2]
        rw [E]
        have ca := fun W => code_atleast 16 words W (by unfold in64; omega) h0' (plDbl 20 16 words) (plDbl_up (by decide +kernel) (by omega) (by omega)).symm
        obtain ⟨m, hm⟩ : ∃ m, plDbl 20 16 words = m := ⟨_, rfl⟩
        rw [hm] at ca ⊢
        clear hz E l1 hm
        --@4
        go_enter Try.func8, Try.ntmps8
        go_wp2_with (first | (go_at_call 10; (with_reducible refine (cl _ _ (by simp)).mono ?_); rintro e w1 ⟨rfl, hb1⟩) | (go_at_call 18; (with_reducible refine (ca _).mono ?_); rintro e w2 ⟨rfl, rfl⟩))
        go_ret2
        exact ⟨rfl, pl_b1 hb1⟩

theorem pl_b2 {w w1 w2 : World} {o p : Obj} (h : Below (w.alloc o).heap.size (w.alloc o) w1) (k : Below (w1.alloc p).heap.size (w1.alloc p) w2) : Below w.heap.size w w2 := belF_tr (belF_al (pl_b1 h) _) k

theorem code_plgrow (size used more limit : Int) (w : World) (h0 : in64 size) (h1 : in64 used) (h2 : in64 more) (h3 : in64 limit) : Calls Try.prog 14 #[.int .i64 size, .int .i64 used, .int .i64 more, .int .i64 limit] w (ResNB (plGrow size used more limit) w) := by
  obtain ⟨b, hz⟩ : ∃ b, plLim limit = b := ⟨_, rfl⟩
  have cl := fun W g hc => code_lim1 limit h3 g W hc b hz
  cases b with
  | false =>
    have E : plGrow size used more limit = (0, 1) := by unfold plGrow; rw [if_pos (Or.inl hz)]
    rw [E]
    clear hz E
    --@5
    go_enter Try.func14, Try.ntmps14
    go_wp2_with (first | (go_at_call 10; (with_reducible refine (cl _ _ (by simp)).mono ?_); rintro e w1 ⟨rfl, hb1⟩))
    go_ret2
    exact ⟨rfl, pl_b1 hb1⟩
  | true =>
    obtain ⟨l1, l2⟩ := plLim_facts hz
    have l3 := stkSz_16 l1
    obtain ⟨b, hy⟩ : ∃ b, stkSz size = b := ⟨_, rfl⟩
    have cz := fun W g hc => wk_sizes size h0 g W hc b hy
    cases b with
    | false =>
      have E : plGrow size used more limit = (0, 1) := by unfold plGrow; rw [if_pos (Or.inr (Or.inl hy))]
      rw [E]
      clear hz hy E l1
      --@6
      go_enter Try.func14, Try.ntmps14
      go_wp2_with (first | (go_at_call 10; (with_reducible refine (cl _ _ (by simp)).mono ?_); rintro e w1 ⟨rfl, hb1⟩) | (go_at_call 21; (with_reducible refine (cz _ _ (by simp)).mono ?_); rintro e w2 ⟨rfl, hb2⟩))
      go_ret2
      exact ⟨rfl, pl_b2 hb1 hb2⟩
    | true =>
      have s16 := stkSz_16 hy
      obtain ⟨a0, a1⟩ := h1
      obtain ⟨b0, b1⟩ := h2
      by_cases c1 : limit < size ∨ used < 0 ∨ size < used ∨ more < 0
      · have E : plGrow size used more limit = (0, 1) := by unfold plGrow; rw [if_pos (Or.inr (Or.inr c1))]
        rw [E]
        clear hz hy E l1
        by_cases c2 : limit < size
        · clear c1
          --@7
          go_enter Try.func14, Try.ntmps14
          go_wp2_with (first | (go_at_call 10; (with_reducible refine (cl _ _ (by simp)).mono ?_); rintro e w1 ⟨rfl, hb1⟩) | (go_at_call 21; (with_reducible refine (cz _ _ (by simp)).mono ?_); rintro e w2 ⟨rfl, hb2⟩))
          go_ret2
          exact ⟨rfl, pl_b2 hb1 hb2⟩
        · by_cases c3 : used < 0
          · clear c1
            --@8
            go_enter Try.func14, Try.ntmps14
            go_wp2_with (first | (go_at_call 10; (with_reducible refine (cl _ _ (by simp)).mono ?_); rintro e w1 ⟨rfl, hb1⟩) | (go_at_call 21; (with_reducible refine (cz _ _ (by simp)).mono ?_); rintro e w2 ⟨rfl, hb2⟩))
            go_ret2
            exact ⟨rfl, pl_b2 hb1 hb2⟩
          · by_cases c4 : size < used
            · clear c1
              --@9
              go_enter Try.func14, Try.ntmps14
              go_wp2_with (first | (go_at_call 10; (with_reducible refine (cl _ _ (by simp)).mono ?_); rintro e w1 ⟨rfl, hb1⟩) | (go_at_call 21; (with_reducible refine (cz _ _ (by simp)).mono ?_); rintro e w2 ⟨rfl, hb2⟩))
              go_ret2
              exact ⟨rfl, pl_b2 hb1 hb2⟩
            · have c5 : more < 0 := by omega
              clear c1
              --@10
              go_enter Try.func14, Try.ntmps14
              go_wp2_with (first | (go_at_call 10; (with_reducible refine (cl _ _ (by simp)).mono ?_); rintro e w1 ⟨rfl, hb1⟩) | (go_at_call 21; (with_reducible refine (cz _ _ (by simp)).mono ?_); rintro e w2 ⟨rfl, hb2⟩))
              go_ret2
              exact ⟨rfl, pl_b2 hb1 hb2⟩
      · obtain ⟨d1, d2, d3, d4⟩ : size ≤ limit ∧ 0 ≤ used ∧ used ≤ size ∧ 0 ≤ more := by omega
        have N : ¬ (plLim limit = false ∨ stkSz size = false ∨ limit < size ∨ used < 0 ∨ size < used ∨ more < 0) := by rw [hz, hy]; simp; omega
        clear c1
        have hsub : wrap64 (limit - used) = limit - used := by unfold wrap64; omega
        by_cases c6 : limit < used + more
        · have E : plGrow size used more limit = (0, 4) := by unfold plGrow; rw [if_neg N, if_pos c6]
          rw [E]
          clear hz hy E l1 N
          have c7 : limit - used < more := by omega
          --@11
          go_enter Try.func14, Try.ntmps14
          go_wp2_with (first | (go_at_call 10; (with_reducible refine (cl _ _ (by simp)).mono ?_); rintro e w1 ⟨rfl, hb1⟩) | (go_at_call 21; (with_reducible refine (cz _ _ (by simp)).mono ?_); rintro e w2 ⟨rfl, hb2⟩))
          go_ret2
          exact ⟨rfl, pl_b2 hb1 hb2⟩
        · have E : plGrow size used more limit = (plDbl 20 size (used + more), 0) := by unfold plGrow; rw [if_neg N, if_neg c6]
          rw [E]
          have hw : wrap64 (used + more) = used + more := by unfold wrap64; omega
          have ca := fun W => code_atleast size (used + more) W h0 (by unfold in64; omega) (plDbl 20 size (used + more)) (plDbl_up hy (by omega) (by omega)).symm
          obtain ⟨m, hm⟩ : ∃ m, plDbl 20 size (used + more) = m := ⟨_, rfl⟩
          rw [hm] at ca ⊢
          clear hz hy l1 N E hm
          have c7 : ¬ limit - used < more := by omega
          --@12
          go_enter Try.func14, Try.ntmps14
          go_wp2_with (first | (go_at_call 10; (with_reducible refine (cl _ _ (by simp)).mono ?_); rintro e w1 ⟨rfl, hb1⟩) | (go_at_call 21; (with_reducible refine (cz _ _ (by simp)).mono ?_); rintro e w2 ⟨rfl, hb2⟩) | (go_at_call 18; (with_reducible refine (ca _).mono ?_); rintro e w3 ⟨rfl, rfl⟩))
          go_ret2
          exact ⟨rfl, pl_b2 hb1 hb2⟩

theorem code_plshrink (size used : Int) (w : World) (h0 : in64 size) (h1 : in64 used) : Calls Try.prog 16 #[.int .i64 size, .int .i64 used] w (ResBB (plShrink size used) w) := by
  obtain ⟨b, hy⟩ : ∃ b, stkSz size = b := ⟨_, rfl⟩
  have cz := fun W g hc => wk_sizes size h0 g W hc b hy
  cases b with
  | false =>
    have E : plShrink size used = (size, false) := by unfold plShrink; rw [if_neg (by rw [hy]; simp)]
    rw [E]
    clear hy E
    --@13
    go_enter Try.func16, Try.ntmps16
    go_wp2_with (first | (go_at_call 21; (with_reducible refine (cz _ _ (by simp)).mono ?_); rintro e w1 ⟨rfl, hb1⟩))
    go_ret2
    exact ⟨rfl, pl_b1 hb1⟩
  | true =>
    have s16 := stkSz_16 hy
    obtain ⟨a0, a1⟩ := h1
    by_cases c1 : size = 16
    · have E : plShrink size used = (size, false) := by unfold plShrink; rw [if_neg (by simp [c1])]
      rw [E]
      subst c1
      clear hy E
      --@14
      go_enter Try.func16, Try.ntmps16
      go_wp2_with (first | (go_at_call 21; (with_reducible refine (cz _ _ (by simp)).mono ?_); rintro e w1 ⟨rfl, hb1⟩))
      go_ret2
      exact ⟨rfl, pl_b1 hb1⟩
    · have c1' : (size == 16) = false := by simp; exact c1
      obtain ⟨t1, t2, t3⟩ := stkSz_half hy c1
      have hq : Int.tdiv size 2 = size / 2 := Int.tdiv_eq_ediv_of_nonneg (by omega)
      have hq4 : Int.tdiv size 4 = size / 4 := Int.tdiv_eq_ediv_of_nonneg (by omega)
      have hw2 : wrap64 (size / 2) = size / 2 := by have := h0.2; unfold wrap64; omega
      have hw4 : wrap64 (size / 4) = size / 4 := by have := h0.2; unfold wrap64; omega
      by_cases c2 : used < 0
      · have E : plShrink size used = (size, false) := by unfold plShrink; rw [if_neg (by omega)]
        rw [E]
        clear hy E t1 t2 t3
        --@15
        go_enter Try.func16, Try.ntmps16
        go_wp2_with (first | (go_at_call 21; (with_reducible refine (cz _ _ (by simp)).mono ?_); rintro e w1 ⟨rfl, hb1⟩))
        go_ret2
        exact ⟨rfl, pl_b1 hb1⟩
      · by_cases c3 : size / 4 < used
        · have E : plShrink size used = (size, false) := by unfold plShrink; rw [if_neg (by omega)]
          rw [E]
          clear hy E t1 t2 t3
          --@16
          go_enter Try.func16, Try.ntmps16
          go_wp2_with (first | (go_at_call 21; (with_reducible refine (cz _ _ (by simp)).mono ?_); rintro e w1 ⟨rfl, hb1⟩))
          go_ret2
          exact ⟨rfl, pl_b1 hb1⟩
        · have E : Hid (plShrink size used = (size / 2, true)) := hidb (by unfold plShrink; rw [if_pos ⟨hy, c1, by omega, by omega⟩])
          clear hy t1 t2 t3
          --@17
          go_enter Try.func16, Try.ntmps16
          go_wp2_with (first | (go_at_call 21; (with_reducible refine (cz _ _ (by simp)).mono ?_); rintro e w1 ⟨rfl, hb1⟩))
          go_ret2
          rw [E.out]
          exact ⟨by go_num, pl_b1 hb1⟩
end Go.Proofs.Ytbglldgpijglpaa
