/- What each function of the document's own answers to layer 5 (index) returns. -/
import Derived.Test.YtoghahldlnhpdaaRunRows
import Derived.Test.YtoghahldlnhpdaaIndexMath
import Derived.WalkKit
import Derived.ProofKit
import Derived.WalkLawsBesides
import Derived.WalkSpells
import Derived.Deep.QuietTactic
import Derived.BigQuiet
import Derived.Laws.OwnMore
import Derived.Laws.StructEq
namespace Go.Proofs.Ytoghahldlnhpdaa
open Go.RowKit
set_option linter.unusedVariables false

theorem made_ints (n : Nat) : (madeCells (Value.int .i64 0).cells (n * 1)).toList = (List.replicate n 0).map iv := by
  rw [Nat.mul_one]
  exact (toList_madeCells_one _ n).trans (by simp [iv])

theorem ref_xnew_at (pages : Int) (n : Nat) (w : World) (hw : (pages < 0 ∧ n = 0) ∨ (1024 < pages ∧ n = 1024) ∨ (0 ≤ pages ∧ pages ≤ 1024 ∧ pages = n)) (h0 : -9223372036854775808 ≤ pages) (h1 : pages ≤ 9223372036854775807) :
    Calls Try.prog 9 #[.int .i64 pages] w (OwnInts w (List.replicate n 0)) := by
  obtain ⟨i0, hi, hz0, hz1, hz2⟩ := info_parts info_int
  have fin : ∀ w1, w1.ownsRow w.heap.size 3 1 (.slice (some ⟨w.heap.size, 0, none⟩) n n) n (madeCells (Value.int .i64 0).cells (n * 1)).toList → Below w.heap.size w w1 → OwnInts w (List.replicate n 0) (.returned (.slice (some ⟨w.heap.size, 0, none⟩) n n)) w1 := fun w1 h hb => by
    rw [made_ints] at h
    refine ⟨some ⟨w.heap.size, 0, none⟩, n, by rw [List.length_replicate], ?_, hb⟩
    rw [List.length_replicate]; exact h
  have FIN := hidb fin
  clear fin
  rcases hw with ⟨h2, rfl⟩ | ⟨h2, h3⟩ | ⟨h2, h3, rfl⟩
  · go_enter Try.func9, Try.ntmps9
    go_wp2_with (at_make; refine wpList_make_full w rfl _ _ 26 rfl w.heap.size 3 i0 (.int .i64 0) 1 Try.underlying26 hi hz0 hz1 .i64 .i64 _ _ 0 rfl rfl (by omega) (by omega) (by rw [hz2]; omega) (by unfold maxLen; omega) (Nat.le_refl _) ?_; intro w1 hown hgrow)
    go_ret
    exact FIN.out w1 hown ((Below.refl _ _).grown hgrow (Nat.le_refl _) (fun k hk => by cases hk))
  · have H3 := hidb h3
    clear h3
    go_enter Try.func9, Try.ntmps9
    go_wp2_with (at_make; refine wpList_make_full w rfl _ _ 26 rfl w.heap.size 3 i0 (.int .i64 0) 1 Try.underlying26 hi hz0 hz1 .i64 .i64 _ _ n rfl rfl (by have := H3.out; omega) (by have := H3.out; omega) (by have := H3.out; rw [hz2]; omega) (by have := H3.out; unfold maxLen; omega) (Nat.le_refl _) ?_; intro w1 hown hgrow)
    go_ret
    exact FIN.out w1 hown ((Below.refl _ _).grown hgrow (Nat.le_refl _) (fun k hk => by cases hk))
  · go_enter Try.func9, Try.ntmps9
    go_wp2_with (at_make; refine wpList_make_full w rfl _ _ 26 rfl w.heap.size 3 i0 (.int .i64 0) 1 Try.underlying26 hi hz0 hz1 .i64 .i64 _ _ n rfl rfl (by omega) (by omega) (by rw [hz2]; omega) (by unfold maxLen; omega) (Nat.le_refl _) ?_; intro w1 hown hgrow)
    go_ret
    exact FIN.out w1 hown ((Below.refl _ _).grown hgrow (Nat.le_refl _) (fun k hk => by cases hk))

theorem ref_xnew (pages : Int) (w : World) (h0 : -9223372036854775808 ≤ pages) (h1 : pages ≤ 9223372036854775807) :
    Calls Try.prog 9 #[.int .i64 pages] w (OwnInts w (xNew pages)) :=
  ref_xnew_at pages _ w (by omega) h0 h1

theorem ref_xof (A : Option Addr) (n c : Nat) (x : List Int) (page : Int) (w : World) (B : Nat) (hs : Sl w B A n (x.map iv)) (hn : n ≤ 9223372036854775807) (h0 : -9223372036854775808 ≤ page) (h1 : page ≤ 9223372036854775807) :
    Calls Try.prog 14 #[.slice A n c, .int .i64 page] w fun e w' => e = .returned (.int .i64 (xOf x page)) ∧ w = w' := by
  have hl : x.length = n := by have := hs.1; simpa using this
  by_cases hp : page < 0
  · have E : xOf x page = 0 := by unfold xOf; rw [if_neg (by omega)]
    rw [E]; clear E hs
    go_enter Try.func14, Try.ntmps14
    go_wp2
    go_ret
    exact ⟨rfl, rfl⟩
  · by_cases hq : (n : Int) ≤ page
    · have E : xOf x page = 0 := by unfold xOf; rw [if_neg (by omega)]
      rw [E]; clear E hs
      go_enter Try.func14, Try.ntmps14
      go_wp2
      go_ret
      exact ⟨rfl, rfl⟩
    · obtain ⟨k, hk⟩ : ∃ k : Nat, page = k := ⟨page.toNat, by omega⟩
      subst hk
      obtain ⟨b, off, y, rfl, hy, hc⟩ := hs.int_ (j := k) (by omega)
      have E : xOf x (k : Int) = y := by unfold xOf; rw [if_pos (by omega), Int.toNat_natCast, List.getD_eq_getElem?_getD, hy]; rfl
      rw [E]
      have hk0 : (0 : Int) ≤ (k : Int) := by omega
      have hk1 : (k : Int) < (n : Int) := by omega
      clear E hs hy hl
      go_enter Try.func14, Try.ntmps14
      go_wp2
      go_ret
      exact ⟨rfl, rfl⟩

theorem ref_xthere (A : Option Addr) (n c : Nat) (r : Int × Int) (w : World) (hn : n ≤ 65536) (hr : in64 r.1 ∧ in64 r.2) :
    Calls Try.prog 20 #[.slice A n c, .agg #[.int .i64 r.1, .int .i64 r.2]] w fun e w' => e = .returned (.bool (xThere n r)) ∧ w' = w.alloc (.cells #[.int .i64 r.1, .int .i64 r.2] 44) := by
  obtain ⟨s, l⟩ := r
  obtain ⟨⟨s0, s1⟩, l0, l1⟩ := hr
  simp only at s0 s1 l0 l1 ⊢
  by_cases h1 : 1 ≤ l
  · by_cases h2 : 0 ≤ s
    · by_cases h3 : s < n
      · by_cases h4 : l ≤ n
        · by_cases h5 : s + l ≤ n
          · rw [show xThere n (s, l) = true from decide_eq_true ⟨h1, h2, h3, h4, h5⟩]
            go_enter Try.func20, Try.ntmps20
            go_wp2
            go_ret
            exact ⟨rfl, rfl⟩
          · rw [show xThere n (s, l) = false from decide_eq_false (fun h => h5 h.2.2.2.2)]
            go_enter Try.func20, Try.ntmps20
            go_wp2
            go_ret
            exact ⟨rfl, rfl⟩
        · rw [show xThere n (s, l) = false from decide_eq_false (fun h => h4 h.2.2.2.1)]
          go_enter Try.func20, Try.ntmps20
          go_wp2
          go_ret
          exact ⟨rfl, rfl⟩
      · rw [show xThere n (s, l) = false from decide_eq_false (fun h => h3 h.2.2.1)]
        go_enter Try.func20, Try.ntmps20
        go_wp2
        go_ret
        exact ⟨rfl, rfl⟩
    · rw [show xThere n (s, l) = false from decide_eq_false (fun h => h2 h.2.1)]
      go_enter Try.func20, Try.ntmps20
      go_wp2
      go_ret
      exact ⟨rfl, rfl⟩
  · rw [show xThere n (s, l) = false from decide_eq_false (fun h => h1 h.1)]
    go_enter Try.func20, Try.ntmps20
    go_wp2
    go_ret
    exact ⟨rfl, rfl⟩

set_option maxHeartbeats 1000000 in
theorem ref_xruns (A : Option Addr) (n c : Nat) (x : List Int) (id : Int) (w : World) (hs : Sl w w.heap.size A n (x.map iv)) (hn : n ≤ 65536) (h0 : -9223372036854775808 ≤ id) (h1 : id ≤ 9223372036854775807) :
    Calls Try.prog 19 #[.slice A n c, .int .i64 id] w (OwnRuns w (xRuns x id)) := by
  obtain ⟨i0, hi, hz0, hz1, hz2⟩ := info_parts info_run
  have l1 : x.length = n := by have := hs.1; simpa using this
  have L1 := hidb l1
  have HS := hidb hs
  have hxl := runsAt_length x id (x.length + 1) 0
  rw [l1] at hxl
  have HXL : Hid ((xRuns x id).length ≤ n) := hidb (by
    have e : xRuns x id = runsAt x id (n + 1) 0 := by rw [← l1]; rfl
    rw [e]; omega)
  clear hs l1 hxl
  go_enter Try.func19, Try.ntmps19
  go_wp2
  go_loopw [5, 6] (fun v k wr => ∃ (p : Nat) (d : List (Int × Int)), p ≤ n + 1 ∧ k = .int .i64 p ∧ Hid (d ++ runsFrom x id p = xRuns x id) ∧ wr.ownsRow w.heap.size 44 2 v d.length (rcells d) ∧ Below w.heap.size w wr) (fun _ k _ => (n + 1 - intOf k).toNat)
  case atStart => exact ⟨0, [], by omega, rfl, hidb rfl, World.ownsRow_made w #[] 0 (Nat.le_refl _) (by unfold maxLen; omega) rfl, (Below.refl _ _).alloc (Nat.le_refl _) _⟩
  case round =>
    obtain ⟨p, d, hp, rfl, HD, hown, hbel⟩ := hrel
    by_cases hlt : p < n
    · have hbsz := hbel.size
      have HS2 := hidb (HS.out.below hbel)
      have HOWN := hidb hown
      have HBEL := hidb hbel
      clear hown hbel
      have hrl := runLen_le x id p
      rw [L1.out] at hrl
      obtain ⟨R, hR⟩ : ∃ R, runLen x id p = R := ⟨_, rfl⟩
      rw [hR] at hrl
      have HR := hidb hR
      clear hR
      obtain ⟨wo, rfl⟩ : ∃ wo : World, wo = wr := ⟨_, rfl⟩
      go_wp2
      go_loop [7] (fun k => ∃ m : Nat, m ≤ R ∧ k = .int .i64 m) (fun k => (n - intOf k).toNat)
      case atStart => exact ⟨0, by omega, rfl⟩
      case round =>
        obtain ⟨m, hm, rfl⟩ := hrel
        by_cases hmr : m < R
        · obtain ⟨b, off, y, rfl, hy, hc⟩ := HS2.out.int_ (j := p + m) (by omega)
          have hyid : y = id := (runLen_more x id p m y (by rw [HR.out]; omega) hy).1 (by rw [HR.out]; exact hmr)
          subst hyid
          have eb : (y == y) = true := by simp
          have hb1 : (p : Int) + (m : Int) < (n : Int) := by omega
          have hb0 : (0 : Int) ≤ (p : Int) + (m : Int) := by omega
          have hbn : ((p : Int) + (m : Int)).toNat = p + m := by omega
          clear hy
          go_wp2
          go_round
          case rel => exact ⟨m + 1, by omega, by go_num⟩
          case measure => simp [intOf]; omega
        · have hmR : Hid (m = R) := hidb (by omega)
          have hway : (n : Int) ≤ (p : Int) + (m : Int) ∨ ∃ b off y, A = some ⟨b, off, none⟩ ∧ (p : Int) + (m : Int) < (n : Int) ∧ wo.cell? ⟨b, off + (p + m), none⟩ = some (.int .i64 y) ∧ (y == id) = false := by
            by_cases hpm : p + m < n
            · right
              obtain ⟨b, off, y, e, hy, hc⟩ := HS2.out.int_ (j := p + m) hpm
              refine ⟨b, off, y, e, by omega, hc, ?_⟩
              have := runLen_more x id p m y (by rw [HR.out]; omega) hy
              rw [HR.out] at this
              by_cases hyi : y = id
              · exact absurd (this.2 hyi) hmr
              · simpa using hyi
            · left; omega
          have hb0 : (0 : Int) ≤ (p : Int) + (m : Int) := by omega
          have hbn : ((p : Int) + (m : Int)).toNat = p + m := by omega
          clear hmr
          by_cases hm0 : m = 0
          · have HD2 : Hid (d ++ runsFrom x id (p + 1) = xRuns x id) := hidb (by rw [← runsFrom_none x id p (by rw [L1.out]; exact hlt) (by rw [HR.out, ← hmR.out]; exact hm0)]; exact HD.out)
            have hway2 : ∃ b off y, A = some ⟨b, off, none⟩ ∧ wo.cell? ⟨b, off + p, none⟩ = some (.int .i64 y) ∧ (y == id) = false := by
              rcases hway with hw1 | ⟨b, off, y, e, _, hc, hyid⟩
              · omega
              · refine ⟨b, off, y, e, ?_, hyid⟩
                rw [hm0] at hc; exact hc
            obtain ⟨b, off, y, rfl, hc, hyid⟩ := hway2
            subst hm0
            have hp0 : (0 : Int) ≤ (p : Int) := by omega
            clear hway hb0 hbn
            go_wp2
            go_roundw
            case rel => exact ⟨p + 1, d, by omega, by go_num, HD2, HOWN.out, HBEL.out⟩
            case measure => simp [intOf]; omega
          · have HD2 : Hid ((d ++ [((p : Int), (m : Int))]) ++ runsFrom x id (p + m + 1) = xRuns x id) := hidb (by
              rw [← HD.out, runsFrom_some x id p (by rw [L1.out]; exact hlt) (by have := hmR.out; rw [HR.out]; omega), HR.out, ← hmR.out, List.append_assoc]; rfl)
            have hdl : d.length ≤ n := by
              have := congrArg List.length HD.out
              have h2 := HXL.out
              rw [List.length_append] at this; omega
            have hown := HOWN.out
            rcases hway with hw1 | ⟨b, off, y, rfl, hw1, hc, hyid⟩
            · go_wp2_with (at_builtin; refine wpList_append_two wo rfl _ _ 28 rfl w.heap.size 44 i0 (.agg #[.int .i64 0, .int .i64 0]) 16 Try.underlying28 hi hz0 hz1 hz2 rfl _ _ _ rfl (by exact hown) hbsz (.int .i64 (p : Int)) (.int .i64 (m : Int)) rfl rfl _ rfl (by unfold maxLen; omega) (by omega) ?_; intro v1 w1 hown1 hb1)
              have HO : Hid (w1.ownsRow w.heap.size 44 2 v1 (d ++ [((p : Int), (m : Int))]).length (rcells (d ++ [((p : Int), (m : Int))]))) := hidb (by rw [List.length_append, rcells_append]; exact hown1)
              have HB1 := hidb hb1
              clear hown1 hb1 hown
              go_roundw
              case rel => exact ⟨p + m + 1, d ++ [((p : Int), (m : Int))], by omega, by go_num, HD2, HO.out, HBEL.out.trans HB1.out⟩
              case measure => simp [intOf]; omega
            · go_wp2_with (at_builtin; refine wpList_append_two wo rfl _ _ 28 rfl w.heap.size 44 i0 (.agg #[.int .i64 0, .int .i64 0]) 16 Try.underlying28 hi hz0 hz1 hz2 rfl _ _ _ rfl (by exact hown) hbsz (.int .i64 (p : Int)) (.int .i64 (m : Int)) rfl rfl _ rfl (by unfold maxLen; omega) (by omega) ?_; intro v1 w1 hown1 hb1)
              have HO : Hid (w1.ownsRow w.heap.size 44 2 v1 (d ++ [((p : Int), (m : Int))]).length (rcells (d ++ [((p : Int), (m : Int))]))) := hidb (by rw [List.length_append, rcells_append]; exact hown1)
              have HB1 := hidb hb1
              clear hown1 hb1 hown
              go_roundw
              case rel => exact ⟨p + m + 1, d ++ [((p : Int), (m : Int))], by omega, by go_num, HD2, HO.out, HBEL.out.trans HB1.out⟩
              case measure => simp [intOf]; omega
    · have hxp : x.length ≤ p := by have := L1.out; omega
      have P : Hid (OwnRuns w (xRuns x id) (.returned u5) wr) := hidb (by
        have hd := HD.out
        rw [runsFrom_end x id p hxp, List.append_nil] at hd
        rw [← hd]
        obtain ⟨A', c', rfl⟩ := own_form2 hown
        exact ⟨A', c', rfl, hown, hbel⟩)
      clear hown hbel
      go_wp2
      go_ret
      exact P.out

end Go.Proofs.Ytoghahldlnhpdaa
