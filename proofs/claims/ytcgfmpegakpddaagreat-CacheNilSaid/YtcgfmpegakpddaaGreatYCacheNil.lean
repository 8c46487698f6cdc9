/- Which numbers the closures of caches' calls meet: whether any is asked so. -/
import Derived.Test.YtcgfmpegakpddaaGreatPoolSpec
import Derived.Test.YtcgfmpegakpddaaGreatYCacheLaws0
import Derived.Test.YtcgfmpegakpddaaGreatShelf4
namespace Go.Proofs.YtcgfmpegakpddaaGreat
open Go.RowKit Go.Maps
set_option linter.unusedVariables false

/-- slices.IndexFunc at numbers, with that closure: what it asks of each one may turn the world. -/
theorem code_cf_idx {t : Nat} (p : Nat → Bool) (I : Nat → World → Prop) (A : Option Addr) (n c : Nat) (zs : List Int) (w : World) (hI : I 0 w) (hs : ∀ j W, I j W → Sl W W.heap.size A n (zs.map iv))
    (hq : ∀ j z W, zs[j]? = some z → I j W → Calls Tryz.prog 92 #[.int .i64 z, .pointer (some ⟨t, 0, none⟩)] W fun e w' => e = .returned (.bool (p j)) ∧ I (j + 1) w') (hn : n ≤ 131072) :
    Calls Tryz.prog 118 #[.slice A n c, .func (.func 92) #[] #[.pointer (some ⟨t, 0, none⟩)]] w fun e w' => (∃ r : Int, e = .returned (.int .i64 r) ∧ -1 ≤ r ∧ r ≤ 9223372036854775807 ∧ decide (0 ≤ r) = (List.range n).any p) ∧ ∃ j, j ≤ n ∧ I j w' := by
  have HL : Hid (zs.length = n) := hidb (by have := (hs 0 w hI).1; simpa using this)
  have HI := hidb hI
  have HS := hidb hs
  have HQ := hidb hq
  clear hI hs hq
  go_enter Tryz.func118, Tryz.ntmps118
  go_wp2
  go_loopw [8] (fun k wr => ∃ j : Nat, j ≤ n ∧ Hid (∀ i, i < j → p i = false) ∧ k = .int .i64 j ∧ Hid (I j wr)) (fun k _ => (n - intOf k).toNat)
  case atStart => exact ⟨0, by omega, hidb (fun i h => absurd h (Nat.not_lt_zero _)), rfl, HI⟩
  case round =>
    obtain ⟨j, hj, HA, rfl, HJ⟩ := hrel
    by_cases hlt : j < n
    · obtain ⟨b, off, z, rfl, hx, hc⟩ := (HS.out j wr HJ.out).int_ hlt
      have c1 := HQ.out j z wr hx HJ.out
      have hj0 : (0 : Int) ≤ (j : Int) := by omega
      have hj1 : (j : Int) < (n : Int) := by omega
      clear hx
      cases hT : p j with
      | false =>
        rw [hT] at c1
        have HA2 : Hid (∀ i, i < j + 1 → p i = false) := hidb (fun i hi => by
          by_cases h : i = j
          · subst h; exact hT
          · exact HA.out i (by omega))
        clear hT
        go_wp2_with (first | (go_at_call 92; (with_reducible refine c1.mono ?_); rintro e w1 ⟨rfl, hi1⟩))
        go_roundw
        case rel => exact ⟨j + 1, by omega, HA2, by go_num, hidb hi1⟩
        case measure => simp [intOf]; omega
      | true =>
        rw [hT] at c1
        have HF : Hid ((List.range n).any p = true) := hidb (by
          rw [List.any_eq_true]
          exact ⟨j, List.mem_range.2 hlt, hT⟩)
        clear hT
        go_wp2_with (first | (go_at_call 92; (with_reducible refine c1.mono ?_); rintro e w1 ⟨rfl, hi1⟩))
        go_ret
        exact ⟨⟨j, rfl, by omega, by omega, by rw [HF.out]; exact decide_eq_true (by omega)⟩, j + 1, by omega, hi1⟩
    · have HF : Hid ((List.range n).any p = false) := hidb (by
        rw [List.any_eq_false]
        intro i hi
        have := HA.out i (by have := List.mem_range.1 hi; omega)
        simp [this])
      go_wp2
      go_ret
      exact ⟨⟨-1, rfl, by omega, by omega, by rw [HF.out]; rfl⟩, j, hj, HJ.out⟩
theorem code_cf_has {t : Nat} (p : Nat → Bool) (I : Nat → World → Prop) (A : Option Addr) (n c : Nat) (zs : List Int) (w : World) (hI : I 0 w) (hs : ∀ j W, I j W → Sl W W.heap.size A n (zs.map iv))
    (hq : ∀ j z W, zs[j]? = some z → I j W → Calls Tryz.prog 92 #[.int .i64 z, .pointer (some ⟨t, 0, none⟩)] W fun e w' => e = .returned (.bool (p j)) ∧ I (j + 1) w') (hn : n ≤ 131072) :
    Calls Tryz.prog 86 #[.slice A n c, .func (.func 92) #[] #[.pointer (some ⟨t, 0, none⟩)]] w fun e w' => e = .returned (.bool ((List.range n).any p)) ∧ ∃ j, j ≤ n ∧ I j w' := by
  have c1 := code_cf_idx p I A n c zs w hI hs hq hn
  clear hI hs hq
  go_enter Tryz.func86, Tryz.ntmps86
  go_wp2_with (go_at_call 118; (with_reducible refine c1.mono ?_); rintro e w1 ⟨⟨r, rfl, h1, h2, h3⟩, hj1⟩)
  go_ret
  exact ⟨rfl, hj1⟩


/-- slices.IndexFunc at numbers, with that closure: what it asks of each one may turn the world. -/
theorem code_cg1_idx {s t : Nat} (p : Nat → Bool) (I : Nat → World → Prop) (A : Option Addr) (n c : Nat) (zs : List Int) (w : World) (hI : I 0 w) (hs : ∀ j W, I j W → Sl W W.heap.size A n (zs.map iv))
    (hq : ∀ j z W, zs[j]? = some z → I j W → Calls Tryz.prog 87 #[.int .i64 z, .pointer (some ⟨s, 0, none⟩), .pointer (some ⟨t, 0, none⟩)] W fun e w' => e = .returned (.bool (p j)) ∧ I (j + 1) w') (hn : n ≤ 131072) :
    Calls Tryz.prog 118 #[.slice A n c, .func (.func 87) #[] #[.pointer (some ⟨s, 0, none⟩), .pointer (some ⟨t, 0, none⟩)]] w fun e w' => (∃ r : Int, e = .returned (.int .i64 r) ∧ -1 ≤ r ∧ r ≤ 9223372036854775807 ∧ decide (0 ≤ r) = (List.range n).any p) ∧ ∃ j, j ≤ n ∧ I j w' := by
  have HL : Hid (zs.length = n) := hidb (by have := (hs 0 w hI).1; simpa using this)
  have HI := hidb hI
  have HS := hidb hs
  have HQ := hidb hq
  clear hI hs hq
  go_enter Tryz.func118, Tryz.ntmps118
  go_wp2
  go_loopw [8] (fun k wr => ∃ j : Nat, j ≤ n ∧ Hid (∀ i, i < j → p i = false) ∧ k = .int .i64 j ∧ Hid (I j wr)) (fun k _ => (n - intOf k).toNat)
  case atStart => exact ⟨0, by omega, hidb (fun i h => absurd h (Nat.not_lt_zero _)), rfl, HI⟩
  case round =>
    obtain ⟨j, hj, HA, rfl, HJ⟩ := hrel
    by_cases hlt : j < n
    · obtain ⟨b, off, z, rfl, hx, hc⟩ := (HS.out j wr HJ.out).int_ hlt
      have c1 := HQ.out j z wr hx HJ.out
      have hj0 : (0 : Int) ≤ (j : Int) := by omega
      have hj1 : (j : Int) < (n : Int) := by omega
      clear hx
      cases hT : p j with
      | false =>
        rw [hT] at c1
        have HA2 : Hid (∀ i, i < j + 1 → p i = false) := hidb (fun i hi => by
          by_cases h : i = j
          · subst h; exact hT
          · exact HA.out i (by omega))
        clear hT
        go_wp2_with (first | (go_at_call 87; (with_reducible refine c1.mono ?_); rintro e w1 ⟨rfl, hi1⟩))
        go_roundw
        case rel => exact ⟨j + 1, by omega, HA2, by go_num, hidb hi1⟩
        case measure => simp [intOf]; omega
      | true =>
        rw [hT] at c1
        have HF : Hid ((List.range n).any p = true) := hidb (by
          rw [List.any_eq_true]
          exact ⟨j, List.mem_range.2 hlt, hT⟩)
        clear hT
        go_wp2_with (first | (go_at_call 87; (with_reducible refine c1.mono ?_); rintro e w1 ⟨rfl, hi1⟩))
        go_ret
        exact ⟨⟨j, rfl, by omega, by omega, by rw [HF.out]; exact decide_eq_true (by omega)⟩, j + 1, by omega, hi1⟩
    · have HF : Hid ((List.range n).any p = false) := hidb (by
        rw [List.any_eq_false]
        intro i hi
        have := HA.out i (by have := List.mem_range.1 hi; omega)
        simp [this])
      go_wp2
      go_ret
      exact ⟨⟨-1, rfl, by omega, by omega, by rw [HF.out]; rfl⟩, j, hj, HJ.out⟩
theorem code_cg1_has {s t : Nat} (p : Nat → Bool) (I : Nat → World → Prop) (A : Option Addr) (n c : Nat) (zs : List Int) (w : World) (hI : I 0 w) (hs : ∀ j W, I j W → Sl W W.heap.size A n (zs.map iv))
    (hq : ∀ j z W, zs[j]? = some z → I j W → Calls Tryz.prog 87 #[.int .i64 z, .pointer (some ⟨s, 0, none⟩), .pointer (some ⟨t, 0, none⟩)] W fun e w' => e = .returned (.bool (p j)) ∧ I (j + 1) w') (hn : n ≤ 131072) :
    Calls Tryz.prog 86 #[.slice A n c, .func (.func 87) #[] #[.pointer (some ⟨s, 0, none⟩), .pointer (some ⟨t, 0, none⟩)]] w fun e w' => e = .returned (.bool ((List.range n).any p)) ∧ ∃ j, j ≤ n ∧ I j w' := by
  have c1 := code_cg1_idx p I A n c zs w hI hs hq hn
  clear hI hs hq
  go_enter Tryz.func86, Tryz.ntmps86
  go_wp2_with (go_at_call 118; (with_reducible refine c1.mono ?_); rintro e w1 ⟨⟨r, rfl, h1, h2, h3⟩, hj1⟩)
  go_ret
  exact ⟨rfl, hj1⟩

/-- slices.IndexFunc at numbers, with that closure: what it asks of each one may turn the world. -/
theorem code_cg2_idx {t : Nat} (p : Nat → Bool) (I : Nat → World → Prop) (A : Option Addr) (n c : Nat) (zs : List Int) (w : World) (hI : I 0 w) (hs : ∀ j W, I j W → Sl W W.heap.size A n (zs.map iv))
    (hq : ∀ j z W, zs[j]? = some z → I j W → Calls Tryz.prog 88 #[.int .i64 z, .pointer (some ⟨t, 0, none⟩)] W fun e w' => e = .returned (.bool (p j)) ∧ I (j + 1) w') (hn : n ≤ 131072) :
    Calls Tryz.prog 118 #[.slice A n c, .func (.func 88) #[] #[.pointer (some ⟨t, 0, none⟩)]] w fun e w' => (∃ r : Int, e = .returned (.int .i64 r) ∧ -1 ≤ r ∧ r ≤ 9223372036854775807 ∧ decide (0 ≤ r) = (List.range n).any p) ∧ ∃ j, j ≤ n ∧ I j w' := by
  have HL : Hid (zs.length = n) := hidb (by have := (hs 0 w hI).1; simpa using this)
  have HI := hidb hI
  have HS := hidb hs
  have HQ := hidb hq
  clear hI hs hq
  go_enter Tryz.func118, Tryz.ntmps118
  go_wp2
  go_loopw [8] (fun k wr => ∃ j : Nat, j ≤ n ∧ Hid (∀ i, i < j → p i = false) ∧ k = .int .i64 j ∧ Hid (I j wr)) (fun k _ => (n - intOf k).toNat)
  case atStart => exact ⟨0, by omega, hidb (fun i h => absurd h (Nat.not_lt_zero _)), rfl, HI⟩
  case round =>
    obtain ⟨j, hj, HA, rfl, HJ⟩ := hrel
    by_cases hlt : j < n
    · obtain ⟨b, off, z, rfl, hx, hc⟩ := (HS.out j wr HJ.out).int_ hlt
      have c1 := HQ.out j z wr hx HJ.out
      have hj0 : (0 : Int) ≤ (j : Int) := by omega
      have hj1 : (j : Int) < (n : Int) := by omega
      clear hx
      cases hT : p j with
      | false =>
        rw [hT] at c1
        have HA2 : Hid (∀ i, i < j + 1 → p i = false) := hidb (fun i hi => by
          by_cases h : i = j
          · subst h; exact hT
          · exact HA.out i (by omega))
        clear hT
        go_wp2_with (first | (go_at_call 88; (with_reducible refine c1.mono ?_); rintro e w1 ⟨rfl, hi1⟩))
        go_roundw
        case rel => exact ⟨j + 1, by omega, HA2, by go_num, hidb hi1⟩
        case measure => simp [intOf]; omega
      | true =>
        rw [hT] at c1
        have HF : Hid ((List.range n).any p = true) := hidb (by
          rw [List.any_eq_true]
          exact ⟨j, List.mem_range.2 hlt, hT⟩)
        clear hT
        go_wp2_with (first | (go_at_call 88; (with_reducible refine c1.mono ?_); rintro e w1 ⟨rfl, hi1⟩))
        go_ret
        exact ⟨⟨j, rfl, by omega, by omega, by rw [HF.out]; exact decide_eq_true (by omega)⟩, j + 1, by omega, hi1⟩
    · have HF : Hid ((List.range n).any p = false) := hidb (by
        rw [List.any_eq_false]
        intro i hi
        have := HA.out i (by have := List.mem_range.1 hi; omega)
        simp [this])
      go_wp2
      go_ret
      exact ⟨⟨-1, rfl, by omega, by omega, by rw [HF.out]; rfl⟩, j, hj, HJ.out⟩
theorem code_cg2_has {t : Nat} (p : Nat → Bool) (I : Nat → World → Prop) (A : Option Addr) (n c : Nat) (zs : List Int) (w : World) (hI : I 0 w) (hs : ∀ j W, I j W → Sl W W.heap.size A n (zs.map iv))
    (hq : ∀ j z W, zs[j]? = some z → I j W → Calls Tryz.prog 88 #[.int .i64 z, .pointer (some ⟨t, 0, none⟩)] W fun e w' => e = .returned (.bool (p j)) ∧ I (j + 1) w') (hn : n ≤ 131072) :
    Calls Tryz.prog 86 #[.slice A n c, .func (.func 88) #[] #[.pointer (some ⟨t, 0, none⟩)]] w fun e w' => e = .returned (.bool ((List.range n).any p)) ∧ ∃ j, j ≤ n ∧ I j w' := by
  have c1 := code_cg2_idx p I A n c zs w hI hs hq hn
  clear hI hs hq
  go_enter Tryz.func86, Tryz.ntmps86
  go_wp2_with (go_at_call 118; (with_reducible refine c1.mono ?_); rintro e w1 ⟨⟨r, rfl, h1, h2, h3⟩, hj1⟩)
  go_ret
  exact ⟨rfl, hj1⟩


end Go.Proofs.YtcgfmpegakpddaaGreat
/- What nil caches answer. -/
namespace Go.Proofs.YtcgfmpegakpddaaGreat
open Go.RowKit
set_option linter.unusedVariables false

theorem cn_list (proc order : Int) (w : World) :
    Calls Tryz.prog 79 #[.pointer none, .int .i64 proc, .int .i64 order] w fun e w' => e = .returned (.pointer none) ∧ Below w.heap.size w w' :=
  cc_list_no none proc order 0 none w ((cc_parts_nil w).mono fun e w' ⟨h1, h2⟩ => ⟨⟨_, _, _, h1⟩, h2⟩) (by omega)
theorem cn_take (proc order : Int) (w : World) :
    Calls Tryz.prog 40 #[.pointer none, .int .i64 proc, .int .i64 order] w fun e w' => e = .returned (.tuple #[.int .i64 0, .int .i64 1]) ∧ Below w.heap.size w w' := by
  have cl := cn_list proc order w
  go_enter Tryz.func40, Tryz.ntmps40
  go_wp2_with (go_at_call 79; (with_reducible refine cl.mono ?_); rintro e w1 ⟨rfl, hb⟩)
  go_ret2
  exact ⟨rfl, hb⟩
theorem cn_listof (proc order : Int) (w : World) :
    Calls Tryz.prog 35 #[.pointer none, .int .i64 proc, .int .i64 order] w fun e w' => e = .returned (.slice none 0 0) ∧ Below w.heap.size w w' := by
  have cl := cn_list proc order w
  go_enter Tryz.func35, Tryz.ntmps35
  go_wp2_with (go_at_call 79; (with_reducible refine cl.mono ?_); rintro e w1 ⟨rfl, hb⟩)
  go_ret
  exact ⟨rfl, hb⟩
theorem cn_all (w : World) :
    Calls Tryz.prog 37 #[.pointer none] w fun e w' => e = .returned (.slice none 0 0) ∧ Below w.heap.size w w' := by
  have cp := cc_parts_nil w
  have hf : ∀ W, (Instr.field 148 (.agg #[.pointer none, .pointer none, .slice none 0 0]) 2).run Tryz.prog W = .ok (.slice none 0 0) W := fun W => by kernel_rfl
  have cs := fun W => Tryz.slices_Sort_int_none none 0 W
  go_enter Tryz.func37, Tryz.ntmps37
  go_wp2_with (first
    | (go_at_call 82; (with_reducible refine cp.mono ?_); rintro e w1 ⟨rfl, hb⟩))
  have HB := hidb hb
  clear hb cp
  go_loopw [3, 4, 5, 10, 13] (fun v3 _ _ v10 _ wr => v3 = .slice none 0 0 ∧ v10 = .int .i64 0 ∧ wr = w1) (fun _ _ _ _ _ _ => 0)
  case atStart => exact ⟨rfl, rfl, rfl⟩
  case round =>
    obtain ⟨rfl, rfl, rfl⟩ := hrel
    go_wp2_with (first
      | (go_at_call 83; (with_reducible refine (cs _).mono ?_); rintro e w2 ⟨rfl, rfl⟩))
    go_ret
    exact ⟨rfl, HB.out⟩
theorem metC {X w1 : World} {v : Value} {t : TypeId} (hb : Below (X.alloc (.cells #[v] t)).heap.size (X.alloc (.cells #[v] t)) w1) : w1.cell? ⟨X.heap.size, 0, none⟩ = some v ∧ w1.frozen? ⟨X.heap.size, 0, none⟩ = false ∧ X.heap.size < w1.heap.size := by
  have h : (X.alloc (.cells #[v] t)).cell? ⟨X.heap.size, 0, none⟩ = some v := World.cell?_alloc_at _ _ _ 0 (by simp)
  have hz := hb.size
  rw [World.size_alloc] at hz
  exact ⟨(hb.cell (p := ⟨X.heap.size, 0, none⟩) (by simp)).trans h, (hb.frozen (p := ⟨X.heap.size, 0, none⟩) (by simp)).trans (World.frozen?_alloc_at _ _ _ _ rfl), by omega⟩
theorem metCd {X w1 : World} {v : Value} {t : TypeId} (hb : Below (X.alloc (.cells #[v] t)).drew.heap.size (X.alloc (.cells #[v] t)).drew w1) : w1.cell? ⟨X.heap.size, 0, none⟩ = some v ∧ w1.frozen? ⟨X.heap.size, 0, none⟩ = false ∧ X.heap.size < w1.heap.size :=
  metC ⟨hb.os, hb.tape, hb.output, hb.size, hb.block⟩
theorem metD {X w1 : World} {b : Nat} {v : Value} (hb : Below X.heap.size X w1) (h : X.cell? ⟨b, 0, none⟩ = some v ∧ X.frozen? ⟨b, 0, none⟩ = false ∧ b < X.heap.size) : w1.cell? ⟨b, 0, none⟩ = some v ∧ w1.frozen? ⟨b, 0, none⟩ = false ∧ b < w1.heap.size :=
  ⟨(hb.cell (p := ⟨b, 0, none⟩) h.2.2).trans h.1, (hb.frozen (p := ⟨b, 0, none⟩) h.2.2).trans h.2.1, Nat.lt_of_lt_of_le h.2.2 hb.size⟩
set_option maxHeartbeats 1000000 in
theorem cn_give (proc order : Int) (A : Option Addr) (m c : Nat) (w : World) :
    Calls Tryz.prog 41 #[.pointer none, .int .i64 proc, .int .i64 order, .slice A m c] w fun e w' => e = .returned (.int .i64 1) ∧ Below w.heap.size w w' := by
  obtain ⟨W0, hW0⟩ : ∃ W0, W0 = (w.alloc (.cells #[.pointer none] 64)).alloc (.cells #[.int .i64 order] 3) := ⟨_, rfl⟩
  have hB : Below w.heap.size w W0 := by rw [hW0]; exact ((Below.refl _ _).alloc (Nat.le_refl _) _).alloc (by simp) _
  have t4 : W0.cell? ⟨w.heap.size, 0, none⟩ = some (.pointer none) := by rw [hW0]; exact alloc_old _ (World.cell?_alloc_at _ _ _ 0 (by simp))
  have t6 : W0.cell? ⟨w.heap.size + 1, 0, none⟩ = some (.int .i64 order) := by rw [hW0]; simp [go_sem]
  have cl : ∀ W, W.cell? ⟨w.heap.size, 0, none⟩ = some (.pointer none) → W.cell? ⟨w.heap.size + 1, 0, none⟩ = some (.int .i64 order) → Calls Tryz.prog 79 #[.pointer none, .int .i64 proc, .int .i64 order] W fun e w' => e = .returned (.pointer none) ∧ (w'.cell? ⟨w.heap.size, 0, none⟩ = some (.pointer none) ∧ w'.cell? ⟨w.heap.size + 1, 0, none⟩ = some (.int .i64 order)) ∧ Below W.heap.size W w' := fun W h4 h6 => (cn_list proc order W).mono fun e w' ⟨h1, h2⟩ => ⟨h1, ⟨(h2.cell (p := ⟨w.heap.size, 0, none⟩) (lt_of_cell h4)).trans h4, (h2.cell (p := ⟨w.heap.size + 1, 0, none⟩) (lt_of_cell h6)).trans h6⟩, h2⟩
  have ca : ∀ W, W.cell? ⟨w.heap.size, 0, none⟩ = some (.pointer none) → W.cell? ⟨w.heap.size + 1, 0, none⟩ = some (.int .i64 order) → Calls Tryz.prog 37 #[.pointer none] W fun e w' => e = .returned (.slice none 0 0) ∧ (w'.cell? ⟨w.heap.size, 0, none⟩ = some (.pointer none) ∧ w'.cell? ⟨w.heap.size + 1, 0, none⟩ = some (.int .i64 order)) ∧ Below W.heap.size W w' := fun W h4 h6 => (cn_all W).mono fun e w' ⟨h1, h2⟩ => ⟨h1, ⟨(h2.cell (p := ⟨w.heap.size, 0, none⟩) (lt_of_cell h4)).trans h4, (h2.cell (p := ⟨w.heap.size + 1, 0, none⟩) (lt_of_cell h6)).trans h6⟩, h2⟩
  have hlt := hB.size
  have t4a := alloc_old (.cells #[.slice none 0 0] 38) t4
  have t6a := alloc_old (.cells #[.slice none 0 0] 38) t6
  go_enter Tryz.func41, Tryz.ntmps41
  go_wp2
  rw [← hW0]
  clear hW0
  go_region_law (first
    | (go_simp; go_at_call 79; (refine (cl _ (by first | exact t4 | exact alloc_old _ t4) (by first | exact t6 | exact alloc_old _ t6)).mono ?_); rintro e w1 ⟨rfl, ⟨t4, t6⟩, hb⟩; have hB : Below w.heap.size w w1 := (by first | exact hB.trans (hb.mono hB.size) | exact hB.drew.trans (hb.mono hB.drew.size) | exact (hB.alloc hB.size (.cells #[.slice none 0 0] 38)).trans (hb.mono (hB.alloc hB.size _).size) | exact (hB.alloc hB.size (.cells #[.slice none 0 0] 38)).drew.trans (hb.mono (hB.alloc hB.size _).drew.size)); have nm := (by first | exact metC hb | exact metCd hb | exact metD hb nm | exact trivial); have n0 := (by first | exact nm.1 | exact trivial); have n1 := (by first | exact nm.2.1 | exact trivial); have t4a := alloc_old (.cells #[.slice none 0 0] 38) t4; have t6a := alloc_old (.cells #[.slice none 0 0] 38) t6; have hzz := hB.size; clear hb)
    | (go_simp; go_at_call 37; (refine (ca _ (by first | exact t4 | exact alloc_old _ t4) (by first | exact t6 | exact alloc_old _ t6)).mono ?_); rintro e w1 ⟨rfl, ⟨t4, t6⟩, hb⟩; have hB : Below w.heap.size w w1 := (by first | exact hB.trans (hb.mono hB.size) | exact hB.drew.trans (hb.mono hB.drew.size) | exact (hB.alloc hB.size (.cells #[.slice none 0 0] 38)).trans (hb.mono (hB.alloc hB.size _).size) | exact (hB.alloc hB.size (.cells #[.slice none 0 0] 38)).drew.trans (hb.mono (hB.alloc hB.size _).drew.size)); have nm := (by first | exact metC hb | exact metCd hb | exact metD hb nm | exact trivial); have n0 := (by first | exact nm.1 | exact trivial); have n1 := (by first | exact nm.2.1 | exact trivial); have t4a := alloc_old (.cells #[.slice none 0 0] 38) t4; have t6a := alloc_old (.cells #[.slice none 0 0] 38) t6; have hzz := hB.size; clear hb))
  all_goals go_wp2
  all_goals go_ret
  all_goals first
    | exact ⟨rfl, hB⟩
    | exact ⟨rfl, hB.alloc hB.size _⟩
    | exact ⟨rfl, Below.setCell hB (by first | omega | (simp; omega)) _⟩
/-- Flush$1: no processor is there. -/
theorem cn_flush1 (t : Nat) (z : Int) (w : World) (h : w.cell? ⟨t, 0, none⟩ = some (.pointer none)) :
    Calls Tryz.prog 92 #[.int .i64 z, .pointer (some ⟨t, 0, none⟩)] w fun e w' => e = .returned (.bool true) ∧ Below w.heap.size w w' := by
  have cl := cn_list z 0 w
  go_enter Tryz.func92, Tryz.ntmps92
  go_wp2_with (go_at_call 79; (with_reducible refine cl.mono ?_); rintro e w1 ⟨rfl, hb⟩)
  go_ret
  exact ⟨rfl, hb⟩
theorem cn_flush (A : Option Addr) (m c : Nat) (l : List Int) (w : World) (hs : Sl w w.heap.size A m (l.map iv)) (hm : m ≤ 100000) :
    Calls Tryz.prog 42 #[.pointer none, .slice A m c] w fun e w' => e = .returned (.int .i64 (if m = 0 then 0 else 1)) ∧ Below w.heap.size w w' := by
  obtain ⟨W0, hW0⟩ : ∃ W0, W0 = w.alloc (.cells #[.pointer none] 64) := ⟨_, rfl⟩
  have hB : Below w.heap.size w W0 := by rw [hW0]; exact (Below.refl _ _).alloc (Nat.le_refl _) _
  have t2 : W0.cell? ⟨w.heap.size, 0, none⟩ = some (.pointer none) := by rw [hW0]; exact World.cell?_alloc_at _ _ _ 0 (by simp)
  have hlt : w.heap.size < W0.heap.size := lt_of_cell t2
  have hs0 := (hs.below hB).more hB.size
  have c1 := code_cf_has (t := w.heap.size) (fun _ => true) (fun _ W => Below W0.heap.size W0 W) A m c l W0 (Below.refl _ _) (fun j W hb => (hs0.below hb).more hb.size) (fun j z W hz hb => (cn_flush1 w.heap.size z W ((hb.cell (p := ⟨w.heap.size, 0, none⟩) hlt).trans t2)).mono fun e w' ⟨h1, h2⟩ => ⟨h1, hb.trans (h2.mono hb.size)⟩) (by omega)
  by_cases h0 : m = 0
  · subst h0
    rw [show (List.range 0).any (fun _ => true) = false from rfl] at c1
    rw [if_pos rfl]
    have c2 : Calls Tryz.prog 86 #[.slice A 0 c, .func (.func 92) #[] #[.pointer (some ⟨w.heap.size, 0, none⟩)]] W0 fun e w' => e = .returned (.bool false) ∧ Below w.heap.size w w' := c1.mono fun e w' ⟨h1, j, _, h2⟩ => ⟨h1, hB.trans (h2.mono hB.size)⟩
    have HW0 := hidb hW0
    clear c1 hs hs0 hW0
    go_enter Tryz.func42, Tryz.ntmps42
    go_wp2_with (first
      | (go_at_call 86; rw [← HW0.out]; (with_reducible refine c2.mono ?_); rintro e w1 ⟨rfl, hb1⟩; have P := hidb hb1; clear hb1))
    go_loopw [6, 7, 13, 17] (fun _ _ v13 _ wr => v13 = .int .i64 0 ∧ wr = w1) (fun _ _ _ _ _ => 0)
    case atStart => exact ⟨rfl, rfl⟩
    case round =>
      obtain ⟨rfl, rfl⟩ := hrel
      go_wp2
      go_ret
      exact ⟨rfl, P.out⟩
  · rw [if_neg h0]
    have hany : (List.range m).any (fun _ => true) = true := by
      rw [List.any_eq_true]
      exact ⟨0, List.mem_range.2 (by omega), rfl⟩
    rw [hany] at c1
    have c2 : Calls Tryz.prog 86 #[.slice A m c, .func (.func 92) #[] #[.pointer (some ⟨w.heap.size, 0, none⟩)]] W0 fun e w' => e = .returned (.bool true) ∧ Below w.heap.size w w' := c1.mono fun e w' ⟨h1, j, _, h2⟩ => ⟨h1, hB.trans (h2.mono hB.size)⟩
    have HW0 := hidb hW0
    clear c1 hs hs0 hW0
    go_enter Tryz.func42, Tryz.ntmps42
    go_wp2_with (first
      | (go_at_call 86; rw [← HW0.out]; (with_reducible refine c2.mono ?_); rintro e w1 ⟨rfl, hb1⟩))
    go_ret
    exact ⟨rfl, hb1⟩

end Go.Proofs.YtcgfmpegakpddaaGreat
/- Layer 11's statement on nil caches. -/
namespace Go.Proofs.YtcgfmpegakpddaaGreat
open Go.RowKit
set_option linter.unusedVariables false

/-- Numbers that came in. -/
theorem read_ids11 {H : Type} {enc : TypeId × Value → H} {W : World} {sp : Nat → Bool} {hd : Bool} {v : Value} {d : DataW H} {ps : List MemPlace} (h : DataW.Trod enc Tryz.prog W 0 sp hd 38 v d ps) :
    ∃ (A : Option Addr) (len cap : Nat) (l : List Int), v.cells.toList = [.slice A len cap] ∧ len ≤ maxLen ∧ Sl W W.heap.size A len (l.map iv) ∧ ∀ i ∈ l, in64 i := by
  obtain ⟨fuel, hf⟩ := h
  obtain ⟨A, len, cap, zs, e1, hlen, hsl, hwf⟩ := read_ints Tryz.underlying38 Tryz.underlying3 (by kernel_rfl) hf
  exact ⟨A, len, cap, zs, e1, hlen, hsl, fun x hx => wf_in64 (hwf x hx)⟩
theorem bel_tr11 {W X Y : World} (h : Below W.heap.size W X) (k : Below X.heap.size X Y) : Below W.heap.size W Y := h.trans (k.mono h.size)

set_option maxRecDepth 100000 in
set_option maxHeartbeats 2000000 in
theorem cacheNil_any (proc order : Int) (A : Option Addr) (m c : Nat) (l : List Int) (w : World) (h0 : in64 proc) (h1 : in64 order) (hm : m ≤ maxLen) (hs : Sl w w.heap.size A m (l.map iv)) :
    Calls Tryz.prog 8 #[.int .i64 proc, .int .i64 order, .slice A m c] w fun e w' => e = .returned (.bool true) ∧ Below w.heap.size w w' := by
  have cw := fun W => awake11 W
  unfold maxLen at hm
  by_cases g0 : (5 : Int) < (m : Int)
  · clear hs
    --@1
    go_enter Tryz.func8, Tryz.ntmps8
    go_wp2_with (go_at_call 31; (with_reducible refine (cw _).mono ?_); rintro e w1 ⟨rfl, hb⟩)
    go_ret
    exact ⟨rfl, hb⟩
  have cn := cc_new_no proc none none w (Or.inr (Or.inr rfl))
  have ct := cn_take proc order w
  have cg := fun W => cn_give proc order A m c W
  have CF : Hid (∀ W, Below w.heap.size w W → Calls Tryz.prog 42 #[.pointer none, .slice A m c] W fun e w' => e = .returned (.int .i64 (if m = 0 then 0 else 1)) ∧ Below W.heap.size W w') := hidb (fun W hb => cn_flush A m c l W ((hs.below hb).more hb.size) (by omega))
  have cl := fun W => cn_listof proc order W
  have ca := fun W => cn_all W
  clear hs
  by_cases hm0 : m = 0
  · subst hm0
    rw [if_pos rfl] at CF
    clear g0
    --@2
    go_enter Tryz.func8, Tryz.ntmps8
    go_wp2_with (first
      | (go_at_call 43; (with_reducible refine cn.mono ?_); rintro e w1 ⟨rfl, rfl⟩)
      | (go_at_call 40; (with_reducible refine ct.mono ?_); rintro e w2 ⟨rfl, hb2⟩)
      | (go_at_call 41; (with_reducible refine (cg _).mono ?_); rintro e w3 ⟨rfl, hb3⟩; have cf := CF.out w3 (bel_tr11 hb2 hb3))
      | (go_at_call 42; (with_reducible refine cf.mono ?_); rintro e w4 ⟨rfl, hb4⟩)
      | (go_at_call 35; (with_reducible refine (cl _).mono ?_); rintro e w5 ⟨rfl, hb5⟩)
      | (go_at_call 37; (with_reducible refine (ca _).mono ?_); rintro e w6 ⟨rfl, hb6⟩)
      | (go_at_call 31; (with_reducible refine (cw _).mono ?_); rintro e w7 ⟨rfl, hb7⟩))
    go_ret
    exact ⟨rfl, bel_tr11 (bel_tr11 (bel_tr11 (bel_tr11 (bel_tr11 hb2 hb3) hb4) hb5) hb6) hb7⟩
  · rw [if_neg hm0] at CF
    have g1 : (0 : Int) < (m : Int) := by omega
    --@3
    go_enter Tryz.func8, Tryz.ntmps8
    go_wp2_with (first
      | (go_at_call 43; (with_reducible refine cn.mono ?_); rintro e w1 ⟨rfl, rfl⟩)
      | (go_at_call 40; (with_reducible refine ct.mono ?_); rintro e w2 ⟨rfl, hb2⟩)
      | (go_at_call 41; (with_reducible refine (cg _).mono ?_); rintro e w3 ⟨rfl, hb3⟩; have cf := CF.out w3 (bel_tr11 hb2 hb3))
      | (go_at_call 42; (with_reducible refine cf.mono ?_); rintro e w4 ⟨rfl, hb4⟩)
      | (go_at_call 35; (with_reducible refine (cl _).mono ?_); rintro e w5 ⟨rfl, hb5⟩)
      | (go_at_call 37; (with_reducible refine (ca _).mono ?_); rintro e w6 ⟨rfl, hb6⟩)
      | (go_at_call 31; (with_reducible refine (cw _).mono ?_); rintro e w7 ⟨rfl, hb7⟩))
    go_ret
    exact ⟨rfl, bel_tr11 (bel_tr11 (bel_tr11 (bel_tr11 (bel_tr11 hb2 hb3) hb4) hb5) hb6) hb7⟩

end Go.Proofs.YtcgfmpegakpddaaGreat
