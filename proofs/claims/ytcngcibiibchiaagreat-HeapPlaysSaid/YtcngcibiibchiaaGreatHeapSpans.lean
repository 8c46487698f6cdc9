/- What Spans of layer 7 (heap) returns. -/
import Derived.Test.YtcngcibiibchiaaGreatHeapCollect
namespace Go.Proofs.YtcngcibiibchiaaGreat
open Go.RowKit Go.Maps Go.Shelf
set_option linter.unusedVariables false

set_option maxRecDepth 100000 in
set_option maxHeartbeats 1000000 in
theorem values1_nil_in (F : Fence) (n : Nat) (hf : F.fn 61) (hro : F.round = none) (l Bm : Nat) (J : List (Int × Int × Int × Int) → World → Prop) (W : World) (hJ : AbidesFrom W.heap.size J)
    (hm : W.cell? ⟨Bm, 0, none⟩ = some (.map none)) (h0 : J [] W) :
    CallsIn F n Tryz.prog 61 #[.func (.yield l) #[] #[], .pointer (some ⟨Bm, 0, none⟩)] W fun e W' => (∃ v, e = .returned v) ∧ J [] W' := by
  refine callsIn_of_wp Tryz.func61 rfl hf ?_ hro
  simp only [Tryz.ntmps61, List.size_toArray, List.length_cons, List.length_nil, Nat.reduceAdd, Nat.reduceSub, Array.replicate_succ, Array.replicate_zero, List.push_toArray, List.append_toArray, List.nil_append, List.cons_append]
  have hrg := run_range_nilMap (P := Tryz.prog) W 63 _ _ Tryz.underlying63
  have hnx : ∀ ty, (Instr.next (.pointer (some ⟨W.heap.size, 0, none⟩)) false ty).run Tryz.prog (W.alloc (.mapIter none 0 #[] 0)) = _ := fun ty => run_next_nilMap _ ty 0 0 #[]
  gi_wp2
  refine wpIn_loop_rounds 1 ?_
  rw [roundsIn_succ]
  gi_wp2
  go_end0
  exact ⟨⟨_, rfl⟩, hJ [] W _ none h0 (World.grownBy_alloc W _ none) (fun r e => by cases e)⟩
theorem values_stops_nil (F : Fence) (n : Nat) (h8 : F.fn 61) (hro : F.round = none) (Bm : Nat) (w : World) (hm : w.cell? ⟨Bm, 0, none⟩ = some (.map none)) :
    SeqStopsK F n Tryz.prog 61 #[.pointer (some ⟨Bm, 0, none⟩)] encV KeepsWalks (fun ss => ss = []) (fun _ => True) 0 w := fun l0 J Jx W hW hJ _ _ h0 =>
  (values1_nil_in F n h8 hro l0 Bm J W hJ ((hW.cell (p := ⟨Bm, 0, none⟩) (lt_of_cell hm)).trans hm) h0).mono fun _ _ ⟨he, hj⟩ => ⟨he, .inl ⟨[], rfl, hj⟩⟩
theorem code_collect_nil (Bm : Nat) (w : World) (hm : w.cell? ⟨Bm, 0, none⟩ = some (.map none)) :
    Calls Tryz.prog 59 #[.func (.func 61) #[] #[.pointer (some ⟨Bm, 0, none⟩)]] w fun e w' => ∃ A c ss, e = .returned (.slice A (List.length ss) c) ∧ AllOf [] ss ∧ w'.ownsRow w.heap.size 43 4 (.slice A ss.length c) ss.length (cellsAll scells ss) ∧ Below w.heap.size w w' := by
  refine ((callsIn_wide (n := 6)).1 (collect_in Fence.wide 6 trivial trivial rfl (by omega) _ _ trivial (enters_of Tryz.func61 (by kernel_rfl) rfl) (fun ss => ss = []) 0 (by omega) w
    (values_stops_nil Fence.wide _ trivial rfl Bm w hm))).mono ?_
  rintro e w' ⟨v, ss, rfl, rfl, hrow, hb⟩
  rcases hrow.2 with ⟨rfl, h0⟩ | ⟨g, cap, cur, rfl, rest⟩
  · exact ⟨none, 0, [], rfl, ⟨List.nodup_nil, fun s => Iff.rfl⟩, hrow, hb⟩
  · exact ⟨_, _, [], rfl, ⟨List.nodup_nil, fun s => Iff.rfl⟩, hrow, hb⟩

set_option maxHeartbeats 2000000 in
/-- The sort of no spans. -/
theorem isort_none (p : Option Addr) (cap : Nat) (fv : Value) (w : World) :
    Calls Tryz.prog 96 #[.slice p 0 cap, .int .i64 0, .int .i64 0, fv] w fun e w' => e = .returned (.tuple #[]) ∧ w' = w := by
  go_enter Tryz.func96, Tryz.ntmps96
  go_wp2
  refine wp_loop_rounds 1 ?_
  rw [rounds_succ]
  go_wp2
  go_end0
  exact ⟨rfl, rfl⟩
set_option maxHeartbeats 2000000 in
set_option maxRecDepth 100000 in
theorem pdq_none (p : Option Addr) (cap : Nat) (lim : Int) (fv : Value) (w : World) :
    Calls Tryz.prog 77 #[.slice p 0 cap, .int .i64 0, .int .i64 0, .int .i64 lim, fv] w fun e w' => e = .returned (.tuple #[]) ∧ w' = w := by
  have hi := fun W => isort_none p cap fv W
  go_enter Tryz.func77, Tryz.ntmps77
  go_wp2
  refine wp_loop_rounds 1 ?_
  rw [rounds_succ]
  go_wp2_with (go_at_call 96; (with_reducible refine (hi _).mono ?_); rintro e w' ⟨rfl, rfl⟩)
  (try simp only [Exit.inBlock, Exit.then]); refine bodyPost_ret (results_none rfl _ _ _) rfl ?_
  exact ⟨rfl, rfl⟩
set_option maxHeartbeats 2000000 in
theorem sort_none (p : Option Addr) (cap : Nat) (fv : Value) (w : World) :
    Calls Tryz.prog 60 #[.slice p 0 cap, fv] w fun e w' => e = .returned (.tuple #[]) ∧ w' = w := by
  have hp := fun lim W => pdq_none p cap lim fv W
  have hl : ∀ W, Calls Tryz.prog 71 #[.int .u64 0] W fun e w' => e = .returned (.int .i64 (Lib.bitLen 0 : Nat)) ∧ w' = W := fun W => by
    have h := Any.bits_Len (SlLaysF0.n15.bits (P := Tryz.prog) { Tryz.sortSpans with }) 0 W (by omega) (by omega)
    exact h
  generalize (Lib.bitLen 0 : Nat) = bl at hl
  go_enter Tryz.func60, Tryz.ntmps60
  go_wp2_with (first
    | (go_at_call 71; (with_reducible refine (hl _).mono ?_); rintro e w' ⟨rfl, rfl⟩)
    | (go_at_call 77; (with_reducible refine (hp _ _).mono ?_); rintro e w' ⟨rfl, rfl⟩))
  go_end0
  exact ⟨rfl, rfl⟩

/-- Rows of spans in order, that a call made. -/
def OwnSpansC (w : World) (l : List (Int × Int × Int × Int)) (e : Ending) (w' : World) : Prop :=
  ∃ A c, e = .returned (.slice A (List.length l) c) ∧ w'.ownsRow w.heap.size 43 4 (.slice A l.length c) l.length (cellsAll scells l) ∧ Below w.heap.size w w'
/-- What SortedFunc makes of them. -/
def InOrder (l ds : List (Int × Int × Int × Int)) : Prop := (ds.map (·.1)).Nodup ∧ (∀ s, s ∈ ds ↔ s ∈ l) ∧ ds.Pairwise fun a b => a.2.1 ≤ b.2.1
theorem code_sortedf (l : List (Int × Int × Int × Int)) (hlen : ∀ ss, AllOf l ss → ss.length ≤ 1000000000) (B : Nat) (w : World) (hc : Calls Tryz.prog 59 #[.func (.func 61) #[] #[.pointer (some ⟨B, 0, none⟩)]] w fun e w' => ∃ A c ss, e = .returned (.slice A (List.length ss) c) ∧ AllOf l ss ∧ w'.ownsRow w.heap.size 43 4 (.slice A ss.length c) ss.length (cellsAll scells ss) ∧ Below w.heap.size w w') :
    Calls Tryz.prog 36 #[.func (.func 61) #[] #[.pointer (some ⟨B, 0, none⟩)], .func (.func 38) #[] #[]] w fun e w' => ∃ ds, InOrder l ds ∧ OwnSpansC w ds e w' := by
  have HS : Hid (∀ W A c (ss : List (Int × Int × Int × Int)) n, ss.length = n → AllOf l ss → W.ownsRow w.heap.size 43 4 (.slice A n c) n (cellsAll scells ss) → ¬ n = 0 → Calls Tryz.prog 60 #[.slice A n c, .func (.func 38) #[] #[]] W (SortedS W w.heap.size A n c ss)) := hidb (fun W A c ss n hn hS hrow h0 => by
    have := hlen ss hS
    exact code_sortS A n c ss W w.heap.size hrow hn h0 (by omega))
  have HSn : Hid (∀ A c W, Calls Tryz.prog 60 #[.slice A 0 c, .func (.func 38) #[] #[]] W fun e w' => e = .returned (.tuple #[]) ∧ W = w') := hidb (fun A c W => (sort_none A c _ W).mono fun e w' ⟨h1, h2⟩ => ⟨h1, h2.symm⟩)
  clear hlen
  go_enter Tryz.func36, Tryz.ntmps36
  go_wp2_with (first
    | (go_at_call 59; (with_reducible refine hc.mono ?_); rintro e w1 ⟨A, c, ss, rfl, hS, hrow, hb1⟩))
  obtain ⟨n, hn⟩ : ∃ n, ss.length = n := ⟨_, rfl⟩
  rw [hn] at hrow ⊢
  by_cases h0 : n = 0
  · subst h0
    obtain rfl : ss = [] := List.eq_nil_of_length_eq_zero hn
    have hsn := HSn.out A c w1
    clear hn
    go_wp2_with (first
      | (go_at_call 60; (with_reducible refine hsn.mono ?_); rintro e w2 ⟨rfl, rfl⟩))
    go_ret
    exact ⟨[], ⟨List.nodup_nil, hS.2, List.Pairwise.nil⟩, A, c, rfl, hrow, hb1⟩
  · have cs := HS.out w1 A c ss n hn hS hrow h0
    have HN := hidb hn
    have HS2 := hidb hS
    have hne : ∀ b, (Value.slice A n c).ownBlock = some b → w.heap.size ≤ b := fun b hb => (hrow.lt b hb).1
    have HNE := hidb hne
    clear hn hS h0 hrow hne
    unfold SortedS at cs
    go_wp2_with (first
      | (go_at_call 60; (with_reducible refine cs.mono ?_); rintro e w2 ⟨rfl, ds, hp, hr, hrow2, hg2⟩))
    have hl : ds.length = n := by rw [hp.length_eq]; exact HN.out
    go_ret
    refine ⟨ds, ⟨(hp.map _).nodup_iff.2 HS2.out.1, fun s => (hp.mem_iff).trans (HS2.out.2 s), hr⟩, A, c, (by rw [hl]; rfl), (by rw [hl]; exact hrow2), hb1.grown hg2 hb1.size (fun b hb => HNE.out b hb)⟩

theorem code_values (mb : Option Nat) (w : World) :
    Calls Tryz.prog 37 #[.map mb] w fun e w' => e = .returned (.func (.func 61) #[] #[.pointer (some ⟨w.heap.size, 0, none⟩)]) ∧ w' = w.alloc (.cells #[.map mb] 63) := by
  go_enter Tryz.func37, Tryz.ntmps37
  go_wp2
  go_ret
  exact ⟨rfl, rfl⟩
theorem nodup_bound : ∀ (n : Nat) (l : List Int), l.Nodup → (∀ x ∈ l, 1 ≤ x ∧ x ≤ (n : Int)) → l.length ≤ n
  | 0, l, _, h => by
    cases l with
    | nil => exact Nat.le_refl _
    | cons x l => have := h x (List.mem_cons_self ..); omega
  | n + 1, l, hn, h => by
    by_cases c : ((n + 1 : Nat) : Int) ∈ l
    · have h1 := List.length_erase_of_mem c
      have h2 := nodup_bound n (l.erase ((n + 1 : Nat) : Int)) (hn.erase _) fun x hx => by
        have h3 := h x (List.mem_of_mem_erase hx)
        have h4 : x ≠ ((n + 1 : Nat) : Int) := fun e => by subst e; exact hn.not_mem_erase hx
        omega
      omega
    · have h2 := nodup_bound n l hn fun x hx => by
        have h3 := h x hx
        have h4 : x ≠ ((n + 1 : Nat) : Int) := fun e => c (e ▸ hx)
        omega
      omega
theorem allOf_len {h : HeapV} (k : HOk h) (hlb : h.last ≤ 1000000000) : ∀ ss, AllOf h.l ss → ss.length ≤ 1000000000 := fun ss hS => by
  have h1 := nodup_bound h.last.toNat (ss.map (·.1)) hS.1 fun x hx => by
    obtain ⟨s, hs, rfl⟩ := List.mem_map.1 hx
    have := k.idr s ((hS.2 s).1 hs)
    omega
  rw [List.length_map] at h1
  omega
theorem inOrder_spans {h : HeapV} (k : HOk h) {ds : List (Int × Int × Int × Int)} (hd : InOrder h.l ds) : ds = hSpans h := by
  refine (hSpans_eq k ?_ hd.2.1).symm
  unfold Rises
  refine (List.Pairwise.imp_of_mem (R := fun a b => a.2.1 ≤ b.2.1 ∧ a.1 ≠ b.1) ?_ (hd.2.2.and (List.pairwise_map.1 hd.1)))
  intro a b ha hb ⟨h1, h2⟩
  have k1 := k.start ((hd.2.1 a).1 ha)
  have k2 := k.start ((hd.2.1 b).1 hb)
  have := k.side ((hd.2.1 a).1 ha) ((hd.2.1 b).1 hb) (fun e => h2 (by rw [e]))
  omega
/-- Spans. -/
theorem code_hspans_of (a : Option Addr) (w : World) (l : List (Int × Int × Int × Int)) (v : Value) (mb : Option Nat) (hp : Calls Tryz.prog 26 #[.pointer a] w fun e w' => e = .returned v ∧ Below w.heap.size w w')
    (hv : ∀ w, (Instr.field 65 v 2).run Tryz.prog w = .ok (.map mb) w) (hlen : ∀ ss, AllOf l ss → ss.length ≤ 1000000000)
    (hc : ∀ W B, Below w.heap.size w W → W.cell? ⟨B, 0, none⟩ = some (.map mb) → Calls Tryz.prog 59 #[.func (.func 61) #[] #[.pointer (some ⟨B, 0, none⟩)]] W fun e w' => ∃ A c ss, e = .returned (.slice A (List.length ss) c) ∧ AllOf l ss ∧ w'.ownsRow W.heap.size 43 4 (.slice A ss.length c) ss.length (cellsAll scells ss) ∧ Below W.heap.size W w') :
    Calls Tryz.prog 17 #[.pointer a] w fun e w' => ∃ ds, InOrder l ds ∧ OwnSpansC w ds e w' := by
  have cv := fun W => code_values mb W
  have cs : ∀ w1, Below w.heap.size w w1 → Calls Tryz.prog 36 #[.func (.func 61) #[] #[.pointer (some ⟨w1.heap.size, 0, none⟩)], .func (.func 38) #[] #[]] (w1.alloc (.cells #[.map mb] 63)) fun e w' => ∃ ds A c, e = .returned (.slice A (List.length ds) c) ∧ InOrder l ds ∧ w'.ownsRow w.heap.size 43 4 (.slice A ds.length c) ds.length (cellsAll scells ds) ∧ Below w.heap.size w w' := fun w1 hb1 => by
    have hb2 : Below w.heap.size w (w1.alloc (.cells #[.map mb] 63)) := hb1.alloc hb1.size _
    refine (code_sortedf l hlen w1.heap.size _ (hc _ _ hb2 (World.cell?_alloc_at _ _ _ 0 (by simp)))).mono ?_
    rintro e w' ⟨ds, hd, A, c, rfl, hrow, hb⟩
    exact ⟨ds, A, c, rfl, hd, own_lower hrow hb2.size, hb2.trans (hb.mono hb2.size)⟩
  clear hc hlen
  go_enter Tryz.func17, Tryz.ntmps17
  go_wp2_with (first
    | (go_at_call 26; (with_reducible refine hp.mono ?_); rintro e w1 ⟨rfl, hb1⟩)
    | (go_at_call 37; (with_reducible refine (cv _).mono ?_); rintro e w2 ⟨rfl, rfl⟩)
    | (go_at_call 36; (with_reducible refine (cs _ hb1).mono ?_); rintro e w3 ⟨ds, A, c, rfl, hd, hrow, hb3⟩))
  go_ret
  exact ⟨ds, hd, A, c, rfl, hrow, hb3⟩
theorem code_hspans {w : World} {S : Nat → Prop} {p : Nat} {h : HeapV} (k : Hp w S p h) :
    Calls Tryz.prog 17 #[.pointer (some ⟨p, 0, none⟩)] w (OwnSpansC w (hSpans h)) := by
  obtain ⟨ip, ig, fp, mb, n, m, ids, D, Sf, k1, k2, k3, k4, k5, k6, k7⟩ := k
  refine (code_hspans_of _ w h.l _ (some mb) (code_hparts p _ _ _ _ w k1.c0 k1.c1 k1.c2 k1.c3) (fun w => field_mb _ _ _ _ w) (allOf_len k1.ok k1.lb)
    (fun W B hb hB => code_collect B mb m D h.l k1.mis k1.ok.ids (by have := k1.la; have := k1.lb; omega) W hB (ownsMap_block k1.mp (hb.block _ k1.mp.lt)))).mono ?_
  rintro e w' ⟨ds, hd, hO⟩
  rw [← inOrder_spans k1.ok hd]
  exact hO
theorem code_hspans_nil (w : World) : Calls Tryz.prog 17 #[.pointer none] w (OwnSpansC w []) := by
  refine (code_hspans_of _ w [] _ none (code_hparts_nil w) (fun w => field_mb _ _ _ _ w) (fun ss hS => ?_) (fun W B hb hB => code_collect_nil B W hB)).mono ?_
  · cases ss with
    | nil => exact Nat.zero_le _
    | cons s ss => exact absurd ((hS.2 s).1 (List.mem_cons_self ..)) (by simp)
  · rintro e w' ⟨ds, hd, hO⟩
    cases ds with
    | nil => exact hO
    | cons s ds => exact absurd ((hd.2.1 s).1 (List.mem_cons_self ..)) (by simp)

end Go.Proofs.YtcngcibiibchiaaGreat
