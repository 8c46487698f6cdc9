/- What holds while a heap's free runs and spans are counted, page by page. -/
import Derived.Test.YtdobmdhhgponpaaHeapBack
import Derived.Maps.AppendAt
namespace Go.Proofs.Ytdobmdhhgponpaa
open Go.RowKit
set_option linter.unusedVariables false

theorem own_mono {w : World} {base base2 : Nat} {e : TypeId} {size : Nat} {v : Value} {n : Nat} {xs : List Value} (h : w.ownsRow base e size v n xs) (hb : base2 ≤ base) : w.ownsRow base2 e size v n xs :=
  ⟨h.1, h.2.imp id fun ⟨g, cap, cur, h1, h2, h3⟩ => ⟨g, cap, cur, h1, by omega, h3⟩⟩
theorem disj_two : ∀ {l : List (Int × Int × Int × Int)} {a b : Int × Int × Int × Int}, Disj (l.map rnOf) → a ∈ l → b ∈ l → a ≠ b → (rnOf a).1 + (rnOf a).2 ≤ (rnOf b).1 ∨ (rnOf b).1 + (rnOf b).2 ≤ (rnOf a).1
  | [], a, b, _, ha, _, _ => by cases ha
  | x :: l, a, b, hd, ha, hb, hn => by
    obtain ⟨h1, h2⟩ := List.pairwise_cons.1 (show List.Pairwise _ (rnOf x :: l.map rnOf) from hd)
    rcases List.mem_cons.1 ha with rfl | ha2
    · rcases List.mem_cons.1 hb with rfl | hb2
      · exact absurd rfl hn
      · exact h1 _ (List.mem_map.2 ⟨b, hb2, rfl⟩)
    · rcases List.mem_cons.1 hb with rfl | hb2
      · exact (h1 _ (List.mem_map.2 ⟨a, ha2, rfl⟩)).symm
      · exact disj_two h2 ha2 hb2 hn
/-- Free runs and spans in their order: all pages, each once. -/
theorem heap_parts {h : HeapV} (k : HOk h) : Disj (fList h.free ++ (hSpans h).map rnOf) ∧ (∀ r ∈ fList h.free ++ (hSpans h).map rnOf, 0 ≤ r.1 ∧ 1 ≤ r.2 ∧ r.1 + r.2 ≤ h.pages) ∧ ∀ p : Int, Cov (fList h.free ++ (hSpans h).map rnOf) p ↔ 0 ≤ p ∧ p < h.pages := by
  obtain ⟨p1, p2, p3⟩ := k.parts
  have hm := hSpans_mem k
  have hmm : ∀ r, r ∈ fList h.free ++ (hSpans h).map rnOf ↔ r ∈ fList h.free ++ h.l.map rnOf := fun r => by
    rw [List.mem_append, List.mem_append, List.mem_map, List.mem_map]
    constructor
    · rintro (h1 | ⟨s, hs, e⟩)
      · exact Or.inl h1
      · exact Or.inr ⟨s, (hm s).1 hs, e⟩
    · rintro (h1 | ⟨s, hs, e⟩)
      · exact Or.inl h1
      · exact Or.inr ⟨s, (hm s).2 hs, e⟩
  obtain ⟨q1, q2, q3⟩ := List.pairwise_append.1 p1
  have hr := hSpans_rises k
  have hpos : ∀ s ∈ h.l, 1 ≤ (rnOf s).2 := fun s hs => (p2 _ (List.mem_append.2 (Or.inr (List.mem_map.2 ⟨s, hs, rfl⟩)))).2.1
  refine ⟨List.pairwise_append.2 ⟨q1, ?_, fun a ha b hb => ?_⟩, fun r hr => p2 r ((hmm r).1 hr), fun p => ?_⟩
  · rw [List.pairwise_map]
    refine List.Pairwise.imp_of_mem ?_ hr
    intro a b ha hb h1
    exact disj_two q2 ((hm a).1 ha) ((hm b).1 hb) (fun e => by subst e; omega)
  · obtain ⟨s, hs, rfl⟩ := List.mem_map.1 hb
    exact q3 a ha _ (List.mem_map.2 ⟨s, (hm s).1 hs, rfl⟩)
  · rw [← p3 p]
    constructor
    · rintro ⟨r, hr, h1, h2⟩; exact ⟨r, (hmm r).1 hr, h1, h2⟩
    · rintro ⟨r, hr, h1, h2⟩; exact ⟨r, (hmm r).2 hr, h1, h2⟩
theorem count_run (S q : Nat) : ∀ L : Nat, ((List.range L).map (S + ·)).count q = if S ≤ q ∧ q < S + L then 1 else 0
  | 0 => by
    have h : ¬ (S ≤ q ∧ q < S + 0) := by omega
    rw [if_neg h]; rfl
  | L + 1 => by
    rw [List.range_succ, List.map_append, List.count_append, count_run S q L]
    show _ + List.count q [S + L] = _
    rw [List.count_singleton]
    by_cases h : S + L = q
    · have h1 : ¬ (S ≤ q ∧ q < S + L) := by omega
      have h2 : S ≤ q ∧ q < S + (L + 1) := by omega
      have h3 : (S + L == q) = true := by simpa using h
      rw [if_neg h1, if_pos h2, if_pos h3]
    · have h3 : ¬ (S + L == q) = true := by simpa using h
      rw [if_neg h3]
      by_cases h2 : S ≤ q ∧ q < S + L
      · have h4 : S ≤ q ∧ q < S + (L + 1) := by omega
        rw [if_pos h2, if_pos h4]
      · have h4 : ¬ (S ≤ q ∧ q < S + (L + 1)) := by omega
        rw [if_neg h2, if_neg h4]
theorem pgs_hits : ∀ {rs : List (Int × Int)} (q : Nat), (∀ r ∈ rs, 0 ≤ r.1 ∧ 1 ≤ r.2) → (pgs rs).count q = hits rs (q : Int)
  | [], q, _ => rfl
  | r :: l, q, h => by
    have ih := pgs_hits (rs := l) q fun x hx => h x (List.mem_cons_of_mem _ hx)
    have h1 := h r (List.mem_cons_self ..)
    show (((List.range r.2.toNat).map (r.1.toNat + ·)) ++ pgs l).count q = _
    unfold hits at ih ⊢
    rw [List.count_append, count_run, ih, List.countP_cons]
    by_cases c : r.1 ≤ (q : Int) ∧ (q : Int) < r.1 + r.2
    · have c2 : r.1.toNat ≤ q ∧ q < r.1.toNat + r.2.toNat := by omega
      rw [if_pos c2, if_pos (decide_eq_true c)]; omega
    · have c2 : ¬ (r.1.toNat ≤ q ∧ q < r.1.toNat + r.2.toNat) := by omega
      rw [if_neg c2, if_neg (by simpa using c)]; omega

/-- The rows: the free runs with i spans behind them, the spans, and the pages' counters. -/
structure Pre (w W : World) (LR : List (Int × Int)) (LS : List (Int × Int × Int × Int)) (n i m : Nat) (A : Option Addr) (c : Nat) (A3 : Option Addr) (c3 gs N : Nat) : Prop where
  r : W.ownsRow w.heap.size 33 2 (.slice A m c) m (rcells (LR ++ (LS.take i).map rnOf))
  s : W.ownsRow w.heap.size 35 4 (.slice A3 n c3) n (cellsAll scells LS)
  seen : W.ownsRow w.heap.size 3 1 (.slice (some ⟨gs, 0, none⟩) N N) N ((seenRow N []).map iv)
  ap : ∀ b, (Value.slice A m c).ownBlock = some b → b ≠ gs ∧ (Value.slice A3 n c3).ownBlock ≠ some b
  bel : Below w.heap.size w W
  hm : m = LR.length + i
theorem Pre.start {w W w2 w3 w4 w5 : World} {LR : List (Int × Int)} {LS : List (Int × Int × Int × Int)} {L0 n : Nat} {A2 A3 : Option Addr} {c2 c3 N : Nat} (hb : Below w.heap.size w W) (hb2 : Below W.heap.size W w2) (hL : LR.length = L0) (h2 : w2.ownsRow W.heap.size 33 2 (.slice A2 L0 c2) L0 (rcells LR)) (hb3 : Below w2.heap.size w2 w3) (h3 : w3.ownsRow w2.heap.size 35 4 (.slice A3 n c3) n (cellsAll scells LS)) (hb4 : Below w3.heap.size w3 w4)
    (hown : w5.ownsRow w.heap.size 3 1 (.slice (some ⟨w4.heap.size, 0, none⟩) N N) N (madeCells (Value.int .i64 0).cells (N * 1)).toList) (hg : w4.grownBy w5 none) : Pre w w5 LR LS n 0 L0 A2 c2 A3 c3 w4.heap.size N := by
  have e0 := hb.size
  have e2 := hb2.size
  have e3 := hb3.size
  have e4 := hb4.size
  have hb5 : Below w4.heap.size w4 w5 := (Below.refl _ w4).grown hg (Nat.le_refl _) (fun k hk => by cases hk)
  rw [noughts, ← seenRow_nil] at hown
  refine ⟨?_, own_mono (own_below (own_below h3 hb4) hb5) (by omega), hown, fun b hb => ?_, ?_, by omega⟩
  · rw [show LR ++ (LS.take 0).map rnOf = LR by simp]
    exact own_mono (own_below (own_below (own_below h2 hb3) hb4) hb5) e0
  · have h1 := (h2.lt b hb).2
    refine ⟨by omega, fun hc => ?_⟩
    have h4 := (h3.lt b hc).1
    omega
  · exact hb.trans ((hb2.mono (by omega)).trans ((hb3.mono (by omega)).trans ((hb4.mono (by omega)).trans (hb5.mono (by omega)))))
theorem Pre.push {w W W' : World} {LR : List (Int × Int)} {LS : List (Int × Int × Int × Int)} {n i m : Nat} {A A3 : Option Addr} {c c3 gs N : Nat} {y1 y2 y3 y4 : Int} {o : Obj} {v : Value} (e : Pre w W LR LS n i m A c A3 c3 gs N) (hr : W'.ownsRow w.heap.size 33 2 v (m + 1) (rcells (LR ++ (LS.take i).map rnOf) ++ [.int .i64 y2, .int .i64 y3])) (hg : (W.alloc o).grownBy W' (Value.slice A m c).ownBlock) (hat : v.ownBlock = (Value.slice A m c).ownBlock ∨ v.ownBlock = some (W.alloc o).heap.size) (hy : LS[i]? = some (y1, y2, y3, y4)) :
    ∃ A' c', v = .slice A' (m + 1) c' ∧ Hid (Pre w W' LR LS n (i + 1) (m + 1) A' c' A3 c3 gs N) := by
  obtain ⟨g, cp, rfl, _, _⟩ := hr.form (by omega)
  refine ⟨_, _, rfl, hidb ?_⟩
  have hs := hg.size
  simp only [World.size_alloc] at hs hat
  have hw := e.bel.size
  have hK : Kept (fun b => (Value.slice A m c).ownBlock = some b) W W' := ((Kept.refl _ W).grown (World.grownBy_alloc W o none) (fun k hk => by cases hk)).grown hg (fun k hk => Or.inl hk)
  have hsl := e.seen.lt gs rfl
  refine ⟨?_, own_kept e.s hK (fun b hb hc => (e.ap b hc).2 hb), own_kept e.seen hK (fun b hb hc => (e.ap b hc).1 (by injection hb with hb; exact hb.symm)), fun b hb => ?_, ?_, by have := e.hm; omega⟩
  · have h1 : LR ++ (LS.take (i + 1)).map rnOf = LR ++ (LS.take i).map rnOf ++ [(y2, y3)] := by
      rw [List.take_add_one, hy, List.map_append, List.append_assoc]; rfl
    rw [h1, rcells_snoc]; exact hr
  · rw [hb] at hat
    rcases hat with h1 | h1
    · exact e.ap b h1.symm
    · injection h1 with h1
      refine ⟨by omega, fun hc => ?_⟩
      have := (e.s.lt b hc).2
      omega
  · exact e.bel.trans (hK.below hw (fun b hb => (e.r.lt b hb).1))

/-- Behind some pages: how often each was met. -/
structure Sw (w W : World) (gs N : Nat) (D : List Nat) (A : Option Addr) (K : Nat) (rs : List (Int × Int)) : Prop where
  seen : W.ownsRow w.heap.size 3 1 (.slice (some ⟨gs, 0, none⟩) N N) N ((seenRow N D).map iv)
  rn : Rn W W.heap.size A K rs
  ne : ∀ b off, 0 < K → A = some ⟨b, off, none⟩ → b ≠ gs
  bel : Below w.heap.size w W
section
variable {w W W' : World} {gs N K : Nat} {D : List Nat} {A : Option Addr} {rs : List (Int × Int)}
theorem Pre.done {LR : List (Int × Int)} {LS : List (Int × Int × Int × Int)} {n m c c3 : Nat} {A3 : Option Addr} (e : Pre w W LR LS n n m A c A3 c3 gs N) (hn : LS.length = n) (hrs : LR ++ LS.map rnOf = rs) : Sw w W gs N [] A m rs := by
  have h1 : LR ++ (LS.take n).map rnOf = rs := by rw [List.take_of_length_le (by omega)]; exact hrs
  refine ⟨e.seen, Rn.of_own (by have := e.r; rw [h1] at this; exact this) (by rw [← hrs, List.length_append, List.length_map, e.hm, hn]), fun b off hK hA => ?_, e.bel⟩
  obtain ⟨g, cp, hv, _, _⟩ := e.r.form hK
  injection hv with hv
  have hv2 := hA.symm.trans hv
  injection hv2 with hv2; injection hv2 with hv2
  subst hv2
  exact (e.ap b (by rw [hv]; rfl)).1
theorem Sw.below (h : Sw w W gs N D A K rs) (hb : Below W.heap.size W W') : Sw w W' gs N D A K rs :=
  ⟨own_below h.seen hb, (h.rn.keep fun p hp => hb.cell hp).more hb.size, h.ne, h.bel.trans (hb.mono h.bel.size)⟩
theorem Sw.drewN (h : Sw w W gs N D A K rs) (q : Nat) : Sw w (W.drewN q) gs N D A K rs := h.below (belowN (Below.refl _ _) q)
theorem Sw.lt (h : Sw w W gs N D A K rs) : w.heap.size ≤ gs ∧ gs < W.heap.size := h.seen.lt gs rfl
theorem Sw.cell (h : Sw w W gs N D A K rs) {q : Nat} (hq : q < N) : W.cell? ⟨gs, q, none⟩ = some (.int .i64 (D.count q : Int)) := by
  rw [h.seen.cellAt q (by omega), List.getElem?_map, seenRow_at N D q hq]; rfl
theorem Sw.bump (h : Sw w W gs N D A K rs) {q : Nat} (hq : q < N) : Sw w (W.setCell ⟨gs, q, none⟩ (.int .i64 ((D.count q : Int) + 1))) gs N (D ++ [q]) A K rs := by
  obtain ⟨h1, h2⟩ := h.seen.stored q (iv ((D.count q : Int) + 1))
  rw [← List.map_set, seenRow_set N D q hq] at h1
  exact ⟨h1, Rn.grown h.rn h.ne h2, h.ne, h.bel.grown h2 h.bel.size (fun k hk => by cases hk; exact h.lt.1)⟩
end
theorem take_run2 {rs : List (Int × Int)} {k S L : Nat} (h : rs[k]? = some ((S : Int), (L : Int))) : pgs (rs.take (k + 1)) = pgs (rs.take k) ++ (List.range L).map (S + ·) := by
  rw [List.take_add_one, h]
  show pgs (rs.take k ++ [((S : Int), (L : Int))]) = _
  rw [pgs_snoc]; rfl
/-- No page was met twice so far. -/
theorem count_few {rs : List (Int × Int)} {k S L u q : Nat} (h : rs[k]? = some ((S : Int), (L : Int))) (h0 : ∀ r ∈ rs, 0 ≤ r.1 ∧ 1 ≤ r.2) (hu : u ≤ L) : (pgs (rs.take k) ++ (List.range u).map (S + ·)).count q ≤ hits rs (q : Int) := by
  rw [← pgs_hits q h0]
  have e : pgs rs = pgs (rs.take (k + 1)) ++ pgs (rs.drop (k + 1)) := by rw [← pgs_append, List.take_append_drop]
  rw [e, take_run2 h, List.count_append, List.count_append, List.count_append, count_run, count_run]
  by_cases c : S ≤ q ∧ q < S + u
  · have c2 : S ≤ q ∧ q < S + L := by omega
    rw [if_pos c, if_pos c2]; omega
  · rw [if_neg c]; omega

end Go.Proofs.Ytdobmdhhgponpaa
