/- What the walks of layer 8's ChainLast and ChainLeaves lean on: plain facts, and an arena beside a chain in a variable. -/
import Derived.Test.YtcngcibiibchiaaChainLaws0
namespace Go.Proofs.Ytcngcibiibchiaa
open Go.RowKit
set_option linter.unusedVariables false

/-- The mark at the first j words, but at those of l. -/
def marks (l : List Int) (mark j : Nat) : List Nat := (List.range 256).map fun i => if i < j ∧ (i : Int) ∉ l then mark else 0
theorem marks_length (l : List Int) (mark j : Nat) : (marks l mark j).length = 256 := by unfold marks; rw [List.length_map, List.length_range]
theorem marks_get {l : List Int} {mark j i : Nat} (h : i < 256) : (marks l mark j)[i]? = some (if i < j ∧ (i : Int) ∉ l then mark else 0) := by
  unfold marks
  rw [List.getElem?_map, List.getElem?_range h]
  rfl
theorem marks_zero (l : List Int) (mark : Nat) : marks l mark 0 = zs256 := by
  refine List.ext_getElem? fun i => ?_
  by_cases h : i < 256
  · rw [marks_get h, if_neg (by omega)]
    unfold zs256
    rw [List.getElem?_replicate, if_pos h]
  · rw [List.getElem?_eq_none (by rw [marks_length]; omega), List.getElem?_eq_none (by rw [zs256_length]; omega)]
theorem marks_in {l : List Int} {mark j : Nat} (h : (j : Int) ∈ l) : marks l mark (j + 1) = marks l mark j := by
  refine List.ext_getElem? fun i => ?_
  by_cases hi : i < 256
  · rw [marks_get hi, marks_get hi]
    by_cases e : i = j
    · subst e
      rw [if_neg (fun c => c.2 h), if_neg (fun c => c.2 h)]
    · congr 2
      exact propext ⟨fun c => ⟨by omega, c.2⟩, fun c => ⟨by omega, c.2⟩⟩
  · rw [List.getElem?_eq_none (by rw [marks_length]; omega), List.getElem?_eq_none (by rw [marks_length]; omega)]
theorem marks_out {l : List Int} {mark j : Nat} (h : (j : Int) ∉ l) (hj : j < 256) : marks l mark (j + 1) = (marks l mark j).set j mark := by
  refine List.ext_getElem? fun i => ?_
  rw [List.getElem?_set, marks_length]
  by_cases hi : i < 256
  · rw [marks_get hi]
    by_cases e : j = i
    · subst e
      rw [if_pos ⟨by omega, h⟩, if_pos rfl, if_pos hj]
    · rw [if_neg e, marks_get hi]
      congr 2
      exact propext ⟨fun c => ⟨by omega, c.2⟩, fun c => ⟨by omega, c.2⟩⟩
  · rw [List.getElem?_eq_none (by rw [marks_length]; omega), List.getElem?_eq_none (by rw [marks_length]; omega), if_neg (by omega)]
theorem marks_wide {l : List Int} {mark j : Nat} (h : mark < 18446744073709551616) : Wide (marks l mark j) := fun x hx => by
  obtain ⟨i, _, e⟩ := List.mem_map.1 hx
  rw [← e]
  split <;> omega
theorem cList_none_ (w : List Nat) : cList w (0, 0) = some [] := cList_iff.2 ⟨rfl, List.nodup_nil, rfl⟩

/-- Behind some pops: t blocks are left, of the others the words are 0, all others are marked. -/
structure PopSt (l : List Int) (mark t : Nat) (ws : List Nat) (h : Int) : Prop where
  ls : cList ws (h, (t : Int)) = some (l.take t).reverse
  ln : ws.length = 256
  wd : Wide ws
  hi : ∀ i : Nat, i < 256 → (i : Int) ∉ l → ws[i]? = some mark
  lo : ∀ i : Nat, (i : Int) ∈ l.drop t → ws[i]? = some 0
section
variable {l : List Int} {mark t : Nat} {ws : List Nat} {h : Int}
theorem getD_some {ws : List Nat} {i x : Nat} (hl : i < ws.length) (h : ws.getD i 0 = x) : ws[i]? = some x := by
  rw [List.getD_eq_getElem?_getD, List.getElem?_eq_getElem hl] at h
  rw [List.getElem?_eq_getElem hl]
  exact congrArg some h
theorem PopSt.start (hd : l.Nodup) (hr : ∀ x ∈ l, 0 ≤ x ∧ x < 256) (hm : mark < 18446744073709551616) : PopSt l mark l.length (cAll (marks l mark 256, (0, 0)) l).1 (cAll (marks l mark 256, ((0 : Int), (0 : Int))) l).2.1 ∧ (cAll (marks l mark 256, ((0 : Int), (0 : Int))) l).2.2 = (l.length : Int) := by
  have hc := cAll_count l (marks l mark 256, ((0 : Int), (0 : Int)))
  have hc2 : (cAll (marks l mark 256, ((0 : Int), (0 : Int))) l).2.2 = (l.length : Int) := by rw [hc]; simp
  have hlen : (cAll (marks l mark 256, ((0 : Int), (0 : Int))) l).1.length = 256 := by rw [cAll_length]; exact marks_length ..
  have hp := push_list (m := l) (cList_none_ (marks l mark 256)) (by rw [List.append_nil]; exact hd) (fun x hx => by rw [marks_length]; exact hr x hx)
  refine ⟨⟨?_, hlen, Wide.cAll (marks_wide hm) (by simp) (fun x hx => by have := hr x hx; omega), fun i hi hn => ?_, fun i hi => ?_⟩, hc2⟩
  · rw [List.take_length]
    rw [List.append_nil] at hp
    rw [← hp, ← hc2]
  · refine getD_some (by rw [hlen]; exact hi) ?_
    rw [cAll_other hn (fun x hx => (hr x hx).1), List.getD_eq_getElem?_getD, marks_get hi, if_pos ⟨hi, hn⟩]
    rfl
  · rw [List.drop_length] at hi; cases hi
theorem PopSt.head (k : PopSt l mark t ws h) : in64 h := by
  have := cList_head k.ls
  have h2 := k.ln
  simp only at this
  unfold in64
  omega
theorem PopSt.pop (k : PopSt l mark (t + 1) ws h) (hd : l.Nodup) (hr : ∀ x ∈ l, 0 ≤ x ∧ x < 256) {a : Int} (ha : l[t]? = some a) : ∃ ws' h', cPop ws (h, ((t + 1 : Nat) : Int)) = (ws', (h', (t : Int)), a, 0) ∧ PopSt l mark t ws' h' := by
  have htl : t < l.length := (List.getElem?_eq_some_iff.1 ha).1
  have hrev : (l.take (t + 1)).reverse = a :: (l.take t).reverse := by rw [List.take_add_one, ha]; simp
  have hls := k.ls
  rw [hrev] at hls
  have hce := cut_eq (i := 0) hls (by simp)
  rw [show (a :: (l.take t).reverse).getD 0 0 = a from rfl] at hce
  obtain ⟨w1, w2, w3, w4⟩ := without_list hls (List.mem_cons_self ..)
  have hnd : (a :: (l.take t).reverse).Nodup := (cList_some hls).1
  have hfil : (a :: (l.take t).reverse).filter (fun x => x != a) = (l.take t).reverse := filter_one (p := []) (by simp) (List.nodup_cons.1 hnd).1
  have ha0 := hr a (List.mem_of_getElem? ha)
  rw [hce] at w1 w2 w3 w4
  rw [hfil] at w1
  refine ⟨kWords ws (a :: (l.take t).reverse) 0, kHead ws h (a :: (l.take t).reverse) 0, ?_, ⟨?_, ?_, ?_, fun i hi hn => ?_, fun i hi => ?_⟩⟩
  · unfold cPop
    rw [hls]
    simp only
    rw [hce]
    simp only [Prod.mk.injEq, true_and, and_true]
    omega
  · rw [← w1]
    congr 2
    omega
  · rw [w4]; exact k.ln
  · unfold kWords
    rw [if_pos rfl]
    exact k.wd.set _ (by omega)
  · refine getD_some (by rw [w4, k.ln]; exact hi) ?_
    rw [w3 i (fun c => hn ?_)]
    · have := k.hi i hi hn
      rw [List.getD_eq_getElem?_getD, this]; rfl
    · rcases List.mem_cons.1 c with c | c
      · rw [c]; exact List.mem_of_getElem? ha
      · exact List.mem_of_mem_take (List.mem_reverse.1 c)
  · have hil : (i : Int) ∈ l := List.mem_of_mem_drop hi
    have hi256 := (hr _ hil).2
    refine getD_some (by rw [w4, k.ln]; omega) ?_
    by_cases e : (i : Int) = a
    · rw [show i = a.toNat by omega]; exact w2
    · have hi2 : (i : Int) ∈ l.drop (t + 1) := by
        rw [List.drop_eq_getElem_cons htl] at hi
        rcases List.mem_cons.1 hi with c | c
        · exact absurd (by rw [c]; rw [List.getElem?_eq_getElem htl] at ha; exact Option.some.inj ha) e
        · exact c
      have hni : (i : Int) ∉ a :: (l.take t).reverse := fun c => by
        rcases List.mem_cons.1 c with c | c
        · exact e c
        · have h1 := List.mem_reverse.1 c
          have h2 := (List.take_append_drop (t + 1) l).symm
          rw [h2] at hd
          have h3 : (i : Int) ∈ l.take (t + 1) := by rw [List.take_add_one]; exact List.mem_append_left _ h1
          exact (List.nodup_append.1 hd).2.2 _ h3 _ hi2 rfl
      rw [w3 i hni]
      have := k.lo i hi2
      rw [List.getD_eq_getElem?_getD, this]; rfl
theorem PopSt.empty (k : PopSt l mark 0 ws h) : h = 0 ∧ cPop ws (h, (0 : Int)) = (ws, (h, (0 : Int)), 0, 6) := by
  have hls := k.ls
  rw [List.take_zero] at hls
  have hls' : cList ws (h, (0 : Int)) = some [] := hls
  have : h = 0 := (cList_iff.1 hls').1
  refine ⟨this, ?_⟩
  unfold cPop
  rw [hls']
theorem PopSt.word (k : PopSt l mark 0 ws h) {i : Nat} (hi : i < 256) : ws[i]? = some (if (i : Int) ∈ l then 0 else mark) := by
  split
  · rename_i c
    exact k.lo i (by simpa using c)
  · rename_i c
    exact k.hi i hi c
end
theorem push_far {w : List Nat} {l : List Int} (hw : w.length = 256) {i : Nat} {x : Int} (h : l[i]? = some x) (hx : ¬ (0 ≤ x ∧ x < 256)) : cPush w (0, 0) l = (w, (0, 0), 2) := by
  unfold cPush
  rw [cList_none_]
  simp only
  rw [hw, cIn_no h (by simpa using hx)]
  rfl
theorem push_twice {w : List Nat} {l : List Int} (hw : w.length = 256) (hr : ∀ x ∈ l, 0 ≤ x ∧ x < 256) {i : Nat} {x : Int} (h : l[i]? = some x) (hx : x ∈ l.take i) : cPush w (0, 0) l = (w, (0, 0), 1) := by
  unfold cPush
  rw [cList_none_]
  simp only
  rw [hw, cIn_yes (fun j y e => by have := hr y (List.mem_of_getElem? e); omega), if_pos rfl, cClash_yes (i := i) (List.getElem?_eq_some_iff.1 h).1 (Or.inr (by rw [getD_of h]; exact hx))]
  rfl
theorem push_good {w : List Nat} {l : List Int} (hw : w.length = 256) (hr : ∀ x ∈ l, 0 ≤ x ∧ x < 256) (hd : ∀ (i : Nat) (x : Int), l[i]? = some x → x ∉ l.take i) : cPush w (0, 0) l = ((cAll (w, (0, 0)) l).1, (cAll (w, (0, 0)) l).2, 0) := by
  unfold cPush
  rw [cList_none_]
  simp only
  rw [hw, cIn_yes (fun j y e => by have := hr y (List.mem_of_getElem? e); omega), if_pos rfl, cClash_no (fun i hi => ⟨by simp, hd i _ (getD_at hi)⟩)]
  rfl
theorem nodup_takes {l : List Int} (hd : ∀ (i : Nat) (x : Int), l[i]? = some x → x ∉ l.take i) : l.Nodup := by
  unfold List.Nodup
  rw [List.pairwise_iff_getElem]
  intro i j hi hj hij e
  refine hd j _ (List.getElem?_eq_getElem hj) ?_
  rw [← e]
  exact List.mem_of_getElem? (i := i) (by rw [List.getElem?_take_of_lt hij, List.getElem?_eq_getElem hi])

/-- An arena, and a chain in a variable. -/
structure LSt (w W : World) (p g cb : Nat) (ws : List Nat) (h l : Int) : Prop where
  ar : Ar W w.heap.size p g 256 ws
  c0 : W.cell? ⟨cb, 0, none⟩ = some (.int .i64 h)
  c1 : W.cell? ⟨cb, 1, none⟩ = some (.int .i64 l)
  cf : ∀ j, W.frozen? ⟨cb, j, none⟩ = false
  bel : Below w.heap.size w W
  lc : w.heap.size ≤ cb
  np : cb ≠ p
  ng : cb ≠ g
section
variable {w W W' : World} {p g cb : Nat} {ws ws' : List Nat} {h l : Int}
theorem LSt.start (ha : Ar W w.heap.size p g 256 ws) (hb : Below w.heap.size w W) (h l : Int) (t : TypeId) : LSt w (W.alloc (.cells #[.int .i64 h, .int .i64 l] t)) p g W.heap.size ws h l := by
  have h1 := ha.lt
  have h2 := ha.ltp
  refine ⟨ha.alloc _, ?_, ?_, fun j => ?_, hb.alloc hb.size _, hb.size, by omega, by omega⟩
  · rw [World.cell?_alloc_at _ _ _ _ rfl]; rfl
  · rw [World.cell?_alloc_at _ _ _ _ rfl]; rfl
  · rw [World.frozen?_alloc_at _ _ _ _ rfl]
theorem LSt.step (k : LSt w W p g cb ws h l) (hg : W.grownBy W' (some g)) (ha : Ar W' w.heap.size p g 256 ws') : LSt w W' p g cb ws' h l := by
  have hq := hg.block cb (lt_of_cell k.c0) (fun e => by injection e with e; exact k.ng e)
  exact ⟨ha, (World.cell?_of_block (w := W) (a := ⟨cb, 0, none⟩) hq).trans k.c0, (World.cell?_of_block (w := W) (a := ⟨cb, 1, none⟩) hq).trans k.c1, fun j => (World.frozen?_of_block (w := W) (a := ⟨cb, j, none⟩) hq).trans (k.cf j), bel_ar k.bel hg k.ar.geg, k.lc, k.np, k.ng⟩
theorem LSt.below (k : LSt w W p g cb ws h l) (hb : Below W.heap.size W W') : LSt w W' p g cb ws h l := k.step (below_to_grown hb _) (k.ar.below hb (Nat.le_refl _))
theorem LSt.set_ (k : LSt w W p g cb ws h l) (h' l' : Int) : LSt w ((W.setCell ⟨cb, 0, none⟩ (.int .i64 h')).setCell ⟨cb, 1, none⟩ (.int .i64 l')) p g cb ws h' l' := by
  obtain ⟨s0, s1⟩ := two_cells8 W cb (.int .i64 h') (.int .i64 l') _ _ k.c0 k.c1
  exact ⟨(k.ar.setCell k.np k.ng _).setCell k.np k.ng _, s0, s1, fun j => (two_frozen ..).trans (k.cf j), (k.bel.setCell (p := ⟨cb, 0, none⟩) k.lc _).setCell (p := ⟨cb, 1, none⟩) k.lc _, k.lc, k.np, k.ng⟩
theorem LSt.facts (k : LSt w W p g cb ws h l) : W.cell? ⟨cb, 0, none⟩ = some (.int .i64 h) ∧ W.cell? ⟨cb, 1, none⟩ = some (.int .i64 l) ∧ W.frozen? ⟨cb, 0, none⟩ = false ∧ W.frozen? ⟨cb, 1, none⟩ = false := ⟨k.c0, k.c1, k.cf 0, k.cf 1⟩
end

end Go.Proofs.Ytcngcibiibchiaa
