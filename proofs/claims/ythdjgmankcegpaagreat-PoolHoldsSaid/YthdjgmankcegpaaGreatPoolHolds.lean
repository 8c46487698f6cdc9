/- Layer 9's statement on a pool that is held: no span goes until it is let go. -/
import Derived.Test.YthdjgmankcegpaaGreatPoolLast
namespace Go.Proofs.YthdjgmankcegpaaGreat
open Go.RowKit
set_option linter.unusedVariables false

/-- A block that is out. -/
def pOutP (l : PL) (x : Int) : Prop := ∃ c ∈ l, x ∈ pBlocks c.1 ∧ x ∉ c.2
/-- All the heap's spans are the pool's. -/
def AllIn (p : PoolV) : Prop := ∀ s ∈ p.heap.l, ∃ c ∈ p.l, c.1 = s

theorem AllIn.take {p : PoolV} (o : POk p) (a : AllIn p) (order : Int) : AllIn (pTake p order).1 := by
  unfold pTake
  split
  · exact a
  next ho =>
  cases hf : pFirst p.l order 0 true with
  | some i =>
    simp only
    cases hi : p.l[i]? with
    | none => exact a
    | some c =>
      intro s hs
      obtain ⟨d, hd, e⟩ := a s hs
      have h1 : s ∈ (p.l.set i (c.1, c.2.tail)).map (·.1) := by rw [set_fst hi]; exact List.mem_map.2 ⟨d, hd, e⟩
      obtain ⟨d', h2, h3⟩ := List.mem_map.1 h1
      exact ⟨d', h2, h3⟩
  | none =>
    simp only
    split
    next he =>
      intro s hs
      have hc : ¬ ((4 : Int) < 1 ∨ order < -1 ∨ 3 < order) := by omega
      cases hbb : fBest p.heap.free 4 with
      | none => rw [hMake_full hc hbb] at he; cases he
      | some q =>
        obtain ⟨g, _, _, _, e, _⟩ := hMake_yes o.hok hc hbb
        rw [e] at hs ⊢
        rcases List.mem_append.1 hs with h1 | h1
        · obtain ⟨d, hd, e2⟩ := a s h1
          exact ⟨d, List.mem_append_left _ hd, e2⟩
        · obtain rfl := List.mem_singleton.1 h1
          exact ⟨_, List.mem_append_right _ (List.mem_singleton_self _), rfl⟩
    next he => exact a
theorem give_step {p : PoolV} (o : POk p) (hh : p.held = true) {x : Int} (hx : pOutP p.l x) : ∃ l', gGive p [x] = (⟨p.heap, l', true⟩, 0) ∧ l'.map (·.1) = p.l.map (·.1) ∧ ∀ y, pOutP l' y ↔ pOutP p.l y ∧ y ≠ x := by
  obtain ⟨⟨s, r⟩, hc, h1, h2⟩ := hx
  obtain ⟨i, hi⟩ := List.mem_iff_getElem?.1 hc
  have hof := o.of_at hi h1
  obtain ⟨hil, _⟩ := List.getElem?_eq_some_iff.1 hi
  refine ⟨_, give_one hh hof hi h2, set_fst hi _, fun y => ⟨?_, ?_⟩⟩
  · rintro ⟨d, hd, h3, h4⟩
    obtain ⟨j, hj⟩ := List.mem_iff_getElem?.1 hd
    rw [List.getElem?_set] at hj
    by_cases e : i = j
    · rw [if_pos e, if_pos hil] at hj
      obtain rfl := Option.some.inj hj
      rw [List.mem_cons, not_or] at h4
      exact ⟨⟨_, hc, h3, h4.2⟩, h4.1⟩
    · rw [if_neg e] at hj
      refine ⟨⟨d, List.mem_of_getElem? hj, h3, h4⟩, fun e2 => ?_⟩
      subst e2
      have := o.of_at hj h3
      rw [hof] at this
      exact e (Option.some.inj this)
  · rintro ⟨⟨d, hd, h3, h4⟩, hne⟩
    obtain ⟨j, hj⟩ := List.mem_iff_getElem?.1 hd
    by_cases e : i = j
    · subst e
      rw [hi] at hj
      obtain rfl := Option.some.inj hj
      refine ⟨(s, x :: r), List.mem_of_getElem? (i := i) (by rw [List.getElem?_set_self hil]), h3, ?_⟩
      rw [List.mem_cons, not_or]
      exact ⟨hne, h4⟩
    · exact ⟨d, List.mem_of_getElem? (i := j) (by rw [List.getElem?_set_ne e, hj]), h3, h4⟩
theorem all_back {p : PoolV} (o : POk p) (a : AllIn p) (hn : ∀ y, ¬ pOutP p.l y) : ∃ h', pSweep ⟨p.heap, p.l, false⟩ = ⟨h', [], false⟩ ∧ h'.l = [] ∧ h'.pages = p.heap.pages := by
  have hw : ∀ c ∈ p.l, pWhole c = true := fun c hc => by
    have h1 : c.2.Perm (pBlocks c.1) := (List.perm_ext_iff_of_nodup (o.nod c hc) (pBlocks_nodup _)).2 fun x => ⟨o.sub c hc x, fun hx => Classical.byContradiction fun h => hn x ⟨c, hc, hx, h⟩⟩
    unfold pWhole
    rw [h1.length_eq, beq_self_eq_true]
  have hf : p.l.filter pWhole = p.l := List.filter_eq_self.2 hw
  have hg : p.l.filter (fun c => !pWhole c) = [] := List.filter_eq_nil_iff.2 fun c hc => by rw [hw c hc]; decide
  have hids : (p.l.map (·.1.1)).Nodup ∧ ∀ i ∈ p.l.map (·.1.1), ∃ s ∈ p.heap.l, s.1 = i := ⟨o.ids, fun i hi => by
    obtain ⟨c, hc, rfl⟩ := List.mem_map.1 hi
    exact ⟨c.1, o.mem c hc, rfl⟩⟩
  obtain ⟨g, e, _⟩ := hDrop_yes o.hok hids
  refine ⟨⟨p.heap.pages, g, hLeft p.heap.l (p.l.map (·.1.1)), p.heap.last⟩, by unfold pSweep; rw [if_neg (by simp)]; simp only; rw [hf, hg, e], ?_, rfl⟩
  show hLeft p.heap.l (p.l.map (·.1.1)) = []
  refine List.filter_eq_nil_iff.2 fun s hs => ?_
  obtain ⟨c, hc, rfl⟩ := a s hs
  have : (p.l.map (·.1.1)).contains c.1.1 = true := List.contains_iff_mem.2 (List.mem_map.2 ⟨c, hc, rfl⟩)
  rw [this]
  decide
theorem no_spans9 {h : HeapV} (k : HOk h) (hl : h.l = []) : fList h.free = [(0, h.pages)] ∧ hSpans h = [] := by
  refine ⟨k.ends hl, ?_⟩
  cases e : hSpans h with
  | nil => rfl
  | cons s l =>
    have := (hSpans_mem k s).1 (by rw [e]; exact List.mem_cons_self ..)
    rw [hl] at this; cases this
theorem out_range {p : PoolV} (o : POk p) {x : Int} (h : pOutP p.l x) : 0 ≤ x ∧ x < 65536 := by
  obtain ⟨c, hc, hx, _⟩ := h
  obtain ⟨f1, f2, f3⟩ := o.four _ hc
  have h1 := blocks_in hx f1 ⟨f2, f3⟩
  have h2 := o.hok.start (o.mem _ hc)
  have h3 := o.hok.p1
  have h4 := pSize_pos c.1.2.2.2
  rw [f1] at h2
  omega

/-- What Out gives. -/
theorem out_of {w W : World} {p hp : Nat} {S : Nat → Prop} {v : PoolW} {k : Nat} {pages : Int} (s : PoolSt w W p hp S v k pages) {ds : List CutV} (h : InOrderP v.ks ds) :
    ((ds.filter fun _ => true).flatMap outK).Nodup ∧ (∀ x, x ∈ (ds.filter fun _ => true).flatMap outK ↔ pOutP v.plain.l x) := by
  have o := s.pok
  have e : (ds.filter fun _ => true) = ds := List.filter_eq_self.2 fun _ _ => rfl
  rw [e]
  have hm : ∀ c ∈ ds, c.plain ∈ v.plain.l := fun c hc => List.mem_map.2 ⟨c, (h.2.1 c).1 hc, rfl⟩
  constructor
  · unfold List.Nodup
    rw [List.pairwise_flatMap]
    refine ⟨fun c hc => (pBlocks_nodup c.s).filter _, ?_⟩
    have h1 := h.1
    unfold List.Nodup at h1
    rw [List.pairwise_map] at h1
    refine h1.imp_of_mem fun {a b} ha hb hne x hx y hy e => hne ?_
    subst e
    have hxa := (List.mem_filter.1 hx).1
    have hxb := (List.mem_filter.1 hy).1
    obtain ⟨f1, f2, f3⟩ := o.four _ (hm a ha)
    obtain ⟨g1, g2, g3⟩ := o.four _ (hm b hb)
    have := o.hok.apart (o.mem _ (hm a ha)) (o.mem _ (hm b hb)) (blocks_page hxa f1 ⟨f2, f3⟩) (blocks_page hxb g1 ⟨g2, g3⟩)
    exact congrArg (·.1) this
  · intro x
    rw [List.mem_flatMap]
    constructor
    · rintro ⟨c, hc, hx⟩
      obtain ⟨h1, h2⟩ := List.mem_filter.1 hx
      exact ⟨c.plain, hm c hc, h1, by show x ∉ c.l; simpa using h2⟩
    · rintro ⟨c, hc, h1, h2⟩
      obtain ⟨k, hk, rfl⟩ := List.mem_map.1 hc
      exact ⟨k, (h.2.1 k).2 hk, List.mem_filter.2 ⟨h1, by have h3 : x ∉ k.l := h2; simpa using h3⟩⟩

/-- The order in which blocks are given back. -/
def backL (bk : Bool) (O : List Int) : List Int := if bk then O.reverse else O
structure HoldSt (w W : World) (p hp : Nat) (S : Nat → Prop) (v : PoolW) (k : Nat) (pages : Int) (h0 : HeapV) (base : Nat) (A : Option Addr) (N c : Nat) (O : List Int) (bk : Bool) (j : Nat) : Prop where
  st : PoolSt w W p hp S v k pages
  held : v.held = true
  heap : v.h = h0
  all_ : AllIn v.plain
  nod : O.Nodup
  len : O.length = N
  out : ∀ y, pOutP v.plain.l y ↔ y ∈ (backL bk O).drop j
  row : OwnAp S W base 3 1 (.slice A N c) N (O.map iv)
section
variable {w W : World} {p hp : Nat} {S : Nat → Prop} {v : PoolW} {k : Nat} {pages : Int} {h0 : HeapV} {base : Nat} {A : Option Addr} {N c : Nat} {O : List Int} {bk : Bool} {j : Nat}
theorem hold_start (s : PoolSt w W p hp S v k pages) (hh : v.held = true) (a : AllIn v.plain) (bk : Bool) :
    Calls Tryz.prog 22 #[.pointer (some ⟨hp, 0, none⟩)] W fun e w1 => (∃ A c, e = .returned (.slice A (hSpans v.h).length c)) ∧
      Calls Tryz.prog 19 #[.pointer (some ⟨p, 0, none⟩)] w1 fun e w2 => ∃ A N c O base, e = .returned (.slice A N c) ∧ N ≤ 65536 ∧ HoldSt w w2 p hp S v k pages v.h base A N c O bk 0 := by
  refine (t_phspans s).mono ?_
  rintro e w1 ⟨A, c, rfl, _, hb⟩
  have s1 := s.below hb
  refine ⟨⟨A, c, rfl⟩, (t_pout s1).mono ?_⟩
  rintro e w2 ⟨ds, h1, A2, c2, rfl, hr, hb2⟩
  obtain ⟨n1, n2⟩ := out_of s1 h1
  obtain ⟨O, hO⟩ : ∃ O, (ds.filter fun _ => true).flatMap outK = O := ⟨_, rfl⟩
  rw [hO] at hr n1 n2 ⊢
  have hlen : O.length ≤ 65536 := by
    have h2 := nodup_bound 65536 (O.map (· + 1)) (List.pairwise_map.2 (n1.imp fun h e => h (by omega))) fun x hx => by
      obtain ⟨y, hy, rfl⟩ := List.mem_map.1 hx
      have := out_range s1.pok ((n2 y).1 hy)
      show 1 ≤ y + 1 ∧ y + 1 ≤ ((65536 : Nat) : Int)
      omega
    rwa [List.length_map] at h2
  refine ⟨A2, O.length, c2, O, w1.heap.size, rfl, hlen, s1.below hb2, hh, rfl, a, n1, rfl, fun y => ?_, s1.new_ hr⟩
  rw [List.drop_zero, ← n2 y]
  unfold backL
  cases bk <;> simp
theorem HoldSt.at_ (H : HoldSt w W p hp S v k pages h0 base A N c O bk j) {i : Nat} (hi : i < N) : ∃ b off x, A = some ⟨b, off, none⟩ ∧ O[i]? = some x ∧ W.cell? ⟨b, off + i, none⟩ = some (.int .i64 x) :=
  (Sl.of_own H.row.1).int_ hi
theorem back_at {bk : Bool} {O : List Int} {N i j : Nat} {x : Int} (hl : O.length = N) (h : O[i]? = some x) (hj : j < N) (e : i = if bk then N - 1 - j else j) : (backL bk O)[j]? = some x := by
  unfold backL
  cases bk with
  | true =>
    simp only [if_true] at e ⊢
    rw [List.getElem?_reverse (by omega), hl, ← e, h]
  | false =>
    simp only [Bool.false_eq_true, if_false] at e ⊢
    rw [← e, h]
theorem hold_step (H : HoldSt w W p hp S v k pages h0 base A N c O bk j) {x : Int} (hx : (backL bk O)[j]? = some x) (n2 : Nat) (hn2 : (hSpans h0).length = n2) :
    ∀ W3, (W3 = W.alloc (.cells #[.int .i64 x] 3) ∨ W3 = (W.alloc (.cells #[.int .i64 x] 3)).drew) →
      Calls Tryz.prog 31 #[.pointer (some ⟨p, 0, none⟩), .slice (some ⟨W.heap.size, 0, none⟩) 1 1] W3 fun e w4 => e = .returned (.int .i64 0) ∧
        Calls Tryz.prog 22 #[.pointer (some ⟨hp, 0, none⟩)] w4 fun e w5 => (∃ A c, e = .returned (.slice A n2 c)) ∧ ∃ S' v', HoldSt w w5 p hp S' v' k pages h0 base A N c O bk (j + 1) := by
  intro W3 hW3
  have hb3 : Below W.heap.size W W3 := by
    rcases hW3 with rfl | rfl
    · exact (Below.refl _ _).alloc (Nat.le_refl _) _
    · exact ((Below.refl _ _).alloc (Nat.le_refl _) _).drew
  have hsl : Sl W3 W3.heap.size (some ⟨W.heap.size, 0, none⟩) 1 ([x].map iv) := by
    rcases hW3 with rfl | rfl
    · exact Sl.oneI W x _
    · exact Sl.oneI W x _
  have hbn : (backL bk O).Nodup := by
    unfold backL
    cases bk with
    | true => simp only [if_true]; unfold List.Nodup; rw [List.pairwise_reverse]; exact H.nod.imp Ne.symm
    | false => exact H.nod
  obtain ⟨hjl, hje⟩ := List.getElem?_eq_some_iff.1 hx
  have hd : (backL bk O).drop j = x :: (backL bk O).drop (j + 1) := by rw [List.drop_eq_getElem_cons hjl, hje]
  have ho := (H.out x).2 (by rw [hd]; exact List.mem_cons_self ..)
  obtain ⟨l', hg, hf, hl'⟩ := give_step H.st.pok H.held ho
  have h64 : in64 x := by
    have := out_range H.st.pok ho
    exact ⟨by omega, by omega⟩
  have s3 := H.st.below hb3
  refine (t_pgive s3 (some ⟨W.heap.size, 0, none⟩) 1 1 [x] hsl (fun a ha hS => by
    injection ha with ha
    subst ha
    have := H.st.lt _ hS
    simp at this) (by omega) (fun y hy => by obtain rfl := List.mem_singleton.1 hy; exact h64) _ 0 hg).mono ?_
  rintro e4 w4 ⟨rfl, S4, v4, s4, hv4, to4⟩
  have hv4h : v4.h = v.h := congrArg PoolV.heap hv4
  have hv4l : v4.plain.l = l' := congrArg PoolV.l hv4
  have hv4d : v4.held = true := congrArg PoolV.held hv4
  refine ⟨rfl, (t_phspans s4).mono ?_⟩
  rintro e5 w5 ⟨A5, c5, rfl, _, hb5⟩
  refine ⟨⟨A5, c5, by rw [hv4h, H.heap, hn2]⟩, S4, v4, s4.below hb5, hv4d, hv4h.trans H.heap, ?_, H.nod, H.len, fun y => ?_, ?_⟩
  · intro s hs
    rw [show v4.plain.heap = v.plain.heap from hv4h] at hs
    obtain ⟨d, hd1, hd2⟩ := H.all_ s hs
    have h1 : s ∈ v4.plain.l.map (·.1) := by rw [hv4l, hf]; exact List.mem_map.2 ⟨d, hd1, hd2⟩
    obtain ⟨d', h2, h3⟩ := List.mem_map.1 h1
    exact ⟨d', h2, h3⟩
  · rw [hv4l, hl' y, H.out y, hd, List.mem_cons]
    have hnx : x ∉ (backL bk O).drop (j + 1) := by
      have h1 : ((backL bk O).drop j).Nodup := (List.drop_sublist _ _).nodup hbn
      rw [hd] at h1
      exact (List.nodup_cons.1 h1).1
    constructor
    · rintro ⟨h1 | h1, h2⟩
      · exact absurd h1 h2
      · exact h1
    · intro h1
      exact ⟨Or.inr h1, fun e => hnx (e ▸ h1)⟩
  · exact (ToO.below hb5) _ _ _ _ _ _ (to4 _ _ _ _ _ _ ((ToO.below hb3) _ _ _ _ _ _ H.row))
theorem same_one9 {A : Option Addr} {c : Nat} {W : World} {base : Nat} {x y : Int} (h : W.ownsRow base 47 2 (.slice A 1 c) 1 (rcells [(x, y)])) :
    Calls Tryz.prog 24 #[.slice A 1 c, .slice (some ⟨W.heap.size, 0, none⟩) 1 1] (W.alloc (.cells #[.int .i64 x, .int .i64 y] 47)) fun e w' => e = .returned (.bool true) ∧ Below (W.alloc (.cells #[.int .i64 x, .int .i64 y] 47)).heap.size (W.alloc (.cells #[.int .i64 x, .int .i64 y] 47)) w' :=
  (ref_xsame _ _ _ c _ 1 _ _ _ _ _ ((Rn.of_own h rfl).keep (w' := W.alloc (.cells #[.int .i64 x, .int .i64 y] 47)) fun p hp => World.cell?_alloc_lt W _ p hp) (Rn.one x y 47) (by decide) (by decide)).mono fun e w' ⟨h1, q, h2⟩ => ⟨by rw [h1]; simp, by rw [h2]; exact belowN (Below.refl _ _) q⟩
theorem hold_end (H : HoldSt w W p hp S v k pages h0 base A N c O bk N) :
    Calls Tryz.prog 29 #[.pointer (some ⟨p, 0, none⟩), .bool false] W fun e w1 => e = .returned (.bool true) ∧
      Calls Tryz.prog 19 #[.pointer (some ⟨p, 0, none⟩)] w1 fun e w2 => (∃ A c, e = .returned (.slice A 0 c)) ∧
        Calls Tryz.prog 22 #[.pointer (some ⟨hp, 0, none⟩)] w2 fun e w3 => (∃ A c, e = .returned (.slice A 0 c)) ∧
          Calls Tryz.prog 25 #[.pointer (some ⟨hp, 0, none⟩)] w3 fun e w4 => ∃ A c, e = .returned (.slice A 1 c) ∧
            Calls Tryz.prog 24 #[.slice A 1 c, .slice (some ⟨w4.heap.size, 0, none⟩) 1 1] (w4.alloc (.cells #[.int .i64 0, .int .i64 pages] 47)) fun e w5 => e = .returned (.bool true) ∧ Below w.heap.size w w5 := by
  obtain ⟨h', e1, e2, e3⟩ := all_back H.st.pok H.all_ (fun y hy => by
    have := (H.out y).1 hy
    rw [List.drop_eq_nil_of_le (by unfold backL; cases bk <;> simp [H.len])] at this
    cases this)
  refine (t_phold H.st false _ true e1 H.held).mono ?_
  rintro e w1 ⟨rfl, S1, v1, s1, hv1, _⟩
  have hk1 : v1.ks = [] := by
    have h1 : v1.ks.map CutV.plain = [] := congrArg PoolV.l hv1
    exact List.map_eq_nil_iff.1 h1
  have hh1 : v1.h = h' := congrArg PoolV.heap hv1
  refine ⟨rfl, (t_pout s1).mono ?_⟩
  rintro e w2 ⟨ds, i1, A2, c2, rfl, _, hb2⟩
  have hds : ds = [] := List.eq_nil_iff_forall_not_mem.2 fun x hx => by
    have := (i1.2.1 x).1 hx
    rw [hk1] at this
    cases this
  subst hds
  have s2 := s1.below hb2
  obtain ⟨r1, r2⟩ := no_spans9 (h := v1.h) s2.pok.hok (by rw [hh1]; exact e2)
  refine ⟨⟨A2, c2, rfl⟩, (t_phspans s2).mono ?_⟩
  rintro e w3 ⟨A3, c3, rfl, _, hb3⟩
  have s3 := s2.below hb3
  refine ⟨⟨A3, c3, by rw [r2]; rfl⟩, (t_phruns s3).mono ?_⟩
  rw [r1, s3.pg]
  rintro e w4 ⟨A4, c4, rfl, hr4, hb4⟩
  have s4 := s3.below hb4
  refine ⟨A4, c4, rfl, (same_one9 hr4).mono ?_⟩
  rintro e w5 ⟨rfl, hb5⟩
  have hba := (Below.refl w4.heap.size w4).alloc (Nat.le_refl _) (.cells #[.int .i64 0, .int .i64 pages] 47)
  exact ⟨rfl, (s4.below (hba.trans (hb5.mono hba.size))).bel⟩
end

set_option maxRecDepth 100000 in
set_option maxHeartbeats 4000000 in
theorem poolHolds_any (pages : Int) (A : Option Addr) (m c : Nat) (l : List Int) (bk : Bool) (w : World) (h0 : in64 pages) (hm : m ≤ maxLen) (hs : Sl w w.heap.size A m (l.map iv)) (hid : ∀ i ∈ l, in64 i) :
    Calls Tryz.prog 5 #[.int .i64 pages, .slice A m c, .bool bk] w fun e w' => e = .returned (.bool true) ∧ Below w.heap.size w w' := by
  have cw := fun W => awake9 W
  unfold maxLen at hm
  by_cases g0 : pages < 4
  · clear hs hid
    go_enter Tryz.func5, Tryz.ntmps5
    go_wp2_with (go_at_call 8; (with_reducible refine (cw _).mono ?_); rintro e w1 ⟨rfl, hb⟩)
    go_ret
    exact ⟨rfl, hb⟩
  by_cases g1 : 40 < pages
  · clear hs hid
    go_enter Tryz.func5, Tryz.ntmps5
    go_wp2_with (go_at_call 8; (with_reducible refine (cw _).mono ?_); rintro e w1 ⟨rfl, hb⟩)
    go_ret
    exact ⟨rfl, hb⟩
  by_cases g2 : 100 < m
  · have g3 : (100 : Int) < (m : Int) := by omega
    clear hs hid
    go_enter Tryz.func5, Tryz.ntmps5
    go_wp2_with (go_at_call 8; (with_reducible refine (cw _).mono ?_); rintro e w1 ⟨rfl, hb⟩)
    go_ret
    exact ⟨rfl, hb⟩
  have g3 : ¬ (100 : Int) < (m : Int) := by omega
  obtain ⟨F, ws, _, cn⟩ := code_made pages w (by omega) (by omega)
  have HR := hidb hs
  have HID := hidb hid
  clear hs hid
  have CH : Hid (∀ W p hp S, PoolSt w W p hp S ⟨⟨pages, F, [], 0⟩, ws, false, []⟩ 0 pages → Calls Tryz.prog 29 #[.pointer (some ⟨p, 0, none⟩), .bool true] W fun e w' => e = .returned (.bool false) ∧ ∃ S' v', PoolSt w w' p hp S' v' 0 pages ∧ v'.held = true ∧ AllIn v'.plain) := hidb (fun W p hp S s => (t_phold s true _ false rfl rfl).mono (by
    rintro e w' ⟨rfl, S', v', s', hv, _⟩
    have h := congrArg PoolV.held hv
    rw [pSweep_held] at h
    exact ⟨rfl, S', v', s', h, by rw [hv]; intro s hs; cases hs⟩))
  have CT : Hid (∀ W p hp S (v : PoolW) j x, (PoolSt w W p hp S v j pages ∧ v.held = true ∧ AllIn v.plain) → j < m → in64 x → Calls Tryz.prog 30 #[.pointer (some ⟨p, 0, none⟩), .int .i64 x] W fun e w' => (∃ at' no, e = .returned (.tuple #[.int .i64 at', .int .i64 no])) ∧ ∃ S' v', PoolSt w w' p hp S' v' (j + 1) pages ∧ v'.held = true ∧ AllIn v'.plain) := hidb (fun W p hp S v j x s hj hx => by
    obtain ⟨⟨p1, a1, no⟩, hT⟩ : ∃ r, pTake v.plain x = r := ⟨_, rfl⟩
    refine (t_ptake s.1 (by omega) x hx p1 a1 no hT).mono ?_
    rintro e w' ⟨rfl, S', v', s', hv, _⟩
    have h := pTake_held v.plain x
    have h3 := AllIn.take s.1.pok s.2.2 x
    rw [hT] at h h3
    simp only at h h3
    rw [← hv] at h h3
    exact ⟨⟨_, _, rfl⟩, S', v', s', h.trans s.2.1, h3⟩)
  go_enter Tryz.func5, Tryz.ntmps5
  go_wp2_with (first
    | (go_at_call 9; (with_reducible refine cn.mono ?_); rintro e w1 ⟨hp, ap, p, S, rfl, s1⟩; have ch := CH.out _ _ _ _ s1; clear s1)
    | (go_at_call 29; (with_reducible refine ch.mono ?_); rintro e w2 ⟨rfl, S2, v2, s2, hh2⟩; have HS := hidb (And.intro s2 hh2); clear s2 hh2))
  clear cn CH
  go_loopw [10] (fun v wr => ∃ (j : Nat) (S' : Nat → Prop) (u : PoolW), j ≤ m ∧ v = .int .i64 j ∧ Hid (PoolSt w wr p hp S' u j pages ∧ u.held = true ∧ AllIn u.plain)) (fun v _ => (m - intOf v).toNat)
  case atStart => exact ⟨0, S2, v2, Nat.zero_le _, rfl, HS⟩
  case round =>
    obtain ⟨j, S', u, hj, rfl, HS1⟩ := hrel
    by_cases hlt : j < m
    · obtain ⟨b, off, x, rfl, hx, hc⟩ := (HR.out.below HS1.out.1.bel).int_ hlt
      have hx64 := HID.out x (List.mem_of_getElem? hx)
      have ct := CT.out wr p hp S' u j x HS1.out hlt hx64
      have hi0 : (0 : Int) ≤ (j : Int) := by omega
      have hi1 : (j : Int) < (m : Int) := by omega
      clear hx
      go_wp2_with (first
        | (go_at_call 30; (with_reducible refine ct.mono ?_); rintro e w3 ⟨⟨at', no, rfl⟩, S3, v3, s3, hh3⟩; have HS3 := hidb (And.intro s3 hh3); clear s3 hh3))
      go_roundw
      case rel => exact ⟨j + 1, S3, v3, by omega, by go_num, HS3⟩
      case measure => simp [intOf]; omega
    · obtain rfl : j = m := by omega
      clear CT
      obtain ⟨nsp, hnsp⟩ : ∃ nsp, (hSpans u.h).length = nsp := ⟨_, rfl⟩
      have c1 := hold_start HS1.out.1 HS1.out.2.1 HS1.out.2.2 bk
      rw [hnsp] at c1
      have HNSP := hidb hnsp
      clear hnsp
      go_wp2_with (first
        | (go_at_call 22; (with_reducible refine c1.mono ?_); rintro e w3 ⟨⟨A3, k3, rfl⟩, c2⟩)
        | (go_at_call 19; (with_reducible refine c2.mono ?_); rintro e w4 ⟨A4, N, k4, O, base, rfl, hN, H0⟩; have HH0 := hidb H0; clear H0))
      go_loopw [13, 14] (fun v _ wr => ∃ (i : Nat) (S2 : Nat → Prop) (u2 : PoolW), i ≤ N ∧ v = .int .i64 i ∧ Hid (HoldSt w wr p hp S2 u2 j pages u.h base A4 N k4 O bk i)) (fun v _ _ => (N - intOf v).toNat)
      case atStart => exact ⟨0, S', u, Nat.zero_le _, rfl, HH0⟩
      case round =>
        obtain ⟨i, S3, u3, hiN, rfl, HH⟩ := hrel
        by_cases hlt2 : i < N
        · obtain ⟨b, off, x, rfl, hx, hc⟩ := HH.out.at_ hlt2
          have hi0 : (0 : Int) ≤ (i : Int) := by omega
          have hi1 : (i : Int) < (N : Int) := by omega
          cases bk with
          | false =>
            have e1 := hold_step HH.out (back_at HH.out.len hx hlt2 (by simp)) nsp HNSP.out
            have ga := e1 _ (Or.inl rfl)
            have gb := e1 _ (Or.inr rfl)
            clear e1 hx
            go_wp2_with (first
              | (go_at_call 31; (with_reducible refine ga.mono ?_); rintro e w5 ⟨rfl, d2⟩)
              | (go_at_call 31; (with_reducible refine gb.mono ?_); rintro e w5 ⟨rfl, d2⟩)
              | (go_at_call 22; (with_reducible refine d2.mono ?_); rintro e w6 ⟨⟨A6, k6, rfl⟩, S6, u6, h6⟩; have H6 := hidb h6; clear h6))
            go_roundw
            case rel => exact ⟨i + 1, S6, u6, by omega, by go_num, H6⟩
            case measure => simp [intOf]; omega
          | true =>
            obtain ⟨q, hq⟩ : ∃ q, N = i + q + 1 := ⟨N - i - 1, by omega⟩
            obtain ⟨b2, off2, y, hA2, hy, hc2⟩ := HH.out.at_ (i := q) (by omega)
            injection hA2 with hA2
            injection hA2 with hA3 hA4 hA5
            subst hA3 hA4
            have hw1 : IntKind.i64.wrap ((N : Int) - 1) = ((i + q : Nat) : Int) := by rw [IntKind.wrap_i64]; omega
            have hw2 : IntKind.i64.wrap (((i + q : Nat) : Int) - (i : Int)) = (q : Int) := by rw [IntKind.wrap_i64]; omega
            have hq0 : (0 : Int) ≤ (q : Int) := by omega
            have hq1 : (q : Int) < (N : Int) := by omega
            have e1 := hold_step HH.out (back_at HH.out.len hy hlt2 (by simp; omega)) nsp HNSP.out
            have ga := e1 _ (Or.inl rfl)
            have gb := e1 _ (Or.inr rfl)
            clear e1 hx hy hq
            go_wp2_with (first
              | (go_at_call 31; (with_reducible refine ga.mono ?_); rintro e w5 ⟨rfl, d2⟩)
              | (go_at_call 31; (with_reducible refine gb.mono ?_); rintro e w5 ⟨rfl, d2⟩)
              | (go_at_call 22; (with_reducible refine d2.mono ?_); rintro e w6 ⟨⟨A6, k6, rfl⟩, S6, u6, h6⟩; have H6 := hidb h6; clear h6))
            go_roundw
            case rel => exact ⟨i + 1, S6, u6, by omega, by go_num, H6⟩
            case measure => simp [intOf]; omega
        · obtain rfl : i = N := by omega
          have d1 := hold_end HH.out
          go_wp2_with (first
            | (go_at_call 29; (with_reducible refine d1.mono ?_); rintro e w5 ⟨rfl, d2⟩)
            | (go_at_call 19; (with_reducible refine d2.mono ?_); rintro e w6 ⟨⟨A6, k6, rfl⟩, d3⟩)
            | (go_at_call 22; (with_reducible refine d3.mono ?_); rintro e w7 ⟨⟨A7, k7, rfl⟩, d4⟩)
            | (go_at_call 25; (with_reducible refine d4.mono ?_); rintro e w8 ⟨A8, k8, rfl, d5⟩)
            | (go_at_call 24; (with_reducible refine d5.mono ?_); rintro e w9 ⟨rfl, hb9⟩)
            | (go_at_call 8; (with_reducible refine (cw _).mono ?_); rintro e w10 ⟨rfl, hb10⟩))
          go_ret
          exact ⟨rfl, hb9.trans (hb10.mono hb9.size)⟩

end Go.Proofs.YthdjgmankcegpaaGreat
