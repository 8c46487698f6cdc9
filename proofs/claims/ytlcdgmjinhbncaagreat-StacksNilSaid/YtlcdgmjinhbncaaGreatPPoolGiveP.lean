/- Plain facts: what Push and Pop leave of the other chains; a pool one of whose chains is another one. -/
import Derived.Test.YtlcdgmjinhbncaaGreatPPoolTrim
import Derived.Shelf.Slices.Reverse
import Derived.Test.YtlcdgmjinhbncaaGreatProg
import Derived.Deep.Cut
import Derived.Deep.CutRange
import Derived.Deep.RegionLaw
namespace Go.Proofs.YtlcdgmjinhbncaaGreat
open Go.RowKit Go.Maps
set_option linter.unusedVariables false

theorem links_keep : ∀ {m : List Int} {s : List Nat × (Int × Int)} {h : Int} {l : List Int}, (∀ x ∈ m, 0 ≤ x ∧ x ∉ l) → Links s.1 h l → Links (cAll s m).1 h l
  | [], s, h, l, _, k => k
  | a :: m, s, h, l, hm, k => by
    have ha := hm a (List.mem_cons_self ..)
    exact links_keep (m := m) (s := cStep s a) (fun x hx => hm x (List.mem_cons_of_mem _ hx)) (k.set_ ha.1 ha.2)
theorem list_keep {ws : List Nat} {c : Int × Int} {l m : List Int} (c0 : Int × Int) (h : cList ws c = some l) (hm : ∀ x ∈ m, 0 ≤ x ∧ x ∉ l) : cList (cAll (ws, c0) m).1 c = some l := by
  obtain ⟨c1, c2⟩ := c
  obtain ⟨h1, h2, h3⟩ := cList_iff.1 h
  exact cList_iff.2 ⟨links_keep (s := (ws, c0)) hm h1, h2, h3⟩
theorem nodup_at {l : List Int} (hd : l.Nodup) {i : Nat} (hi : i < l.length) : l.getD i 0 ∉ l.take i := fun c => by
  obtain ⟨j, hj, e⟩ := List.mem_iff_getElem.1 c
  rw [List.length_take] at hj
  rw [List.getElem_take, List.getD_eq_getElem?_getD, List.getElem?_eq_getElem hi] at e
  exact absurd e ((List.pairwise_iff_getElem.1 hd) j i (by omega) hi (by omega))
/-- A push that is right. -/
theorem push_right {ws : List Nat} {c : Int × Int} {l m : List Int} (h : cList ws c = some l) (hd : (m ++ l).Nodup) (hr : ∀ x ∈ m, 0 ≤ x ∧ x < (ws.length : Int)) (hw : Wide ws) (hn : ws.length ≤ 65536) :
    ∃ ws' c', cPush ws c m = (ws', c', 0) ∧ cList ws' c' = some (m.reverse ++ l) ∧ ws'.length = ws.length ∧ Wide ws' ∧ ∀ c2 l2, cList ws c2 = some l2 → (∀ x ∈ m, x ∉ l2) → cList ws' c2 = some l2 := by
  have h1 : cIn ws.length m = true := by
    unfold cIn
    rw [List.all_eq_true]
    exact fun x hx => decide_eq_true (hr x hx)
  have hdm := (List.nodup_append.1 hd).1
  have h2 : cClash l m = false := cClash_no fun i hi => ⟨fun c2 => (List.nodup_append.1 hd).2.2 (m.getD i 0) (by rw [List.getD_eq_getElem?_getD, List.getElem?_eq_getElem hi]; exact List.getElem_mem _) _ c2 rfl, nodup_at hdm hi⟩
  refine ⟨(cAll (ws, c) m).1, (cAll (ws, c) m).2, ?_, push_list h hd hr, cAll_length .., ?_, fun c2 l2 h3 h4 => list_keep c h3 fun x hx => ⟨(hr x hx).1, h4 x hx⟩⟩
  · unfold cPush
    rw [h]
    simp only
    rw [h1, h2]; rfl
  · obtain ⟨c1, c2⟩ := c
    have h5 := (cList_iff.1 h).1.range
    exact Wide.cAll hw (by show c1.toNat < _; omega) fun x hx => by have := hr x hx; omega
/-- A pop of a chain that has blocks. -/
theorem pop_right {ws : List Nat} {c : Int × Int} {a : Int} {l : List Int} (h : cList ws c = some (a :: l)) (hw : Wide ws) (hn : ws.length ≤ 65536) :
    ∃ ws' c', cPop ws c = (ws', c', a, 0) ∧ cList ws' c' = some l ∧ ws'.length = ws.length ∧ Wide ws' ∧ ∀ c2 l2, cList ws c2 = some l2 → (∀ x ∈ a :: l, x ∉ l2) → cList ws' c2 = some l2 := by
  obtain ⟨hd, hr, hlen⟩ := cList_some h
  have har := hr a (List.mem_cons_self ..)
  obtain ⟨h1, _, _, h4⟩ := without_list h (List.mem_cons_self ..)
  have hf : (a :: l).filter (fun x => x != a) = l := by
    have := (List.nodup_cons.1 hd).1
    rw [List.filter_cons_of_neg (by simp)]
    exact List.filter_eq_self.2 fun x hx => by simpa using fun e : x = a => this (e ▸ hx)
  rw [hf] at h1
  have hm : ∀ x ∈ (a :: l).reverse.filter (fun x => x != a), x ∈ a :: l := fun x hx => List.mem_reverse.1 (List.mem_filter.1 hx).1
  refine ⟨_, _, by unfold cPop; rw [h], h1, h4, ?_, fun c2 l2 h3 h5 => ?_⟩
  · unfold cWithout
    exact Wide.cAll (hw.set _ (by omega)) (by show (0 : Int).toNat < _; decide) fun x hx => by have := hr x (hm x hx); omega
  · unfold cWithout
    have h6 : cList (ws.set a.toNat 0) c2 = some l2 := by
      obtain ⟨p, q⟩ := c2
      obtain ⟨q1, q2, q3⟩ := cList_iff.1 h3
      exact cList_iff.2 ⟨q1.set_ har.1 (h5 a (List.mem_cons_self ..)), q2, q3⟩
    exact list_keep (0, 0) h6 fun x hx => ⟨(hr x (hm x hx)).1, h5 x (hm x hx)⟩

section
variable {n m : Nat} {v : PoolW}
/-- Blocks of two cut spans are different ones. -/
theorem PlOk.blocks_apart (o : PlOk n m v) (k : HOk v.h) {c d : CutV} (hc : c ∈ v.ks) (hd : d ∈ v.ks) {a : Int} (h1 : a ∈ pBlocks c.s) (h2 : a ∈ pBlocks d.s) : c = d := by
  obtain ⟨f1, f2, f3⟩ := o.four c hc
  obtain ⟨g1, g2, g3⟩ := o.four d hd
  have e := k.apart (o.mem c hc) (o.mem d hd) (blocks_page h1 f1 ⟨f2, f3⟩) (blocks_page h2 g1 ⟨g2, g3⟩)
  exact kids_inj o.ids hc hd (by rw [e])
/-- .. and within the arena. -/
theorem PlOk.block_range (o : PlOk n m v) (k : HOk v.h) {c : CutV} (hc : c ∈ v.ks) {a : Int} (h1 : a ∈ pBlocks c.s) : 0 ≤ a ∧ a < (n : Int) := by
  obtain ⟨f1, f2, f3⟩ := o.four c hc
  have h2 := blocks_in h1 f1 ⟨f2, f3⟩
  have h3 := (pMany_16 c.s.2.2.2 f2 f3).2.2.2
  have h4 := k.start (o.mem c hc)
  have h5 := o.len
  rw [f1] at h4
  omega
theorem PlOk.chain (o : PlOk n m v) (hd : (v.ks.map (·.b)).Nodup) {i : Nat} {c : CutV} (hi : v.ks[i]? = some c) {ws' : List Nat} {c' : Int × Int} {l' : List Int} (hw : Wide ws') (hl : cList ws' c' = some l') (hs : ∀ x ∈ l', x ∈ pBlocks c.s)
    (hk : ∀ k ∈ v.ks, k.b ≠ c.b → cList ws' k.c = some k.l) : PlOk n m { v with ws := ws', ks := setC v.ks i c c' l' } := by
  have hcm := List.mem_of_getElem? hi
  refine ⟨o.len, hw, fun x hx => ?_, fun x hx => ?_, fun x hx => ?_, fun x hx => ?_, ?_, o.cnt⟩
  · rcases setC_mem hi hx hd with rfl | ⟨h1, h2⟩
    · exact o.mem c hcm
    · exact o.mem x h1
  · rcases setC_mem hi hx hd with rfl | ⟨h1, h2⟩
    · exact o.four c hcm
    · exact o.four x h1
  · rcases setC_mem hi hx hd with rfl | ⟨h1, h2⟩
    · exact hl
    · exact hk x h1 h2
  · rcases setC_mem hi hx hd with rfl | ⟨h1, h2⟩
    · exact hs
    · exact o.sub x h1
  · show ((setC v.ks i c c' l').map (·.s.1)).Nodup
    rw [setC_map (·.s.1) (fun _ _ _ => rfl) hi]
    exact o.ids
end

/-- Chains that have none of these blocks are as they were. -/
def Stays (ws ws' : List Nat) (T : Int → Prop) : Prop := ∀ c l, cList ws c = some l → (∀ x ∈ l, ¬ T x) → cList ws' c = some l
theorem Stays.refl (ws : List Nat) (T : Int → Prop) : Stays ws ws T := fun _ _ h _ => h
theorem Stays.trans {a b c : List Nat} {T T' U : Int → Prop} (h : Stays a b T) (h' : Stays b c T') (i : ∀ x, T x → U x) (i' : ∀ x, T' x → U x) : Stays a c U := fun q l hl hn => h' q l (h q l hl fun x hx ht => hn x hx (i x ht)) fun x hx ht => hn x hx (i' x ht)
theorem Stays.mono {a b : List Nat} {T U : Int → Prop} (h : Stays a b T) (i : ∀ x, T x → U x) : Stays a b U := fun q l hl hn => h q l hl fun x hx ht => hn x hx (i x ht)
/-- A block of a cut span that is in no list. -/
def OutOf (ks : List CutV) (x : Int) : Prop := ∃ k ∈ ks, x ∈ pBlocks k.s ∧ x ∉ k.l
/-- What a call leaves of a pool. -/
def Went (w : World) (Sh : Nat → Prop) (p hp ap g mb n : Nat) (ks : List CutV) (w' : World) (v' : PoolW) : Prop :=
  ∃ Sh' m' D', PlAt w' Sh' p hp ap g mb n m' D' v' ∧ PlOk n m' v' ∧ Kept (PlS Sh p ap g mb ks) w w' ∧ ∀ b, PlS Sh' p ap g mb v'.ks b → PlS Sh p ap g mb ks b ∨ w.heap.size ≤ b
theorem Went.trans {w w' w'' : World} {Sh Sh' : Nat → Prop} {p hp ap g mb n : Nat} {ks : List CutV} {v' v'' : PoolW} (hk : Kept (PlS Sh p ap g mb ks) w w') (hs : ∀ b, PlS Sh' p ap g mb v'.ks b → PlS Sh p ap g mb ks b ∨ w.heap.size ≤ b) (h : Went w' Sh' p hp ap g mb n v'.ks w'' v'') : Went w Sh p hp ap g mb n ks w'' v'' := by
  obtain ⟨S2, m2, D2, q1, q2, q3, q4⟩ := h
  refine ⟨S2, m2, D2, q1, q2, hk.trans q3 (fun b hb h2 => ?_), fun b hb => ?_⟩
  · rcases hs b h2 with h3 | h3
    · exact h3
    · omega
  · rcases q4 b hb with h2 | h2
    · exact hs b h2
    · exact Or.inr (Nat.le_trans hk.size h2)
theorem Trimmed.went {w w' : World} {Sh : Nat → Prop} {p hp ap g mb n m : Nat} {v : PoolW} {e : Ending} (h : Trimmed w Sh p hp ap g mb n m v e w') : Went w Sh p hp ap g mb n v.ks w' (trimV v) := by
  obtain ⟨_, S2, D2, q1, q2, q3, q4⟩ := h
  refine ⟨S2, m, D2, q1, q2, q3, fun b hb => ?_⟩
  have hsub : ∀ c ∈ (trimV v).ks, c ∈ v.ks := fun c hc => by
    unfold trimV at hc
    split at hc
    · exact hc
    · exact (List.mem_filter.1 hc).1
  rcases hb with h | h | h | h | h | ⟨c, hc, e⟩
  · rcases q4 b h with h2 | h2
    · exact Or.inl (Or.inl h2)
    · exact Or.inr h2
  · exact Or.inl (Or.inr (Or.inl h))
  · exact Or.inl (Or.inr (Or.inr (Or.inl h)))
  · exact Or.inl (Or.inr (Or.inr (Or.inr (Or.inl h))))
  · exact Or.inl (Or.inr (Or.inr (Or.inr (Or.inr (Or.inl h)))))
  · exact Or.inl (Or.inr (Or.inr (Or.inr (Or.inr (Or.inr ⟨c, hsub c hc, e⟩)))))

end Go.Proofs.YtlcdgmjinhbncaaGreat
/- What Take and Give of the document's own pool come to, plainly; which span is the first one. -/
namespace Go.Proofs.YtlcdgmjinhbncaaGreat
open Go.RowKit Go.Maps
set_option linter.unusedVariables false

abbrev PL := List ((Int × Int × Int × Int) × List Int)
def fsP (l : PL) (order from' : Int) (s : Bool) (j : Nat) : Option Nat := (List.range j).foldl (pStep order from' s l) none
theorem fsP_succ (l : PL) (order from' : Int) (s : Bool) (j : Nat) : fsP l order from' s (j + 1) = pStep order from' s l (fsP l order from' s j) j := by
  unfold fsP; rw [List.range_succ, List.foldl_append]; rfl
/-- The best of the first j places. -/
theorem fsP_spec (l : PL) (order from' : Int) (s : Bool) : ∀ j, j ≤ l.length → (fsP l order from' s j = none ∧ ∀ i c, i < j → l[i]? = some c → pFits order from' s c = false) ∨ ∃ b c, fsP l order from' s j = some b ∧ b < j ∧ l[b]? = some c ∧ pFits order from' s c = true ∧ ∀ i d, i < j → l[i]? = some d → pFits order from' s d = true → c.1.2.1 ≤ d.1.2.1
  | 0, _ => Or.inl ⟨rfl, fun i c h => absurd h (Nat.not_lt_zero _)⟩
  | j + 1, hj => by
    have ih := fsP_spec l order from' s j (by omega)
    have hx : l[j]? = some l[j] := List.getElem?_eq_getElem (by omega)
    rw [fsP_succ]
    unfold pStep
    rw [hx]
    simp only
    by_cases hf : pFits order from' s l[j] = true
    · rw [if_pos hf]
      rcases ih with ⟨e, h⟩ | ⟨b, c, e, hb, hc, hfc, hm⟩
      · rw [e]
        refine Or.inr ⟨j, l[j], rfl, by omega, hx, hf, fun i d hi hd hfd => ?_⟩
        by_cases hij : i = j
        · subst hij; rw [hx] at hd; injection hd with hd; rw [hd]; exact Int.le_refl _
        · have := h i d (by omega) hd; rw [hfd] at this; cases this
      · rw [e]
        simp only
        rw [hc]
        simp only
        by_cases hlt : l[j].1.2.1 < c.1.2.1
        · rw [if_pos hlt]
          refine Or.inr ⟨j, l[j], rfl, by omega, hx, hf, fun i d hi hd hfd => ?_⟩
          by_cases hij : i = j
          · subst hij; rw [hx] at hd; injection hd with hd; rw [hd]; exact Int.le_refl _
          · have := hm i d (by omega) hd hfd; omega
        · rw [if_neg hlt]
          refine Or.inr ⟨b, c, rfl, by omega, hc, hfc, fun i d hi hd hfd => ?_⟩
          by_cases hij : i = j
          · subst hij; rw [hx] at hd; injection hd with hd; rw [← hd]; omega
          · exact hm i d (by omega) hd hfd
    · rw [if_neg hf]
      have hf2 : pFits order from' s l[j] = false := by simpa using hf
      rcases ih with ⟨e, h⟩ | ⟨b, c, e, hb, hc, hfc, hm⟩
      · refine Or.inl ⟨e, fun i c hi hc => ?_⟩
        by_cases hij : i = j
        · subst hij; rw [hx] at hc; injection hc with hc; rw [← hc]; exact hf2
        · exact h i c (by omega) hc
      · refine Or.inr ⟨b, c, e, by omega, hc, hfc, fun i d hi hd hfd => ?_⟩
        by_cases hij : i = j
        · subst hij; rw [hx] at hd; injection hd with hd; rw [← hd, hf2] at hfd; cases hfd
        · exact hm i d (by omega) hd hfd
theorem pFirst_spec (l : PL) (order from' : Int) (s : Bool) : (pFirst l order from' s = none ∧ ∀ c ∈ l, pFits order from' s c = false) ∨ ∃ b c, pFirst l order from' s = some b ∧ l[b]? = some c ∧ pFits order from' s c = true ∧ ∀ d ∈ l, pFits order from' s d = true → c.1.2.1 ≤ d.1.2.1 := by
  rcases fsP_spec l order from' s l.length (Nat.le_refl _) with ⟨e, h⟩ | ⟨b, c, e, hb, hc, hf, hm⟩
  · refine Or.inl ⟨e, fun c hc => ?_⟩
    obtain ⟨i, hi, rfl⟩ := List.mem_iff_getElem.1 hc
    exact h i _ hi (List.getElem?_eq_getElem hi)
  · refine Or.inr ⟨b, c, e, hc, hf, fun d hd hfd => ?_⟩
    obtain ⟨i, hi, rfl⟩ := List.mem_iff_getElem.1 hd
    exact hm i _ hi (List.getElem?_eq_getElem hi) hfd
theorem starts_inj {n m : Nat} {v : PoolW} (o : PlOk n m v) (k : HOk v.h) {a b : CutV} (ha : a ∈ v.ks) (hb : b ∈ v.ks) (h : a.s.2.1 = b.s.2.1) : a = b := by
  refine kids_inj o.ids ha hb ?_
  have h1 := k.start (o.mem a ha)
  have h2 := k.start (o.mem b hb)
  rw [k.apart (o.mem a ha) (o.mem b hb) (p := a.s.2.1) ⟨Int.le_refl _, by omega⟩ (by omega)]
/-- The first one of those in order is the one with the least start. -/
theorem rising_first {n m : Nat} {v : PoolW} (o : PlOk n m v) (k : HOk v.h) {ds : List CutV} (hd : InOrderP v.ks ds) (f : CutV → Bool) (order : Int) (s : Bool) (hf : ∀ c ∈ v.ks, f c = pFits order 0 s c.plain) :
    (ds.filter f = [] ∧ pFirst (v.ks.map CutV.plain) order 0 s = none) ∨ ∃ c r i, ds.filter f = c :: r ∧ v.ks[i]? = some c ∧ f c = true ∧ pFirst (v.ks.map CutV.plain) order 0 s = some i := by
  cases e : ds.filter f with
  | nil =>
    refine Or.inl ⟨rfl, ?_⟩
    rcases pFirst_spec (v.ks.map CutV.plain) order 0 s with ⟨h, _⟩ | ⟨b, c, h, hc, hfc, _⟩
    · exact h
    · rw [List.getElem?_map] at hc
      obtain ⟨q, hq, rfl⟩ := Option.map_eq_some_iff.1 hc
      have hm := List.mem_of_getElem? hq
      have := List.filter_eq_nil_iff.1 e q ((hd.2.1 q).2 hm)
      rw [hf q hm, hfc] at this
      exact absurd rfl this
  | cons c r =>
    have hc : c ∈ ds.filter f := by rw [e]; exact List.mem_cons_self ..
    obtain ⟨h1, h2⟩ := List.mem_filter.1 hc
    have hck := (hd.2.1 c).1 h1
    have hmin : ∀ d ∈ v.ks, f d = true → c.s.2.1 ≤ d.s.2.1 := fun d hdm hfd => by
      have h3 : d ∈ c :: r := by rw [← e]; exact List.mem_filter.2 ⟨(hd.2.1 d).2 hdm, hfd⟩
      have h4 : (c :: r).Pairwise (fun a b : CutV => a.s.2.1 ≤ b.s.2.1) := by rw [← e]; exact hd.2.2.filter _
      rcases List.mem_cons.1 h3 with rfl | h3
      · exact Int.le_refl _
      · exact (List.pairwise_cons.1 h4).1 d h3
    rcases pFirst_spec (v.ks.map CutV.plain) order 0 s with ⟨_, h⟩ | ⟨b, d, h, hdb, hfd, hm⟩
    · have := h c.plain (List.mem_map.2 ⟨c, hck, rfl⟩)
      rw [← hf c hck, h2] at this; cases this
    · rw [List.getElem?_map] at hdb
      obtain ⟨q, hq, rfl⟩ := Option.map_eq_some_iff.1 hdb
      have hqm := List.mem_of_getElem? hq
      have h5 : q = c := starts_inj o k hqm hck (by
        have h6 := hmin q hqm (by rw [hf q hqm]; exact hfd)
        have h7 := hm c.plain (List.mem_map.2 ⟨c, hck, rfl⟩) (by rw [← hf c hck]; exact h2)
        have h8 : q.s.2.1 ≤ c.s.2.1 := h7
        omega)
      subst h5
      exact Or.inr ⟨q, r, b, rfl, hq, h2, h⟩

/-- Take. -/
def pTake (p : PoolV) (order : Int) : PoolV × Int × Int :=
  if order < 0 ∨ 3 < order then (p, 0, 1) else
  match pFirst p.l order 0 true with
  | some i => (match p.l[i]? with
    | some c => ({ p with l := p.l.set i (c.1, c.2.tail) }, c.2.headD 0, 0)
    | none => (p, 0, 0))
  | none => if (hMake p.heap 4 order).2.2 = 0 then (⟨(hMake p.heap 4 order).1, p.l ++ [((hMake p.heap 4 order).2.1, (pBlocks (hMake p.heap 4 order).2.1).tail)], p.held⟩, (pBlocks (hMake p.heap 4 order).2.1).headD 0, 0) else (p, 0, (hMake p.heap 4 order).2.2)

end Go.Proofs.YtlcdgmjinhbncaaGreat
/-
  DERIVED: THE SHELF's CONTRACTS AT THIS DUMP, IN PLAIN WORDS (tools/lay-plain.mjs out of 'TryzFew3.lean', which tools/lay-shelf.mjs wrote): THE SAME DECLARATIONS UNDER THE SAME NAMES: 'import', 'namespace', 'open', 'def', 'theorem' AND NOTHING ELSE: no command of the shelf's: FOR A HAND-IN. Each laying: the table of numbers ('.._ren') and one theorem, a field a fact of the dump's own or the kernel's comparison; each contract: ONE APPLICATION.
-/
namespace Go.Proofs
open Go.Shelf
def Tryz.lays112_ren : Go.Shelf.Ren := ⟨fun | 112 => 194 | n => n, fun | 28 => 38 | 3 => 3 | 4 => 4 | 0 => 0 | n => n, fun | n => n⟩
theorem Tryz.lays112 : Go.Proofs.Lays.n112 Tryz.prog Tryz.lays112_ren := {
  mixed := by kernel_rfl
  f112 := Tryz.func194.trans (congrArg some (by kernel_rfl))
  t0 := Tryz.underlying0
  a0 := Tryz.isAgg0
  z0 := Tryz.sizeOf0
  v0 := Tryz.zeroValue0
  t3 := Tryz.underlying3
  a3 := Tryz.isAgg3
  z3 := Tryz.sizeOf3
  v3 := Tryz.zeroValue3
  t4 := Tryz.underlying4
  a4 := Tryz.isAgg4
  z4 := Tryz.sizeOf4
  v4 := Tryz.zeroValue4
  t28 := Tryz.underlying38
  a28 := Tryz.isAgg38
  z28 := Tryz.sizeOf38
  v28 := Tryz.zeroValue38 }
open Go.RowKit Go.Lib Go.Sort in
/-- slices.Reverse at []int: "Reverse reverses the elements of the slice in place.": THE SLICE's CELLS HOLD 'zs.reverse' BEHIND THE CALL; all else is as it was, but for the count of draws (the exchange 's[i], s[j] = s[j], s[i]' draws its order, once a round). IN THE WORDS OF slices.Sort's CONTRACT: 'Holds': the cells hold zs and none is frozen; 'putRow': the world with those cells holding another array. A slice of length 0 that is not nil is among them ('zs = []'); nil: '.._nil'. (LAID: no walk: one application.) -/
theorem Tryz.slices_Reverse_int (blk off cap : Nat) (zs : List Int) (w : World) (hH : Holds (Value.int .i64) w blk off zs.toArray) (hsz : zs.length ≤ 9223372036854775807) :
    Calls Tryz.prog 194 #[.slice (some ⟨blk, off, none⟩) zs.length cap] w fun e w' => e = .returned (.tuple #[]) ∧ ∃ n, w' = putRow (Value.int .i64) (Sort.ahead w n) blk off zs.reverse.toArray := Any.slices_Reverse_int Tryz.lays112 blk off cap zs w hH hsz
end Go.Proofs
/- What slices.Reverse does to a row of numbers of the call's own; what add of a pool does. -/
namespace Go.Proofs.YtlcdgmjinhbncaaGreat
open Go.RowKit Go.Maps Go.Sort
set_option linter.unusedVariables false

theorem code_preverse (g n c : Nat) (zs : List Int) (w : World) (base : Nat) (hown : w.ownsRow base 3 1 (.slice (some ⟨g, 0, none⟩) n c) n (zs.map iv)) (hl : zs.length = n) (hn : n ≤ 131072) :
    Calls Tryz.prog 194 #[.slice (some ⟨g, 0, none⟩) n c] w fun e w' => e = .returned (.tuple #[]) ∧ w'.ownsRow base 3 1 (.slice (some ⟨g, 0, none⟩) n c) n (zs.reverse.map iv) ∧ w.grownBy w' (some g) := by
  obtain ⟨L, hL, hbg, hnc, hcm, hLl, hxs⟩ := own_whole hown
  rw [Nat.mul_one] at hLl hxs
  have hH : Holds (Value.int .i64) w g 0 zs.toArray := holds_rw1 (Value.int .i64) hL zs.toArray (by rw [show zs.toArray.size = n by simpa using hl, ← hxs]; show zs.map iv = zs.map (Value.int .i64); rfl)
  have h := Tryz.slices_Reverse_int g 0 c zs w hH (by omega)
  rw [hl] at h
  refine h.mono ?_
  rintro e w' ⟨he, q, rfl⟩
  obtain ⟨r1, r2⟩ := put_rw1 (Value.int .i64) hL q zs.reverse.toArray #[] (by simp; omega)
  have e1 : sortWorld (Value.int .i64) w g 0 q zs.reverse.toArray #[] = putRow (Value.int .i64) (Sort.ahead w q) g 0 zs.reverse.toArray := by unfold sortWorld; rw [grow_empty]
  rw [e1] at r1 r2
  refine ⟨he, ?_, r2⟩
  have h2 := own_of_whole (base := base) (s := 1) (n := n) (c := c) r1 hbg hnc hcm (by simp; omega)
  rw [Nat.mul_one, List.take_left' (by simp [hl])] at h2
  exact h2

theorem own_some {w : World} {base n c : Nat} {e : TypeId} {A : Option Addr} {xs : List Value} (h : w.ownsRow base e 1 (.slice A n c) n xs) (hn : 0 < n) : ∃ g, A = some ⟨g, 0, none⟩ ∧ base ≤ g ∧ g < w.heap.size := by
  have hlt := h.lt
  rcases h.2 with ⟨_, h0⟩ | ⟨g, cap, cur, h1, h2, _⟩
  · omega
  · injection h1 with h1
    subst h1
    exact ⟨g, rfl, h2, (hlt g rfl).2⟩
theorem CutAt.setC {w : World} {c : CutV} (hc : CutAt w c) (h' l' : Int) (l : List Int) : CutAt ((w.setCell ⟨c.b, 4, none⟩ (.int .i64 h')).setCell ⟨c.b, 5, none⟩ (.int .i64 l')) { c with c := (h', l'), l := l } := by
  have q : ∀ (X : World) (i j : Nat) (u : Value), i ≠ j → (X.setCell ⟨c.b, i, none⟩ u).cell? ⟨c.b, j, none⟩ = X.cell? ⟨c.b, j, none⟩ := fun X i j u h => World.cell?_setCell_other X _ _ _ (fun e => h (by injection e))
  refine ⟨?_, ?_, ?_, ?_, ?_, ?_, fun j => by rw [World.frozen?_setCell, World.frozen?_setCell]; exact hc.fz j⟩
  · show World.cell? _ ⟨c.b, 0, none⟩ = _; rw [q _ 5 0 _ (by decide), q _ 4 0 _ (by decide)]; exact hc.c0
  · show World.cell? _ ⟨c.b, 1, none⟩ = _; rw [q _ 5 1 _ (by decide), q _ 4 1 _ (by decide)]; exact hc.c1
  · show World.cell? _ ⟨c.b, 2, none⟩ = _; rw [q _ 5 2 _ (by decide), q _ 4 2 _ (by decide)]; exact hc.c2
  · show World.cell? _ ⟨c.b, 3, none⟩ = _; rw [q _ 5 3 _ (by decide), q _ 4 3 _ (by decide)]; exact hc.c3
  · show World.cell? _ ⟨c.b, 4, none⟩ = _; rw [q _ 5 4 _ (by decide)]; exact World.cell?_setCell_same w _ _ hc.c4
  · show World.cell? _ ⟨c.b, 5, none⟩ = _; exact World.cell?_setCell_same _ _ _ (by rw [q _ 4 5 _ (by decide)]; exact hc.c5)

/-- A cut span under way, beside a pool. -/
structure AddSt (w W : World) (Sh S2 : Nat → Prop) (p hp ap g mb n m : Nat) (D : DataW Unit) (ks : List CutV) (v : PoolW) (k : CutV) : Prop where
  pl : PlAt W S2 p hp ap g mb n m D v
  cut : CutAt W k
  new : ¬ PlS S2 p ap g mb v.ks k.b
  low : w.heap.size ≤ k.b
  kept : Kept (PlS Sh p ap g mb ks) w W
  sub : ∀ b, PlS S2 p ap g mb v.ks b → PlS Sh p ap g mb ks b ∨ w.heap.size ≤ b
  base : PlS Sh p ap g mb ks g ∧ PlS Sh p ap g mb ks mb
section
variable {w W W' : World} {Sh S2 : Nat → Prop} {p hp ap g mb n m : Nat} {D : DataW Unit} {ks : List CutV} {v : PoolW} {k : CutV}
theorem AddSt.below (h : AddSt w W Sh S2 p hp ap g mb n m D ks v k) (hb : Below W.heap.size W W') : AddSt w W' Sh S2 p hp ap g mb n m D ks v k :=
  ⟨h.pl.below hb, h.cut.below hb, h.new, h.low, h.kept.trans (Kept.of_below hb (fun _ => False)) (fun _ _ c => c.elim), h.sub, h.base⟩
theorem AddSt.grownNew (h : AddSt w W Sh S2 p hp ap g mb n m D ks v k) {q : Nat} (hg : W.grownBy W' (some q)) (hq : ¬ PlS S2 p ap g mb v.ks q) (hk : q ≠ k.b) (hw : w.heap.size ≤ q) : AddSt w W' Sh S2 p hp ap g mb n m D ks v k := by
  have hK : Kept (fun b => b = q) W W' := (Kept.refl _ W).grown hg (fun b e => by injection e with e; exact Or.inl e.symm)
  exact ⟨h.pl.keep hK (fun b hb e => hq (e ▸ hb)), h.cut.keep (hg.block _ h.cut.lt (fun e => hk (by injection e with e; exact e.symm))), h.new, h.low, h.kept.trans hK (fun b hb e => by omega), h.sub, h.base⟩
theorem AddSt.words (h : AddSt w W Sh S2 p hp ap g mb n m D ks v k) {ws' : List Nat} (hg : W.grownBy W' (some g)) (ha : Ar W' 0 ap g n ws') : AddSt w W' Sh S2 p hp ap g mb n m D ks { v with ws := ws' } k := by
  have hne : k.b ≠ g := fun e => h.new (by rw [e]; unfold PlS; simp)
  have hK : Kept (fun b => b = g) W W' := (Kept.refl _ W).grown hg (fun b e => by injection e with e; exact Or.inl e.symm)
  exact ⟨h.pl.words hg ha, h.cut.keep (hg.block _ h.cut.lt (fun e => hne (by injection e))), h.new, h.low, h.kept.trans hK (fun b hb e => by subst e; exact h.base.1), h.sub, h.base⟩
theorem AddSt.set (h : AddSt w W Sh S2 p hp ap g mb n m D ks v k) (h' l' : Int) (l : List Int) : AddSt w ((W.setCell ⟨k.b, 4, none⟩ (.int .i64 h')).setCell ⟨k.b, 5, none⟩ (.int .i64 l')) Sh S2 p hp ap g mb n m D ks v { k with c := (h', l'), l := l } := by
  have hK : Kept (fun b => b = k.b) W ((W.setCell ⟨k.b, 4, none⟩ (.int .i64 h')).setCell ⟨k.b, 5, none⟩ (.int .i64 l')) := ((Kept.refl (fun b => b = k.b) W).set (a := ⟨k.b, 4, none⟩) (Or.inl rfl) _).set (a := ⟨k.b, 5, none⟩) (Or.inl rfl) _
  have hl := h.low
  exact ⟨h.pl.keep hK (fun b hb e => h.new (e ▸ hb)), h.cut.setC h' l' l, h.new, h.low, h.kept.trans hK (fun b hb e => by subst e; omega), h.sub, h.base⟩
/-- It is put in the map. -/
theorem AddSt.put (h : AddSt w W Sh S2 p hp ap g mb n m D ks v k) {m' : Nat} {D' : DataW Unit} (hg : W.grownBy W' (some mb)) (hm : W'.ownsMap Tryz.prog 3 ptrR mb m' D') (hi : PIs D' (v.ks ++ [k])) (o : PlOk n m' { v with ks := v.ks ++ [k] }) : Went w Sh p hp ap g mb n ks W' { v with ks := v.ks ++ [k] } := by
  have hn : k.b ≠ p ∧ k.b ≠ ap ∧ k.b ≠ g ∧ k.b ≠ mb ∧ ¬ S2 k.b := by
    refine ⟨fun e => h.new ?_, fun e => h.new ?_, fun e => h.new ?_, fun e => h.new ?_, fun e => h.new (Or.inl e)⟩ <;> (rw [e]; unfold PlS; simp)
  have hK : Kept (fun b => b = mb) W W' := (Kept.refl _ W).grown hg (fun b e => by injection e with e; exact Or.inl e.symm)
  refine ⟨S2, m', D', h.pl.map_ hg hm hi (fun c hc => ?_) ?_, o, h.kept.trans hK (fun b hb e => by subst e; exact h.base.2), fun b hb => ?_⟩
  · rcases List.mem_append.1 hc with hc | hc
    · exact ⟨h.pl.cuts c hc, h.pl.nk c hc⟩
    · obtain rfl := List.mem_singleton.1 hc
      exact ⟨h.cut, hn⟩
  · rw [List.map_append]
    refine List.nodup_append.2 ⟨h.pl.nd, by simp, fun a ha b hb e => ?_⟩
    obtain rfl : b = k.b := by simpa using hb
    subst e
    obtain ⟨c, hc, e⟩ := List.mem_map.1 ha
    exact h.new (Or.inr (Or.inr (Or.inr (Or.inr (Or.inr ⟨c, hc, e⟩)))))
  · rcases hb with hb | hb | hb | hb | hb | ⟨c, hc, e⟩
    · exact h.sub b (Or.inl hb)
    · exact h.sub b (Or.inr (Or.inl hb))
    · exact h.sub b (Or.inr (Or.inr (Or.inl hb)))
    · exact h.sub b (Or.inr (Or.inr (Or.inr (Or.inl hb))))
    · exact h.sub b (Or.inr (Or.inr (Or.inr (Or.inr (Or.inl hb)))))
    · rcases List.mem_append.1 hc with hc | hc
      · exact h.sub b (Or.inr (Or.inr (Or.inr (Or.inr (Or.inr ⟨c, hc, e⟩)))))
      · obtain rfl := List.mem_singleton.1 hc
        exact Or.inr (e ▸ h.low)
end

/-- The pool behind add. -/
def addV (v : PoolW) (h' : HeapV) (ws' : List Nat) (b : Nat) (s : Int × Int × Int × Int) (c : Int × Int) : PoolW := ⟨h', ws', v.held, v.ks ++ [⟨b, s, c, pBlocks s⟩]⟩
/-- What add does. -/
def Added (w : World) (Sh : Nat → Prop) (p hp ap g mb n : Nat) (v : PoolW) (r : HeapV × (Int × Int × Int × Int) × Int) (e : Ending) (w' : World) : Prop :=
  (r.2.2 ≠ 0 ∧ e = .returned (.tuple #[.pointer none, .int .i64 r.2.2]) ∧ Went w Sh p hp ap g mb n v.ks w' v) ∨
  (r.2.2 = 0 ∧ ∃ b c ws', e = .returned (.tuple #[.pointer (some ⟨b, 0, none⟩), .int .i64 0]) ∧ Went w Sh p hp ap g mb n v.ks w' (addV v r.1 ws' b r.2.1 c) ∧ Stays v.ws ws' (· ∈ pBlocks r.2.1))

/-- What is added fits. -/
theorem PlOk.add {n m : Nat} {v : PoolW} (o : PlOk n m v) (k : HOk v.h) {order : Int} (ho : 0 ≤ order ∧ order ≤ 3) {r : Int × Int} (hb : fBest v.h.free 4 = some r) (hn : v.ws.length = n) (hn2 : n ≤ 65536) :
    ∃ h' s, hMake v.h 4 order = (h', s, 0) ∧ s.1 = v.h.last + 1 ∧ s.2.2.1 = 4 ∧ s.2.2.2 = order ∧ 0 ≤ s.2.1 ∧ s.2.1 ≤ 1024 ∧ HOk h' ∧ (∀ t ∈ v.ks, t.s.1 ≠ s.1) ∧ ∃ ws' c, cPush v.ws (0, 0) (pBlocks s).reverse = (ws', c, 0) ∧ (∀ x ∈ (pBlocks s).reverse, in64 x) ∧ ws'.length = n ∧ Stays v.ws ws' (· ∈ pBlocks s) ∧ ∀ b, PlOk n (m + 1) (addV v h' ws' b s c) := by
  obtain ⟨g, _, _, h3, e, k2⟩ := hMake_yes k (o := order) (by omega) hb
  have hs := k2.start (s := (v.h.last + 1, r.1, 4, order)) (List.mem_append_right _ (List.mem_singleton_self _))
  have hpg := k.p1
  simp only at hs
  have hid : ∀ t ∈ v.ks, t.s.1 ≠ v.h.last + 1 := fun t ht e2 => by have := k.idr t.s (o.mem t ht); omega
  have hold : ∀ t ∈ v.ks, t.s ∈ v.h.l ++ [(v.h.last + 1, r.1, 4, order)] := fun t ht => List.mem_append_left _ (o.mem t ht)
  have hnb : ∀ x ∈ pBlocks (v.h.last + 1, r.1, 4, order), 0 ≤ x ∧ x < (n : Int) ∧ ∀ t ∈ v.ks, x ∉ pBlocks t.s := fun x hx => by
    have h1 := blocks_in hx rfl ho
    have h2 := (pMany_16 order ho.1 ho.2).2.2.2
    simp only at h1
    have h4 := o.len
    refine ⟨by omega, by omega, fun t ht hxt => ?_⟩
    obtain ⟨f1, f2, f3⟩ := o.four t ht
    have e3 := k2.apart (hold t ht) (List.mem_append_right _ (List.mem_singleton_self _)) (blocks_page hxt f1 ⟨f2, f3⟩) (blocks_page hx rfl ho)
    exact hid t ht (by rw [e3])
  have hnd : (pBlocks (v.h.last + 1, r.1, 4, order)).Nodup := by
    unfold pBlocks
    refine List.pairwise_map.2 (List.Pairwise.imp (fun {a b} (h : a < b) e4 => ?_) List.pairwise_lt_range)
    have h1 : a * pSize order < b * pSize order := Nat.mul_lt_mul_of_pos_right h (pSize_pos order)
    simp only at e4
    omega
  have h0 : cList v.ws (0, 0) = some [] := cList_iff.2 ⟨rfl, List.nodup_nil, rfl⟩
  obtain ⟨ws', c, hp, hl, hlen, hw, hkeep⟩ := push_right h0 (m := (pBlocks (v.h.last + 1, r.1, 4, order)).reverse) (by rw [List.append_nil]; exact (List.reverse_perm _).nodup_iff.2 hnd) (fun x hx => by
    have := hnb x (List.mem_reverse.1 hx)
    rw [hn]; exact ⟨this.1, this.2.1⟩) o.wide (by rw [hn]; exact hn2)
  rw [List.reverse_reverse, List.append_nil] at hl
  refine ⟨_, _, e, rfl, rfl, rfl, by show 0 ≤ r.1; omega, by show r.1 ≤ 1024; omega, k2, hid, ws', c, hp, fun x hx => ?_, by rw [hlen, hn], fun c2 l2 h2 hn2 => hkeep c2 l2 h2 fun x hx hxl => hn2 x hxl (List.mem_reverse.1 hx), fun b => ?_⟩
  · have := hnb x (List.mem_reverse.1 hx)
    exact ⟨by omega, by omega⟩
  · refine ⟨o.len, hw, fun t ht => ?_, fun t ht => ?_, fun t ht => ?_, fun t ht => ?_, ?_, ?_⟩
    · rcases List.mem_append.1 ht with ht | ht
      · exact hold t ht
      · obtain rfl := List.mem_singleton.1 ht
        exact List.mem_append_right _ (List.mem_singleton_self _)
    · rcases List.mem_append.1 ht with ht | ht
      · exact o.four t ht
      · obtain rfl := List.mem_singleton.1 ht
        exact ⟨rfl, ho.1, ho.2⟩
    · rcases List.mem_append.1 ht with ht | ht
      · exact hkeep _ _ (o.lst t ht) fun x hx hxl => (hnb x (List.mem_reverse.1 hx)).2.2 t ht (o.sub t ht x hxl)
      · obtain rfl := List.mem_singleton.1 ht
        exact hl
    · rcases List.mem_append.1 ht with ht | ht
      · exact o.sub t ht
      · obtain rfl := List.mem_singleton.1 ht
        exact fun x hx => hx
    · show ((v.ks ++ [(⟨b, (v.h.last + 1, r.1, 4, order), c, pBlocks (v.h.last + 1, r.1, 4, order)⟩ : CutV)]).map (·.s.1)).Nodup
      rw [List.map_append]
      refine List.nodup_append.2 ⟨o.ids, by simp, fun a ha b' hb' e5 => ?_⟩
      obtain rfl : b' = v.h.last + 1 := by simpa using hb'
      subst e5
      obtain ⟨t, ht, e6⟩ := List.mem_map.1 ha
      exact hid t ht e6
    · have := o.cnt
      show ((m + 1 : Nat) : Int) ≤ v.h.last + 1
      omega

set_option maxRecDepth 100000 in
theorem code_padd {w : World} {Sh : Nat → Prop} {p hp ap g mb n m : Nat} {D : DataW Unit} {v : PoolW} (k : PlAt w Sh p hp ap g mb n m D v) (o : PlOk n m v) (order : Int) (ho : 0 ≤ order ∧ order ≤ 3) (hlb : v.h.last + 1 ≤ 1000000000) :
    Calls Tryz.prog 131 #[.pointer (some ⟨p, 0, none⟩), .int .i64 order] w (Added w Sh p hp ap g mb n v (hMake v.h 4 order)) := by
  have cp := code_pparts p (some ⟨hp, 0, none⟩) (some ⟨ap, 0, none⟩) (some mb) v.held w k.c0 k.c1 k.c2 k.c3
  have HM : Hid (∀ W, Below w.heap.size w W → Calls Tryz.prog 72 #[.pointer (some ⟨hp, 0, none⟩), .int .i64 4, .int .i64 order] W (MadeHp W Sh hp (hMake v.h 4 order))) := hidb (fun W hb => code_hmake (k.below hb).hp_ 4 order ⟨by omega, by omega⟩ ⟨by omega, by omega⟩ hlb)
  have HF := pfield_hp
  have HST : Hid (∀ w1 w2 h', Below w.heap.size w w1 → Kept Sh w1 w2 → Hp w2 (more Sh w1 w2) hp h' → PlAt w2 (more Sh w1 w2) p hp ap g mb n m D { v with h := h' } ∧ Kept (PlS Sh p ap g mb v.ks) w w2 ∧ ∀ b, PlS (more Sh w1 w2) p ap g mb v.ks b → PlS Sh p ap g mb v.ks b ∨ w.heap.size ≤ b) := hidb (fun w1 w2 h' hb hK hh => by
    refine ⟨(k.below hb).heap_ hK hh, (Kept.of_below hb (PlS Sh p ap g mb v.ks)).trans hK (fun b _ c => Or.inl c), fun b hb2 => ?_⟩
    rcases hb2 with h | h
    · rcases h.1 with h2 | h2
      · exact Or.inl (Or.inl h2)
      · exact Or.inr (Nat.le_trans hb.size h2)
    · exact Or.inl (Or.inr h))
  cases hb : fBest v.h.free 4 with
  | none =>
    have e : hMake v.h 4 order = (v.h, spanNone, 3) := hMake_full (by omega) hb
    rw [e] at HM ⊢
    have HE : Hid (∀ w1 w2 o2, Below w.heap.size w w1 → Kept Sh w1 w2 → Hp w2 (more Sh w1 w2) hp v.h → Added w Sh p hp ap g mb n v (v.h, spanNone, 3) (.returned (.tuple #[.pointer none, .int .i64 3])) (w2.alloc o2)) := hidb (fun w1 w2 o2 h1 h2 h3 => by
      obtain ⟨q1, q2, q3⟩ := HST.out w1 w2 v.h h1 h2 h3
      have hb2 : Below w2.heap.size w2 (w2.alloc o2) := (Below.refl _ _).alloc (Nat.le_refl _) _
      exact Or.inl ⟨by show (3 : Int) ≠ 0; decide, rfl, _, m, D, q1.below hb2, o, q2.trans (Kept.of_below hb2 (fun _ => False)) (fun _ _ c => c.elim), q3⟩)
    replace HM : Hid (∀ W, Below w.heap.size w W → Calls Tryz.prog 72 #[.pointer (some ⟨hp, 0, none⟩), .int .i64 4, .int .i64 order] W fun e w' => e = .returned (.tuple #[.agg #[.int .i64 0, .int .i64 0, .int .i64 0, .int .i64 0], .int .i64 3]) ∧ Hp w' (more Sh W w') hp v.h ∧ Kept Sh W w') := HM
    clear k o hb e HST hlb
    go_enter Tryz.func131, Tryz.ntmps131
    go_wp2_with (first
      | (go_at_call 150; (with_reducible refine cp.mono ?_); rintro e w1 ⟨rfl, hb1⟩)
      | (go_at_call 72; (with_reducible refine (HM.out _ hb1).mono ?_); rintro e w2 ⟨rfl, hh, hK⟩; have P := hidb (HE.out w1 w2 (.cells #[.int .i64 0, .int .i64 0, .int .i64 0, .int .i64 0] 49) hb1 hK hh)))
    go_ret2
    exact P.out
  | some r =>
    obtain ⟨h', s, e, hs1, hs2, hs3, hs4, hs5, hk', hnew, ws', c, hpush, hin, hlen, hstay, hok⟩ := o.add k.hp_.ok ho hb k.ar.hlen k.ar.small
    rw [e] at HM ⊢
    obtain ⟨s1, s2, s3, s4⟩ := s
    simp only at hs1 hs2 hs3 hs4 hs5
    subst hs2 hs3
    replace HM : Hid (∀ W, Below w.heap.size w W → Calls Tryz.prog 72 #[.pointer (some ⟨hp, 0, none⟩), .int .i64 4, .int .i64 s4] W fun e w' => e = .returned (.tuple #[.agg #[.int .i64 s1, .int .i64 s2, .int .i64 4, .int .i64 s4], .int .i64 0]) ∧ Hp w' (more Sh W w') hp h' ∧ Kept Sh W w') := HM
    have HS0 : Hid (∀ w1 w2 o2, Below w.heap.size w w1 → Kept Sh w1 w2 → Hp w2 (more Sh w1 w2) hp h' → ∃ S2, AddSt w ((w2.alloc o2).alloc (.cells #[.int .i64 s1, .int .i64 s2, .int .i64 4, .int .i64 s4, .int .i64 0, .int .i64 0] 139)) Sh S2 p hp ap g mb n m D v.ks { v with h := h' } ⟨w2.heap.size + 1, (s1, s2, 4, s4), (0, 0), []⟩) := hidb (fun w1 w2 o2 h1 h2 h3 => by
      obtain ⟨q1, q2, q3⟩ := HST.out w1 w2 h' h1 h2 h3
      have hb2 : Below w2.heap.size w2 (w2.alloc o2) := (Below.refl _ _).alloc (Nat.le_refl _) _
      have hb3 : Below w2.heap.size w2 ((w2.alloc o2).alloc (.cells #[.int .i64 s1, .int .i64 s2, .int .i64 4, .int .i64 s4, .int .i64 0, .int .i64 0] 139)) := hb2.alloc hb2.size _
      have hsz : (w2.alloc o2).heap.size = w2.heap.size + 1 := by simp
      refine ⟨_, q1.below hb3, ⟨?_, ?_, ?_, ?_, ?_, ?_, fun j => ?_⟩, fun hc => ?_, ?_, q2.trans (Kept.of_below hb3 (fun _ => False)) (fun _ _ c => c.elim), q3, ⟨by unfold PlS; simp, by unfold PlS; simp⟩⟩
      · show World.cell? _ ⟨w2.heap.size + 1, 0, none⟩ = _; rw [← hsz]; exact World.cell?_alloc_at _ _ _ 0 (by simp)
      · show World.cell? _ ⟨w2.heap.size + 1, 1, none⟩ = _; rw [← hsz]; exact World.cell?_alloc_at _ _ _ 1 (by simp)
      · show World.cell? _ ⟨w2.heap.size + 1, 2, none⟩ = _; rw [← hsz]; exact World.cell?_alloc_at _ _ _ 2 (by simp)
      · show World.cell? _ ⟨w2.heap.size + 1, 3, none⟩ = _; rw [← hsz]; exact World.cell?_alloc_at _ _ _ 3 (by simp)
      · show World.cell? _ ⟨w2.heap.size + 1, 4, none⟩ = _; rw [← hsz]; exact World.cell?_alloc_at _ _ _ 4 (by simp)
      · show World.cell? _ ⟨w2.heap.size + 1, 5, none⟩ = _; rw [← hsz]; exact World.cell?_alloc_at _ _ _ 5 (by simp)
      · simp
      · have := q1.lt _ hc
        simp only at this
        omega
      · have := q2.size
        show w.heap.size ≤ w2.heap.size + 1
        omega)
    have HPU : Hid (∀ W S2 b A d N, AddSt w W Sh S2 p hp ap g mb n m D v.ks { v with h := h' } ⟨b, (s1, s2, 4, s4), (0, 0), []⟩ → N = (pBlocks (s1, s2, 4, s4)).reverse.length → Sl W W.heap.size A N ((pBlocks (s1, s2, 4, s4)).reverse.map iv) → (∀ a, A = some a → w.heap.size ≤ a.block) → N ≤ 65536 → Calls Tryz.prog 143 #[.pointer (some ⟨ap, 0, none⟩), .agg #[.int .i64 0, .int .i64 0], .slice A N d] W fun e w' => e = .returned (.tuple #[.agg #[.int .i64 c.1, .int .i64 c.2], .int .i64 0]) ∧ AddSt w w' Sh S2 p hp ap g mb n m D v.ks { v with h := h', ws := ws' } ⟨b, (s1, s2, 4, s4), (0, 0), []⟩ ∧ W.grownBy w' (some g)) := hidb (fun W S2 b A d N hA hN hsl hnew2 hNs => by
      have hg := hA.pl.ar
      have hgl := k.ar.lt
      have := code_cpush hg 0 0 ⟨by omega, by omega⟩ ⟨by omega, by omega⟩ o.wide A N d _ hsl (fun _ a ha e => by have := hnew2 a ha; omega) hNs hin
      simp only at this
      rw [hpush] at this
      refine this.mono ?_
      rintro e w' ⟨rfl, ha, hg'⟩
      exact ⟨rfl, hA.words hg' ha, hg'⟩)
    have cb : ∀ W S2 b, AddSt w W Sh S2 p hp ap g mb n m D v.ks { v with h := h' } ⟨b, (s1, s2, 4, s4), (0, 0), []⟩ → Calls Tryz.prog 83 #[.pointer (some ⟨b, 0, none⟩)] W (OwnInts W (pBlocks (s1, s2, 4, s4))) := fun W S2 b hA => code_pblocks _ W hA.cut rfl hs4 hs5 ho.1 ho.2
    have HBL : Hid ((pBlocks (s1, s2, 4, s4)).length ≤ 16 ∧ 0 < (pBlocks (s1, s2, 4, s4)).length) := hidb (by
      rw [pBlocks_length]
      have := pMany_16 s4 ho.1 ho.2
      exact ⟨this.2.1, by show 0 < pMany 4 s4; omega⟩)
    have HS1 := hidb hs1
    have HIN1 : Hid (in64 s1) := hidb (by have := k.hp_.ok.la; rw [hs1]; exact ⟨by omega, by omega⟩)
    have HMM : Hid (m < maxLen) := hidb (by have := o.cnt; have := k.hp_.lb; unfold maxLen; omega)
    have HSTAY := hidb hstay
    clear hstay
    generalize hblk : pBlocks (s1, s2, 4, s4) = bl at HPU cb HBL
    have HBK := hidb hblk
    clear hb e HST hs1 hblk
    go_enter Tryz.func131, Tryz.ntmps131
    go_wp2_with (first
      | (go_at_call 150; (with_reducible refine cp.mono ?_); rintro e w1 ⟨rfl, hb1⟩)
      | (go_at_call 72; (with_reducible refine (HM.out _ hb1).mono ?_); rintro e w2 ⟨rfl, hh, hK⟩; obtain ⟨S2, hA0⟩ := HS0.out w1 w2 (.cells #[.int .i64 s1, .int .i64 s2, .int .i64 4, .int .i64 s4] 49) hb1 hK hh; have HA0 := hidb hA0; have ccb := cb _ _ _ hA0; clear hA0)
      | (go_at_call 83; (with_reducible refine ccb.mono ?_); rintro e w5 ⟨A, d, rfl, hown, hb5⟩; have HA5 := hidb (HA0.out.below hb5); obtain ⟨g5, rfl, hg5, hg5'⟩ := own_some hown HBL.out.2; have HG5 := hidb hg5; have cr := code_preverse g5 bl.length d bl w5 _ hown rfl (by have := HBL.out.1; omega); clear hown hb5)
      | (go_at_call 194; (with_reducible refine cr.mono ?_); rintro e w6 ⟨rfl, hown6, hg6⟩))
    have hlk := HA0.out.cut.lt
    have hg5l : w.heap.size ≤ g5 ∧ w2.heap.size + 1 < g5 := by
      have h1 := HG5.out
      have h2 := HA0.out.low
      simp only [World.size_alloc] at h1 h2
      omega
    have hqn : ¬ PlS S2 p ap g mb v.ks g5 := fun c => by have := HA0.out.pl.lt _ c; have := HG5.out; omega
    have hA6 := HA5.out.grownNew hg6 hqn (by show g5 ≠ w2.heap.size + 1; omega) hg5l.1
    have HA6 := hidb hA6
    have HSL : Hid (Sl w6 w6.heap.size (some ⟨g5, 0, none⟩) bl.length (bl.reverse.map iv)) := hidb (Sl.of_own hown6)
    have cpu : ∀ W, Below w6.heap.size w6 W → Calls Tryz.prog 143 #[.pointer (some ⟨ap, 0, none⟩), .agg #[.int .i64 0, .int .i64 0], .slice (some ⟨g5, 0, none⟩) bl.length d] W fun e w' => e = .returned (.tuple #[.agg #[.int .i64 c.1, .int .i64 c.2], .int .i64 0]) ∧ AddSt w w' Sh S2 p hp ap g mb n m D v.ks { v with h := h', ws := ws' } ⟨w2.heap.size + 1, (s1, s2, 4, s4), (0, 0), []⟩ ∧ W.grownBy w' (some g) := fun W hb => HPU.out W S2 _ _ d _ (HA6.out.below hb) (by rw [List.length_reverse]) ((HSL.out.below hb).more hb.size) (fun a ha => by
      injection ha with ha
      subst ha
      exact hg5l.1) (by have := HBL.out.1; omega)
    have c1 := hA6.pl.c1
    have d4 := hA6.cut.c4
    have d5 := hA6.cut.c5
    simp only at d4 d5
    clear hA6 hown6 hg6 hqn cr ccb HSL HA5 HG5 hlk hg5 hg5'
    go_cut [] from 28 to 43 (fun wx => AddSt w wx Sh S2 p hp ap g mb n m D v.ks { v with h := h', ws := ws' } ⟨w2.heap.size + 1, (s1, s2, 4, s4), c, bl⟩)
    case first =>
      go_region_law (first | (go_simp; go_at_call 143; (with_reducible refine (cpu _ (Below.refl _ _).drew).mono ?_); rintro e w7 ⟨rfl, hA7, hg7⟩; have HA7 := hidb hA7; have e4 := hA7.cut.c4; have e5 := hA7.cut.c5; have f4 := hA7.cut.fz 4; have f5 := hA7.cut.fz 5; simp only at e4 e5 f4 f5; clear hA7 hg7))
      all_goals
        go_wp2_with fail
        go_meet
        exact HA7.out.set c.1 c.2 bl
    case rest =>
      have hmp := hcut.pl.mp
      have c2 := hcut.pl.c2
      have d0 := hcut.cut.c0
      simp only at d0
      have hidw := hok
      obtain ⟨w9, hrun, hown9, hg9⟩ := World.ownsMap.update (P := Tryz.prog) (w := wc.drew) (val := .pointer (some ⟨w2.heap.size + 1, 0, none⟩)) (ownsMap_block (w' := wc.drew) hmp rfl) keyed Tryz.underlying143 HMM.out (key_of (i := s1) HIN1.out) (ptrR_mk (some (w2.heap.size + 1)))
      have hAd := hcut.below (W' := wc.drew) (Below.refl _ _).drew
      have hput := hAd.put hg9 hown9 (by
        have h1 := hAd.pl.mis.put (IsMap_any hmp) (k := ⟨w2.heap.size + 1, (s1, s2, 4, s4), c, bl⟩) hnew HIN1.out
        exact h1) (by rw [← HBK.out]; exact hok (w2.heap.size + 1))
      have HP := hidb hput
      have S9 : Hid (w9.cell? ⟨p, 2, none⟩ = some (.map (some mb)) ∧ w9.cell? ⟨w2.heap.size + 1, 0, none⟩ = some (.int .i64 s1)) := hidb (by
        obtain ⟨n1, n2, n3, n4, n5⟩ := hcut.pl.ne
        have hb1 : w2.heap.size + 1 ≠ mb := fun e => hcut.new (by show PlS S2 p ap g mb v.ks (w2.heap.size + 1); rw [e]; unfold PlS; simp)
        exact ⟨(World.cell?_of_block (w := wc) (a := ⟨p, 2, none⟩) (hg9.block p hcut.pl.ltp (fun e => n3 (by injection e)))).trans c2, (World.cell?_of_block (w := wc) (a := ⟨w2.heap.size + 1, 0, none⟩) (hg9.block _ hcut.cut.lt (fun e => hb1 (by injection e)))).trans d0⟩)
      clear hcut hmp hput hAd hown9 hg9 hidw c1 d4 d5
      go_wp2
      go_region_held3 (fun w' => w'.cell? ⟨p, 2, none⟩ = some (.map (some mb)) ∧ w'.cell? ⟨w2.heap.size + 1, 0, none⟩ = some (.int .i64 s1)) (first | exact S9.out | (go_keep; done)) (fail)
      go_wp2
      go_ret2
      exact Or.inr ⟨rfl, w2.heap.size + 1, c, ws', rfl, by rw [← HBK.out] at HP; exact HP.out, HSTAY.out⟩

end Go.Proofs.YtlcdgmjinhbncaaGreat
/- What the closures of Give ask of an address; whether any is asked so. -/
namespace Go.Proofs.YtlcdgmjinhbncaaGreat
open Go.RowKit Go.Maps
set_option linter.unusedVariables false

/-- slices.IndexFunc at numbers, with that closure: what it asks of each one may turn the world. -/
theorem code_g1_idx {t : Nat} (p : Nat → Bool) (I : Nat → World → Prop) (A : Option Addr) (n c : Nat) (zs : List Int) (w : World) (hI : I 0 w) (hs : ∀ j W, I j W → Sl W W.heap.size A n (zs.map iv))
    (hq : ∀ j z W, zs[j]? = some z → I j W → Calls Tryz.prog 141 #[.int .i64 z, .pointer (some ⟨t, 0, none⟩)] W fun e w' => e = .returned (.bool (p j)) ∧ I (j + 1) w') (hn : n ≤ 131072) :
    Calls Tryz.prog 155 #[.slice A n c, .func (.func 141) #[] #[.pointer (some ⟨t, 0, none⟩)]] w fun e w' => (∃ r : Int, e = .returned (.int .i64 r) ∧ -1 ≤ r ∧ r ≤ 9223372036854775807 ∧ decide (0 ≤ r) = (List.range n).any p) ∧ ∃ j, j ≤ n ∧ I j w' := by
  have HL : Hid (zs.length = n) := hidb (by have := (hs 0 w hI).1; simpa using this)
  have HI := hidb hI
  have HS := hidb hs
  have HQ := hidb hq
  clear hI hs hq
  go_enter Tryz.func155, Tryz.ntmps155
  go_wp2
  go_loopw [8] (fun k wr => ∃ j : Nat, j ≤ n ∧ Hid (∀ i, i < j → p i = false) ∧ k = .int .i64 j ∧ Hid (I j wr)) (fun k _ => (n - intOf k).toNat)
  case atStart => exact ⟨0, by omega, hidb (fun i h => absurd h (Nat.not_lt_zero _)), rfl, HI⟩
  case round =>
    obtain ⟨j, hj, HA, rfl, HJ⟩ := hrel
    by_cases hlt : j < n
    · obtain ⟨b, off, z, rfl, hx, hc⟩ := (HS.out j wr HJ.out).int_ hlt
      have c1 := HQ.out j z wr hx HJ.out
      have hj0 : (0 : Int) ≤ (j : Int) := by omega
      have hj1 : (j : Int) < (n : Int) := by omega
      clear hx
      cases hT : p j with
      | false =>
        rw [hT] at c1
        have HA2 : Hid (∀ i, i < j + 1 → p i = false) := hidb (fun i hi => by
          by_cases h : i = j
          · subst h; exact hT
          · exact HA.out i (by omega))
        clear hT
        go_wp2_with (first | (go_at_call 141; (with_reducible refine c1.mono ?_); rintro e w1 ⟨rfl, hi1⟩))
        go_roundw
        case rel => exact ⟨j + 1, by omega, HA2, by go_num, hidb hi1⟩
        case measure => simp [intOf]; omega
      | true =>
        rw [hT] at c1
        have HF : Hid ((List.range n).any p = true) := hidb (by
          rw [List.any_eq_true]
          exact ⟨j, List.mem_range.2 hlt, hT⟩)
        clear hT
        go_wp2_with (first | (go_at_call 141; (with_reducible refine c1.mono ?_); rintro e w1 ⟨rfl, hi1⟩))
        go_ret
        exact ⟨⟨j, rfl, by omega, by omega, by rw [HF.out]; exact decide_eq_true (by omega)⟩, j + 1, by omega, hi1⟩
    · have HF : Hid ((List.range n).any p = false) := hidb (by
        rw [List.any_eq_false]
        intro i hi
        have := HA.out i (by have := List.mem_range.1 hi; omega)
        simp [this])
      go_wp2
      go_ret
      exact ⟨⟨-1, rfl, by omega, by omega, by rw [HF.out]; rfl⟩, j, hj, HJ.out⟩
theorem code_g1_has {t : Nat} (p : Nat → Bool) (I : Nat → World → Prop) (A : Option Addr) (n c : Nat) (zs : List Int) (w : World) (hI : I 0 w) (hs : ∀ j W, I j W → Sl W W.heap.size A n (zs.map iv))
    (hq : ∀ j z W, zs[j]? = some z → I j W → Calls Tryz.prog 141 #[.int .i64 z, .pointer (some ⟨t, 0, none⟩)] W fun e w' => e = .returned (.bool (p j)) ∧ I (j + 1) w') (hn : n ≤ 131072) :
    Calls Tryz.prog 103 #[.slice A n c, .func (.func 141) #[] #[.pointer (some ⟨t, 0, none⟩)]] w fun e w' => e = .returned (.bool ((List.range n).any p)) ∧ ∃ j, j ≤ n ∧ I j w' := by
  have c1 := code_g1_idx p I A n c zs w hI hs hq hn
  clear hI hs hq
  go_enter Tryz.func103, Tryz.ntmps103
  go_wp2_with (go_at_call 155; (with_reducible refine c1.mono ?_); rintro e w1 ⟨⟨r, rfl, h1, h2, h3⟩, hj1⟩)
  go_ret
  exact ⟨rfl, hj1⟩

/-- slices.IndexFunc at numbers, with that closure: what it asks of each one may turn the world. -/
theorem code_g2_idx {s t : Nat} (p : Nat → Bool) (I : Nat → World → Prop) (A : Option Addr) (n c : Nat) (zs : List Int) (w : World) (hI : I 0 w) (hs : ∀ j W, I j W → Sl W W.heap.size A n (zs.map iv))
    (hq : ∀ j z W, zs[j]? = some z → I j W → Calls Tryz.prog 142 #[.int .i64 z, .pointer (some ⟨s, 0, none⟩), .pointer (some ⟨t, 0, none⟩)] W fun e w' => e = .returned (.bool (p j)) ∧ I (j + 1) w') (hn : n ≤ 131072) :
    Calls Tryz.prog 155 #[.slice A n c, .func (.func 142) #[] #[.pointer (some ⟨s, 0, none⟩), .pointer (some ⟨t, 0, none⟩)]] w fun e w' => (∃ r : Int, e = .returned (.int .i64 r) ∧ -1 ≤ r ∧ r ≤ 9223372036854775807 ∧ decide (0 ≤ r) = (List.range n).any p) ∧ ∃ j, j ≤ n ∧ I j w' := by
  have HL : Hid (zs.length = n) := hidb (by have := (hs 0 w hI).1; simpa using this)
  have HI := hidb hI
  have HS := hidb hs
  have HQ := hidb hq
  clear hI hs hq
  go_enter Tryz.func155, Tryz.ntmps155
  go_wp2
  go_loopw [8] (fun k wr => ∃ j : Nat, j ≤ n ∧ Hid (∀ i, i < j → p i = false) ∧ k = .int .i64 j ∧ Hid (I j wr)) (fun k _ => (n - intOf k).toNat)
  case atStart => exact ⟨0, by omega, hidb (fun i h => absurd h (Nat.not_lt_zero _)), rfl, HI⟩
  case round =>
    obtain ⟨j, hj, HA, rfl, HJ⟩ := hrel
    by_cases hlt : j < n
    · obtain ⟨b, off, z, rfl, hx, hc⟩ := (HS.out j wr HJ.out).int_ hlt
      have c1 := HQ.out j z wr hx HJ.out
      have hj0 : (0 : Int) ≤ (j : Int) := by omega
      have hj1 : (j : Int) < (n : Int) := by omega
      clear hx
      cases hT : p j with
      | false =>
        rw [hT] at c1
        have HA2 : Hid (∀ i, i < j + 1 → p i = false) := hidb (fun i hi => by
          by_cases h : i = j
          · subst h; exact hT
          · exact HA.out i (by omega))
        clear hT
        go_wp2_with (first | (go_at_call 142; (with_reducible refine c1.mono ?_); rintro e w1 ⟨rfl, hi1⟩))
        go_roundw
        case rel => exact ⟨j + 1, by omega, HA2, by go_num, hidb hi1⟩
        case measure => simp [intOf]; omega
      | true =>
        rw [hT] at c1
        have HF : Hid ((List.range n).any p = true) := hidb (by
          rw [List.any_eq_true]
          exact ⟨j, List.mem_range.2 hlt, hT⟩)
        clear hT
        go_wp2_with (first | (go_at_call 142; (with_reducible refine c1.mono ?_); rintro e w1 ⟨rfl, hi1⟩))
        go_ret
        exact ⟨⟨j, rfl, by omega, by omega, by rw [HF.out]; exact decide_eq_true (by omega)⟩, j + 1, by omega, hi1⟩
    · have HF : Hid ((List.range n).any p = false) := hidb (by
        rw [List.any_eq_false]
        intro i hi
        have := HA.out i (by have := List.mem_range.1 hi; omega)
        simp [this])
      go_wp2
      go_ret
      exact ⟨⟨-1, rfl, by omega, by omega, by rw [HF.out]; rfl⟩, j, hj, HJ.out⟩
theorem code_g2_has {s t : Nat} (p : Nat → Bool) (I : Nat → World → Prop) (A : Option Addr) (n c : Nat) (zs : List Int) (w : World) (hI : I 0 w) (hs : ∀ j W, I j W → Sl W W.heap.size A n (zs.map iv))
    (hq : ∀ j z W, zs[j]? = some z → I j W → Calls Tryz.prog 142 #[.int .i64 z, .pointer (some ⟨s, 0, none⟩), .pointer (some ⟨t, 0, none⟩)] W fun e w' => e = .returned (.bool (p j)) ∧ I (j + 1) w') (hn : n ≤ 131072) :
    Calls Tryz.prog 103 #[.slice A n c, .func (.func 142) #[] #[.pointer (some ⟨s, 0, none⟩), .pointer (some ⟨t, 0, none⟩)]] w fun e w' => e = .returned (.bool ((List.range n).any p)) ∧ ∃ j, j ≤ n ∧ I j w' := by
  have c1 := code_g2_idx p I A n c zs w hI hs hq hn
  clear hI hs hq
  go_enter Tryz.func103, Tryz.ntmps103
  go_wp2_with (go_at_call 155; (with_reducible refine c1.mono ?_); rintro e w1 ⟨⟨r, rfl, h1, h2, h3⟩, hj1⟩)
  go_ret
  exact ⟨rfl, hj1⟩


/-- Give$1: is there no such block? -/
theorem code_pgive1 {w : World} {Sh : Nat → Prop} {p hp ap g mb n m : Nat} {D : DataW Unit} {v : PoolW} (k : PlAt w Sh p hp ap g mb n m D v) (o : PlOk n m v) (t : Nat) (ht : w.cell? ⟨t, 0, none⟩ = some (.pointer (some ⟨p, 0, none⟩))) (x : Int) (hx : in64 x) :
    Calls Tryz.prog 141 #[.int .i64 x, .pointer (some ⟨t, 0, none⟩)] w fun e w' => e = .returned (.bool (cutAtP v.ks x).isNone) ∧ Below w.heap.size w w' := by
  have cc := code_cutat k o x hx
  cases hc : cutAtP v.ks x with
  | none =>
    rw [hc, Option.map_none, show ptrv none = .pointer none from rfl] at cc
    clear hc k o
    go_enter Tryz.func141, Tryz.ntmps141
    go_wp2_with (first
      | (go_at_call 78; (with_reducible refine cc.mono ?_); rintro e w1 ⟨rfl, hb1⟩))
    go_ret
    exact ⟨rfl, hb1⟩
  | some c =>
    rw [hc, Option.map_some, show ptrv (some c.b) = .pointer (some ⟨c.b, 0, none⟩) from rfl] at cc
    clear hc k o
    go_enter Tryz.func141, Tryz.ntmps141
    go_wp2_with (first
      | (go_at_call 78; (with_reducible refine cc.mono ?_); rintro e w1 ⟨rfl, hb1⟩))
    go_ret
    exact ⟨rfl, hb1⟩

/-- Where the second question stands: which addresses were named. -/
structure NamSt (w W : World) (sb tb nb p j : Nat) (xs : List Int) (D : DataW Unit) : Prop where
  nm : W.ownsMap Tryz.prog 3 boolR nb j D
  ni : NIs D (xs.take j)
  gr : w.grownBy W (some nb)
  sc : W.cell? ⟨sb, 0, none⟩ = some (.map (some nb))
  tc : W.cell? ⟨tb, 0, none⟩ = some (.pointer (some ⟨p, 0, none⟩))
  ne : sb ≠ nb ∧ tb ≠ nb
theorem NamSt.below {w W W' : World} {sb tb nb p j : Nat} {xs : List Int} {D : DataW Unit} (h : NamSt w W sb tb nb p j xs D) (hb : Below W.heap.size W W') : NamSt w W' sb tb nb p j xs D :=
  ⟨ownsMap_block h.nm (hb.block _ h.nm.lt), h.ni, grown_trans h.gr (below_to_grown hb _), (hb.cell (p := ⟨sb, 0, none⟩) (lt_of_cell h.sc)).trans h.sc, (hb.cell (p := ⟨tb, 0, none⟩) (lt_of_cell h.tc)).trans h.tc, h.ne⟩
/-- Give$2: is it named twice, or not out? -/
theorem code_pgive2 {w W : World} {Sh : Nat → Prop} {p hp ap g mb n m nb : Nat} {D : DataW Unit} {v : PoolW} (HP : ∀ W, w.grownBy W (some nb) → PlAt W Sh p hp ap g mb n m D v) (o : PlOk n m v) {sb tb j : Nat} {xs : List Int} {D2 : DataW Unit} (hs : NamSt w W sb tb nb p j xs D2) (hj : j ≤ 1000000) (x : Int) (hx : xs[j]? = some x) (hi : in64 x) :
    Calls Tryz.prog 142 #[.int .i64 x, .pointer (some ⟨sb, 0, none⟩), .pointer (some ⟨tb, 0, none⟩)] W fun e w' => e = .returned (.bool ((xs.take j).contains x || decide (orderP v.ks x < 0))) ∧ ∃ D3, NamSt w w' sb tb nb p (j + 1) xs D3 := by
  have hrun := named_at hs.nm hs.ni x hi 213 Tryz.underlying213
  have HN := hidb (hs.ni.put (IsMap_any hs.nm) hi)
  have HS := hidb hs
  have HI := hidb hi
  have HE : Hid (xs.take (j + 1) = xs.take j ++ [x]) := hidb (by rw [List.take_add_one, hx]; rfl)
  have HCO : Hid (∀ W2, w.grownBy W2 (some nb) → Calls Tryz.prog 20 #[.pointer (some ⟨p, 0, none⟩), .int .i64 x] W2 fun e w' => e = .returned (.int .i64 (orderP v.ks x)) ∧ Below W2.heap.size W2 w') := hidb (fun W2 hg => code_porder (HP W2 hg) o x hi)
  have HST : Hid (∀ w3 D3, w3.ownsMap Tryz.prog 3 boolR nb (j + 1) D3 → NIs D3 (xs.take j ++ [x]) → W.grownBy w3 (some nb) → NamSt w w3 sb tb nb p (j + 1) xs D3) := hidb (fun w3 D3 h1 h2 h3 => by
    obtain ⟨n1, n2⟩ := hs.ne
    exact ⟨h1, by rw [HE.out]; exact h2, grown_trans hs.gr h3, (World.cell?_of_block (w := W) (a := ⟨sb, 0, none⟩) (h3.block _ (lt_of_cell hs.sc) (fun e => n1 (by injection e)))).trans hs.sc, (World.cell?_of_block (w := W) (a := ⟨tb, 0, none⟩) (h3.block _ (lt_of_cell hs.tc) (fun e => n2 (by injection e)))).trans hs.tc, hs.ne⟩)
  have sc := hs.sc
  have tc := hs.tc
  obtain ⟨bb, hb⟩ : ∃ bb, (xs.take j).contains x = bb := ⟨_, rfl⟩
  obtain ⟨oo, hoo⟩ : ∃ oo, orderP v.ks x = oo := ⟨_, rfl⟩
  rw [hb] at hrun ⊢
  rw [hoo] at HCO ⊢
  clear hs hb hi hoo HP o hx
  cases bb with
  | true =>
    go_enter Tryz.func142, Tryz.ntmps142
    go_wp2_with (first
      | (at_mapUpdate; refine wpList_mapUpdate_own _ rfl _ _ _ 213 rfl 3 4 keyed Tryz.underlying213 boolR nb j D2 rfl HS.out.nm (by unfold maxLen; omega) _ _ _ rfl rfl (key_of HI.out) _ [] (boolR_mk true) ?_; intro w3 hm3 hg3; have H3 := hidb (HST.out w3 _ hm3 HN.out hg3); have tc3 := H3.out.tc)
      | go_in)
    go_ret
    exact ⟨rfl, _, H3.out⟩
  | false =>
    go_enter Tryz.func142, Tryz.ntmps142
    go_wp2_with (first
      | (at_mapUpdate; refine wpList_mapUpdate_own _ rfl _ _ _ 213 rfl 3 4 keyed Tryz.underlying213 boolR nb j D2 rfl HS.out.nm (by unfold maxLen; omega) _ _ _ rfl rfl (key_of HI.out) _ [] (boolR_mk true) ?_; intro w3 hm3 hg3; have H3 := hidb (HST.out w3 _ hm3 HN.out hg3); have tc3 := H3.out.tc; have co := HCO.out w3 H3.out.gr)
      | (go_at_call 20; (with_reducible refine co.mono ?_); rintro e w4 ⟨rfl, hb4⟩)
      | go_in)
    go_ret
    exact ⟨by simp, _, H3.out.below hb4⟩

end Go.Proofs.YtlcdgmjinhbncaaGreat
/- What Give of the document's own pool comes to, plainly. -/
namespace Go.Proofs.YtlcdgmjinhbncaaGreat
open Go.RowKit Go.Maps
set_option linter.unusedVariables false

def pPut (l : PL) (x : Int) : Option PL := match pOf l x with
  | none => none
  | some i => match l[i]? with
    | none => none
    | some c => if x ∈ c.2 then none else some (l.set i (c.1, x :: c.2))
def pPuts (l : PL) (xs : List Int) : Option PL := xs.foldl (fun o x => o.bind (pPut · x)) (some l)
/-- Give. -/
def pGive (p : PoolV) (xs : List Int) : PoolV × Int := if xs.any (fun x => (pOf p.l x).isNone) then (p, 2) else match pPuts p.l xs with
  | none => (p, 9)
  | some l => if xs = [] then (p, 0) else (pSweep { p with l := l }, 0)

theorem cut_of (ks : List CutV) (x : Int) : (cutAtP ks x = none ∧ pOf (ks.map CutV.plain) x = none) ∨ ∃ c i, cutAtP ks x = some c ∧ pOf (ks.map CutV.plain) x = some i ∧ ks[i]? = some c := by
  induction ks with
  | nil => exact Or.inl ⟨rfl, rfl⟩
  | cons k ks ih =>
    by_cases h : x ∈ pBlocks k.s
    · refine Or.inr ⟨k, 0, ?_, ?_, rfl⟩
      · unfold cutAtP; rw [List.find?_cons_of_pos (by simpa using h)]
      · unfold pOf; rw [List.map_cons, List.findIdx?_cons, if_pos (by show decide (x ∈ pBlocks k.s) = true; simpa using h)]
    · have e1 : cutAtP (k :: ks) x = cutAtP ks x := by unfold cutAtP; rw [List.find?_cons_of_neg (by simpa using h)]
      have e2 : pOf ((k :: ks).map CutV.plain) x = (pOf (ks.map CutV.plain) x).map (· + 1) := by
        unfold pOf; rw [List.map_cons, List.findIdx?_cons, if_neg (by show ¬ decide (x ∈ pBlocks k.s) = true; simpa using h)]
      rw [e1, e2]
      rcases ih with ⟨h1, h2⟩ | ⟨c, i, h1, h2, h3⟩
      · exact Or.inl ⟨h1, by rw [h2]; rfl⟩
      · exact Or.inr ⟨c, i + 1, h1, by rw [h2]; rfl, by simpa using h3⟩
theorem isNone_eq (ks : List CutV) (x : Int) : (pOf (ks.map CutV.plain) x).isNone = (cutAtP ks x).isNone := by
  rcases cut_of ks x with ⟨h1, h2⟩ | ⟨c, i, h1, h2, _⟩ <;> rw [h1, h2] <;> rfl

theorem pOf_same {l l' : PL} (h : l'.map (·.1) = l.map (·.1)) (x : Int) : pOf l' x = pOf l x := by
  have e : ∀ m : PL, pOf m x = (m.map (·.1)).findIdx? fun s => decide (x ∈ pBlocks s) := fun m => by unfold pOf; rw [List.findIdx?_map]; rfl
  rw [e, e, h]
theorem set_fst {l : PL} {i : Nat} {c : (Int × Int × Int × Int) × List Int} (hi : l[i]? = some c) (ys : List Int) : (l.set i (c.1, ys)).map (·.1) = l.map (·.1) := by
  rw [List.map_set]
  apply List.ext_getElem?
  intro j
  rw [List.getElem?_set]
  by_cases h : i = j
  · subst h
    obtain ⟨h1, _⟩ := List.getElem?_eq_some_iff.1 hi
    rw [if_pos rfl, if_pos (by simpa using h1), List.getElem?_map, hi]; rfl
  · rw [if_neg h]
/-- What a put tells. -/
theorem pPut_some {l l' : PL} {x : Int} (h : pPut l x = some l') : l'.map (·.1) = l.map (·.1) ∧ (∀ (i : Nat) c, l[i]? = some c → ∃ c', l'[i]? = some c' ∧ ∀ y ∈ c.2, y ∈ c'.2) ∧ ∃ i c c', pOf l x = some i ∧ l[i]? = some c ∧ x ∉ c.2 ∧ l'[i]? = some c' ∧ x ∈ c'.2 := by
  unfold pPut at h
  cases hO : pOf l x with
  | none => rw [hO] at h; cases h
  | some i =>
    rw [hO] at h
    simp only at h
    cases hc : l[i]? with
    | none => rw [hc] at h; cases h
    | some c =>
      rw [hc] at h
      simp only at h
      split at h
      · cases h
      · next hx =>
        injection h with h
        subst h
        obtain ⟨hi, _⟩ := List.getElem?_eq_some_iff.1 hc
        have hs : (l.set i (c.1, x :: c.2))[i]? = some (c.1, x :: c.2) := by rw [List.getElem?_set_self hi]
        refine ⟨set_fst hc _, fun j d hj => ?_, i, c, _, rfl, hc, hx, hs, List.mem_cons_self ..⟩
        by_cases e : i = j
        · subst e
          rw [hc] at hj
          injection hj with hj
          subst hj
          exact ⟨_, hs, fun y hy => List.mem_cons_of_mem _ hy⟩
        · exact ⟨d, by rw [List.getElem?_set_ne e]; exact hj, fun y hy => hy⟩
theorem pPuts_none : ∀ xs : List Int, xs.foldl (fun (o : Option PL) x => o.bind (pPut · x)) none = none
  | [] => rfl
  | x :: xs => pPuts_none xs
theorem pPuts_append (l : PL) (xs ys : List Int) : pPuts l (xs ++ ys) = (pPuts l xs).bind fun m => pPuts m ys := by
  unfold pPuts
  rw [List.foldl_append]
  cases h : xs.foldl (fun (o : Option PL) x => o.bind (pPut · x)) (some l) with
  | none => exact pPuts_none ys
  | some m => rfl
theorem pPuts_snoc (l : PL) (xs : List Int) (x : Int) : pPuts l (xs ++ [x]) = (pPuts l xs).bind (pPut · x) := by
  rw [pPuts_append]
  rfl
theorem pPuts_some : ∀ (xs : List Int) {l l' : PL}, pPuts l xs = some l' → l'.map (·.1) = l.map (·.1) ∧ (∀ (i : Nat) c, l[i]? = some c → ∃ c', l'[i]? = some c' ∧ ∀ y ∈ c.2, y ∈ c'.2) ∧ ∀ x ∈ xs, ∃ i c', pOf l x = some i ∧ l'[i]? = some c' ∧ x ∈ c'.2
  | [], l, l', h => by
    injection h with h
    subst h
    exact ⟨rfl, fun i c hc => ⟨c, hc, fun y hy => hy⟩, fun x hx => by cases hx⟩
  | x :: xs, l, l', h => by
    have h1 : pPuts l (x :: xs) = (pPut l x).bind fun m => pPuts m xs := pPuts_append l [x] xs
    rw [h1] at h
    cases hp : pPut l x with
    | none => rw [hp] at h; cases h
    | some m =>
      rw [hp] at h
      obtain ⟨a1, a2, i0, c0, c1, b1, b2, b3, b4, b5⟩ := pPut_some hp
      obtain ⟨d1, d2, d3⟩ := pPuts_some xs (show pPuts m xs = some l' from h)
      refine ⟨d1.trans a1, fun i c hc => ?_, fun y hy => ?_⟩
      · obtain ⟨c', e1, e2⟩ := a2 i c hc
        obtain ⟨c'', e3, e4⟩ := d2 i c' e1
        exact ⟨c'', e3, fun y hy => e4 y (e2 y hy)⟩
      · rcases List.mem_cons.1 hy with rfl | hy
        · obtain ⟨c2, e1, e2⟩ := d2 i0 c1 b4
          exact ⟨i0, c2, b1, e1, e2 _ b5⟩
        · obtain ⟨i, c', e1, e2, e3⟩ := d3 y hy
          exact ⟨i, c', by rw [← pOf_same a1]; exact e1, e2, e3⟩
/-- One that is in a list, or named twice, stops it. -/
theorem pPuts_stop {l : PL} {xs : List Int} {j : Nat} {x : Int} (hx : xs[j]? = some x) (h : x ∈ xs.take j ∨ ∃ i c, pOf l x = some i ∧ l[i]? = some c ∧ x ∈ c.2) : pPuts l xs = none := by
  obtain ⟨hj, e⟩ := List.getElem?_eq_some_iff.1 hx
  have hsp : xs = xs.take j ++ (x :: xs.drop (j + 1)) := by
    rw [← e, ← List.drop_eq_getElem_cons hj, List.take_append_drop]
  rw [hsp, pPuts_append]
  cases hp : pPuts l (xs.take j) with
  | none => rfl
  | some m =>
    obtain ⟨d1, d2, d3⟩ := pPuts_some _ hp
    have hin : ∃ i c, pOf m x = some i ∧ m[i]? = some c ∧ x ∈ c.2 := by
      rcases h with h | ⟨i, c, h1, h2, h3⟩
      · obtain ⟨i, c', e1, e2, e3⟩ := d3 x h
        exact ⟨i, c', by rw [pOf_same d1]; exact e1, e2, e3⟩
      · obtain ⟨c', e1, e2⟩ := d2 i c h2
        exact ⟨i, c', by rw [pOf_same d1]; exact h1, e1, e2 x h3⟩
    obtain ⟨i, c, h1, h2, h3⟩ := hin
    show pPuts m (x :: xs.drop (j + 1)) = none
    have h4 : pPuts m (x :: xs.drop (j + 1)) = (pPut m x).bind fun q => pPuts q (xs.drop (j + 1)) := pPuts_append m [x] _
    have h5 : pPut m x = none := by unfold pPut; rw [h1]; simp only; rw [h2]; simp only; rw [if_pos h3]
    rw [h4, h5]; rfl

/-- Is an address named twice, or not out? -/
def gBad (ks : List CutV) (xs : List Int) : Bool := (List.range xs.length).any fun j => (xs.take j).contains (xs.getD j 0) || decide (orderP ks (xs.getD j 0) < 0)
theorem order_neg {n m : Nat} {v : PoolW} (o : PlOk n m v) (x : Int) : decide (orderP v.ks x < 0) = (match cutAtP v.ks x with
    | none => true
    | some c => decide (x ∈ c.l)) := by
  unfold orderP
  cases h : cutAtP v.ks x with
  | none => rfl
  | some c =>
    have := (o.four c (cutAtP_mem h).1).2.1
    by_cases hx : x ∈ c.l
    · simp [hx]
    · simp [hx]; omega
theorem getD_some {xs : List Int} {j : Nat} (h : j < xs.length) : xs[j]? = some (xs.getD j 0) := by
  rw [List.getD_eq_getElem?_getD, List.getElem?_eq_getElem h]; rfl
theorem gBad_yes {n m : Nat} {v : PoolW} (o : PlOk n m v) {xs : List Int} (h1 : ∀ x ∈ xs, (cutAtP v.ks x).isNone = false) (h : gBad v.ks xs = true) : pPuts (v.ks.map CutV.plain) xs = none := by
  unfold gBad at h
  rw [List.any_eq_true] at h
  obtain ⟨j, hj, h2⟩ := h
  have hx := getD_some (List.mem_range.1 hj)
  refine pPuts_stop hx ?_
  generalize xs.getD j 0 = x at hx h2
  rw [Bool.or_eq_true, order_neg o] at h2
  rcases h2 with h2 | h2
  · exact Or.inl (by simpa using h2)
  · have h3 := h1 x (List.mem_of_getElem? hx)
    rcases cut_of v.ks x with ⟨e1, _⟩ | ⟨c, i, e1, e2, e3⟩
    · rw [e1] at h3; cases h3
    · rw [e1] at h2
      refine Or.inr ⟨i, c.plain, e2, by rw [List.getElem?_map, e3]; rfl, (show x ∈ c.l by simpa using h2)⟩

theorem setC_plain' {ks : List CutV} {i : Nat} {k : CutV} {c : Int × Int} {l : List Int} (hi : ks[i]? = some k) : (setC ks i k c l).map CutV.plain = (ks.map CutV.plain).set i (k.s, l) := by
  unfold setC; rw [List.map_set]; rfl
theorem setC_or {ks : List CutV} {i : Nat} {k : CutV} {c : Int × Int} {l : List Int} {x : CutV} (hx : x ∈ setC ks i k c l) : x = { k with c := c, l := l } ∨ x ∈ ks := by
  unfold setC at hx
  rcases List.mem_or_eq_of_mem_set hx with h | h
  · exact Or.inr h
  · exact Or.inl h
/-- Where the puts stand. -/
structure PutSt (v : PoolW) (ks : List CutV) (xs : List Int) (j : Nat) : Prop where
  puts : pPuts (v.ks.map CutV.plain) (xs.take j) = some (ks.map CutV.plain)
  old : ∀ c ∈ ks, ∃ d ∈ v.ks, d.b = c.b ∧ d.s = c.s ∧ ∀ y ∈ c.l, y ∈ d.l ∨ y ∈ xs.take j
  bs : ks.map (·.b) = v.ks.map (·.b)
theorem PutSt.start (v : PoolW) (xs : List Int) : PutSt v v.ks xs 0 := ⟨rfl, fun c hc => ⟨c, hc, rfl, rfl, fun y hy => Or.inl hy⟩, rfl⟩
theorem PutSt.step {n m : Nat} {v : PoolW} (o : PlOk n m v) (k : HOk v.h) {ks : List CutV} {xs : List Int} {j : Nat} (h : PutSt v ks xs j) {x : Int} (hx : xs[j]? = some x) (h1 : (cutAtP v.ks x).isNone = false) (h2 : (xs.take j).contains x = false) (h3 : decide (orderP v.ks x < 0) = false) :
    ∃ c i, cutAtP ks x = some c ∧ ks[i]? = some c ∧ x ∉ c.l ∧ x ∈ pBlocks c.s ∧ ∀ c', PutSt v (setC ks i c c' (x :: c.l)) xs (j + 1) := by
  have e : xs.take (j + 1) = xs.take j ++ [x] := by rw [List.take_add_one, hx]; rfl
  obtain ⟨d0, hd0⟩ : ∃ d, cutAtP v.ks x = some d := by
    cases hh : cutAtP v.ks x with
    | none => rw [hh] at h1; cases h1
    | some d => exact ⟨d, rfl⟩
  obtain ⟨hd1, hd2⟩ := cutAtP_mem hd0
  rw [order_neg o, hd0] at h3
  have hd3 : x ∉ d0.l := by simpa using h3
  rcases cut_of ks x with ⟨e1, _⟩ | ⟨c, i, e1, e2, e3⟩
  · exfalso
    have hbm : d0.b ∈ ks.map (·.b) := by rw [h.bs]; exact List.mem_map.2 ⟨d0, hd1, rfl⟩
    have hsame := (pPuts_some _ h.puts).1
    have := pOf_same hsame x
    rcases cut_of ks x with ⟨_, q⟩ | ⟨c, i, q, _, _⟩
    · rw [q] at this
      rcases cut_of v.ks x with ⟨q1, _⟩ | ⟨c1, i1, q1, q2, _⟩
      · rw [q1] at hd0; cases hd0
      · rw [q2] at this; cases this
    · rw [q] at e1; cases e1
  · obtain ⟨hc1, hc2⟩ := cutAtP_mem e1
    obtain ⟨d, hd, eb, es, hl⟩ := h.old c hc1
    have hdd : d = d0 := o.blocks_apart k hd hd1 (by rw [es]; exact hc2) hd2
    subst hdd
    have hxc : x ∉ c.l := fun hh => by
      rcases hl x hh with h4 | h4
      · exact hd3 h4
      · have : (xs.take j).contains x = true := by simpa using h4
        rw [h2] at this; cases this
    refine ⟨c, i, e1, e3, hxc, hc2, fun c' => ⟨?_, fun q hq => ?_, ?_⟩⟩
    · rw [e, pPuts_snoc, h.puts]
      show pPut (ks.map CutV.plain) x = _
      unfold pPut
      rw [e2]
      simp only
      rw [List.getElem?_map, e3]
      simp only [Option.map_some, CutV.plain]
      rw [if_neg hxc, setC_plain' e3]
    · rcases setC_or hq with rfl | p3
      · refine ⟨d, hd, eb, es, fun y hy => ?_⟩
        rcases List.mem_cons.1 hy with rfl | hy
        · exact Or.inr (by rw [e]; simp)
        · rcases hl y hy with h4 | h4
          · exact Or.inl h4
          · exact Or.inr (by rw [e]; exact List.mem_append_left _ h4)
      · obtain ⟨d2, q1, q2, q3, q4⟩ := h.old q p3
        refine ⟨d2, q1, q2, q3, fun y hy => ?_⟩
        rcases q4 y hy with h4 | h4
        · exact Or.inl h4
        · exact Or.inr (by rw [e]; exact List.mem_append_left _ h4)
    · rw [setC_map (·.b) (fun _ _ _ => rfl) e3]; exact h.bs

end Go.Proofs.YtlcdgmjinhbncaaGreat
