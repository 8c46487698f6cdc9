/- Plain facts: what Push and Pop leave of the other chains; a pool one of whose chains is another one. -/
import Derived.Test.YtcgfmpegakpddaaGreatPoolTrim
namespace Go.Proofs.YtcgfmpegakpddaaGreat
open Go.RowKit Go.Maps
set_option linter.unusedVariables false

theorem links_keep : ∀ {m : List Int} {s : List Nat × (Int × Int)} {h : Int} {l : List Int}, (∀ x ∈ m, 0 ≤ x ∧ x ∉ l) → Links s.1 h l → Links (cAll s m).1 h l
  | [], s, h, l, _, k => k
  | a :: m, s, h, l, hm, k => by
    have ha := hm a (List.mem_cons_self ..)
    exact links_keep (m := m) (s := cStep s a) (fun x hx => hm x (List.mem_cons_of_mem _ hx)) (k.set_ ha.1 ha.2)
theorem list_keep {ws : List Nat} {c : Int × Int} {l m : List Int} (c0 : Int × Int) (h : cList ws c = some l) (hm : ∀ x ∈ m, 0 ≤ x ∧ x ∉ l) : cList (cAll (ws, c0) m).1 c = some l := by
  obtain ⟨c1, c2⟩ := c
  obtain ⟨h1, h2, h3⟩ := cList_iff.1 h
  exact cList_iff.2 ⟨links_keep (s := (ws, c0)) hm h1, h2, h3⟩
theorem nodup_at {l : List Int} (hd : l.Nodup) {i : Nat} (hi : i < l.length) : l.getD i 0 ∉ l.take i := fun c => by
  obtain ⟨j, hj, e⟩ := List.mem_iff_getElem.1 c
  rw [List.length_take] at hj
  rw [List.getElem_take, List.getD_eq_getElem?_getD, List.getElem?_eq_getElem hi] at e
  exact absurd e ((List.pairwise_iff_getElem.1 hd) j i (by omega) hi (by omega))
/-- A push that is right. -/
theorem push_right {ws : List Nat} {c : Int × Int} {l m : List Int} (h : cList ws c = some l) (hd : (m ++ l).Nodup) (hr : ∀ x ∈ m, 0 ≤ x ∧ x < (ws.length : Int)) (hw : Wide ws) (hn : ws.length ≤ 65536) :
    ∃ ws' c', cPush ws c m = (ws', c', 0) ∧ cList ws' c' = some (m.reverse ++ l) ∧ ws'.length = ws.length ∧ Wide ws' ∧ ∀ c2 l2, cList ws c2 = some l2 → (∀ x ∈ m, x ∉ l2) → cList ws' c2 = some l2 := by
  have h1 : cIn ws.length m = true := by
    unfold cIn
    rw [List.all_eq_true]
    exact fun x hx => decide_eq_true (hr x hx)
  have hdm := (List.nodup_append.1 hd).1
  have h2 : cClash l m = false := cClash_no fun i hi => ⟨fun c2 => (List.nodup_append.1 hd).2.2 (m.getD i 0) (by rw [List.getD_eq_getElem?_getD, List.getElem?_eq_getElem hi]; exact List.getElem_mem _) _ c2 rfl, nodup_at hdm hi⟩
  refine ⟨(cAll (ws, c) m).1, (cAll (ws, c) m).2, ?_, push_list h hd hr, cAll_length .., ?_, fun c2 l2 h3 h4 => list_keep c h3 fun x hx => ⟨(hr x hx).1, h4 x hx⟩⟩
  · unfold cPush
    rw [h]
    simp only
    rw [h1, h2]; rfl
  · obtain ⟨c1, c2⟩ := c
    have h5 := (cList_iff.1 h).1.range
    exact Wide.cAll hw (by show c1.toNat < _; omega) fun x hx => by have := hr x hx; omega
/-- A pop of a chain that has blocks. -/
theorem pop_right {ws : List Nat} {c : Int × Int} {a : Int} {l : List Int} (h : cList ws c = some (a :: l)) (hw : Wide ws) (hn : ws.length ≤ 65536) :
    ∃ ws' c', cPop ws c = (ws', c', a, 0) ∧ cList ws' c' = some l ∧ ws'.length = ws.length ∧ Wide ws' ∧ ∀ c2 l2, cList ws c2 = some l2 → (∀ x ∈ a :: l, x ∉ l2) → cList ws' c2 = some l2 := by
  obtain ⟨hd, hr, hlen⟩ := cList_some h
  have har := hr a (List.mem_cons_self ..)
  obtain ⟨h1, _, _, h4⟩ := without_list h (List.mem_cons_self ..)
  have hf : (a :: l).filter (fun x => x != a) = l := by
    have := (List.nodup_cons.1 hd).1
    rw [List.filter_cons_of_neg (by simp)]
    exact List.filter_eq_self.2 fun x hx => by simpa using fun e : x = a => this (e ▸ hx)
  rw [hf] at h1
  have hm : ∀ x ∈ (a :: l).reverse.filter (fun x => x != a), x ∈ a :: l := fun x hx => List.mem_reverse.1 (List.mem_filter.1 hx).1
  refine ⟨_, _, by unfold cPop; rw [h], h1, h4, ?_, fun c2 l2 h3 h5 => ?_⟩
  · unfold cWithout
    exact Wide.cAll (hw.set _ (by omega)) (by show (0 : Int).toNat < _; decide) fun x hx => by have := hr x (hm x hx); omega
  · unfold cWithout
    have h6 : cList (ws.set a.toNat 0) c2 = some l2 := by
      obtain ⟨p, q⟩ := c2
      obtain ⟨q1, q2, q3⟩ := cList_iff.1 h3
      exact cList_iff.2 ⟨q1.set_ har.1 (h5 a (List.mem_cons_self ..)), q2, q3⟩
    exact list_keep (0, 0) h6 fun x hx => ⟨(hr x (hm x hx)).1, h5 x (hm x hx)⟩

section
variable {n m : Nat} {v : PoolW}
/-- Blocks of two cut spans are different ones. -/
theorem PlOk.blocks_apart (o : PlOk n m v) (k : HOk v.h) {c d : CutV} (hc : c ∈ v.ks) (hd : d ∈ v.ks) {a : Int} (h1 : a ∈ pBlocks c.s) (h2 : a ∈ pBlocks d.s) : c = d := by
  obtain ⟨f1, f2, f3⟩ := o.four c hc
  obtain ⟨g1, g2, g3⟩ := o.four d hd
  have e := k.apart (o.mem c hc) (o.mem d hd) (blocks_page h1 f1 ⟨f2, f3⟩) (blocks_page h2 g1 ⟨g2, g3⟩)
  exact kids_inj o.ids hc hd (by rw [e])
/-- .. and within the arena. -/
theorem PlOk.block_range (o : PlOk n m v) (k : HOk v.h) {c : CutV} (hc : c ∈ v.ks) {a : Int} (h1 : a ∈ pBlocks c.s) : 0 ≤ a ∧ a < (n : Int) := by
  obtain ⟨f1, f2, f3⟩ := o.four c hc
  have h2 := blocks_in h1 f1 ⟨f2, f3⟩
  have h3 := (pMany_16 c.s.2.2.2 f2 f3).2.2.2
  have h4 := k.start (o.mem c hc)
  have h5 := o.len
  rw [f1] at h4
  omega
theorem PlOk.chain (o : PlOk n m v) (hd : (v.ks.map (·.b)).Nodup) {i : Nat} {c : CutV} (hi : v.ks[i]? = some c) {ws' : List Nat} {c' : Int × Int} {l' : List Int} (hw : Wide ws') (hl : cList ws' c' = some l') (hs : ∀ x ∈ l', x ∈ pBlocks c.s)
    (hk : ∀ k ∈ v.ks, k.b ≠ c.b → cList ws' k.c = some k.l) : PlOk n m { v with ws := ws', ks := setC v.ks i c c' l' } := by
  have hcm := List.mem_of_getElem? hi
  refine ⟨o.len, hw, fun x hx => ?_, fun x hx => ?_, fun x hx => ?_, fun x hx => ?_, ?_, o.cnt⟩
  · rcases setC_mem hi hx hd with rfl | ⟨h1, h2⟩
    · exact o.mem c hcm
    · exact o.mem x h1
  · rcases setC_mem hi hx hd with rfl | ⟨h1, h2⟩
    · exact o.four c hcm
    · exact o.four x h1
  · rcases setC_mem hi hx hd with rfl | ⟨h1, h2⟩
    · exact hl
    · exact hk x h1 h2
  · rcases setC_mem hi hx hd with rfl | ⟨h1, h2⟩
    · exact hs
    · exact o.sub x h1
  · show ((setC v.ks i c c' l').map (·.s.1)).Nodup
    rw [setC_map (·.s.1) (fun _ _ _ => rfl) hi]
    exact o.ids
theorem bs_inj (hd : (v.ks.map (·.b)).Nodup) {a b : CutV} (ha : a ∈ v.ks) (hb : b ∈ v.ks) (h : a.b = b.b) : a = b := by
  obtain ⟨i, hi, rfl⟩ := List.mem_iff_getElem.1 ha
  obtain ⟨j, hj, rfl⟩ := List.mem_iff_getElem.1 hb
  have := List.pairwise_iff_getElem.1 hd
  rcases Nat.lt_trichotomy i j with hlt | rfl | hlt
  · exact absurd (by rw [List.getElem_map, List.getElem_map, h]) (this i j (by simpa using hi) (by simpa using hj) hlt)
  · rfl
  · exact absurd (by rw [List.getElem_map, List.getElem_map, h]) (this j i (by simpa using hj) (by simpa using hi) hlt)
end

/-- Chains that have none of these blocks are as they were. -/
def Stays (ws ws' : List Nat) (T : Int → Prop) : Prop := ∀ c l, cList ws c = some l → (∀ x ∈ l, ¬ T x) → cList ws' c = some l
theorem Stays.refl (ws : List Nat) (T : Int → Prop) : Stays ws ws T := fun _ _ h _ => h
theorem Stays.trans {a b c : List Nat} {T T' U : Int → Prop} (h : Stays a b T) (h' : Stays b c T') (i : ∀ x, T x → U x) (i' : ∀ x, T' x → U x) : Stays a c U := fun q l hl hn => h' q l (h q l hl fun x hx ht => hn x hx (i x ht)) fun x hx ht => hn x hx (i' x ht)
theorem Stays.mono {a b : List Nat} {T U : Int → Prop} (h : Stays a b T) (i : ∀ x, T x → U x) : Stays a b U := fun q l hl hn => h q l hl fun x hx ht => hn x hx (i x ht)
/-- A block of a cut span that is in no list. -/
def OutOf (ks : List CutV) (x : Int) : Prop := ∃ k ∈ ks, x ∈ pBlocks k.s ∧ x ∉ k.l
/-- What a call leaves of a pool. -/
def Went (w : World) (Sh : Nat → Prop) (p hp ap g mb n : Nat) (ks : List CutV) (w' : World) (v' : PoolW) : Prop :=
  ∃ Sh' m' D', PlAt w' Sh' p hp ap g mb n m' D' v' ∧ PlOk n m' v' ∧ Kept (PlS Sh p ap g mb ks) w w' ∧ ∀ b, PlS Sh' p ap g mb v'.ks b → PlS Sh p ap g mb ks b ∨ w.heap.size ≤ b
theorem Went.trans {w w' w'' : World} {Sh Sh' : Nat → Prop} {p hp ap g mb n : Nat} {ks : List CutV} {v' v'' : PoolW} (hk : Kept (PlS Sh p ap g mb ks) w w') (hs : ∀ b, PlS Sh' p ap g mb v'.ks b → PlS Sh p ap g mb ks b ∨ w.heap.size ≤ b) (h : Went w' Sh' p hp ap g mb n v'.ks w'' v'') : Went w Sh p hp ap g mb n ks w'' v'' := by
  obtain ⟨S2, m2, D2, q1, q2, q3, q4⟩ := h
  refine ⟨S2, m2, D2, q1, q2, hk.trans q3 (fun b hb h2 => ?_), fun b hb => ?_⟩
  · rcases hs b h2 with h3 | h3
    · exact h3
    · omega
  · rcases q4 b hb with h2 | h2
    · exact hs b h2
    · exact Or.inr (Nat.le_trans hk.size h2)
theorem Trimmed.went {w w' : World} {Sh : Nat → Prop} {p hp ap g mb n m : Nat} {v : PoolW} {e : Ending} (h : Trimmed w Sh p hp ap g mb n m v e w') : Went w Sh p hp ap g mb n v.ks w' (trimV v) := by
  obtain ⟨_, S2, D2, q1, q2, q3, q4⟩ := h
  refine ⟨S2, m, D2, q1, q2, q3, fun b hb => ?_⟩
  have hsub : ∀ c ∈ (trimV v).ks, c ∈ v.ks := fun c hc => by
    unfold trimV at hc
    split at hc
    · exact hc
    · exact (List.mem_filter.1 hc).1
  rcases hb with h | h | h | h | h | ⟨c, hc, e⟩
  · rcases q4 b h with h2 | h2
    · exact Or.inl (Or.inl h2)
    · exact Or.inr h2
  · exact Or.inl (Or.inr (Or.inl h))
  · exact Or.inl (Or.inr (Or.inr (Or.inl h)))
  · exact Or.inl (Or.inr (Or.inr (Or.inr (Or.inl h))))
  · exact Or.inl (Or.inr (Or.inr (Or.inr (Or.inr (Or.inl h)))))
  · exact Or.inl (Or.inr (Or.inr (Or.inr (Or.inr (Or.inr ⟨c, hsub c hc, e⟩)))))

end Go.Proofs.YtcgfmpegakpddaaGreat
