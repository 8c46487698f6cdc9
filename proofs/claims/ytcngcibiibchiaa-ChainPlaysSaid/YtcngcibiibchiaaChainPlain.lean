/- Plain facts on chains: which addresses a chain has behind Push and Remove. No program is named here. -/
import Derived.Test.YtcngcibiibchiaaChainMath
namespace Go.Proofs.Ytcngcibiibchiaa
set_option linter.unusedVariables false

/-- The links of these addresses stand in the words, from h on. -/
def Links (w : List Nat) : Int → List Int → Prop
  | h, [] => h = 0
  | h, a :: l => h = a + 1 ∧ 0 ≤ a ∧ a < (w.length : Int) ∧ Links w (w.getD a.toNat 0 : Nat) l
theorem Links.range {w : List Nat} : ∀ {h : Int} {l : List Int}, Links w h l → 0 ≤ h ∧ h ≤ (w.length : Int)
  | h, [], e => by
    have e2 : h = 0 := e
    omega
  | h, a :: l, e => by obtain ⟨h1, h2, h3, _⟩ := e; omega
theorem links_go {w : List Nat} : ∀ {l : List Int} {h : Int} {out : List Int} {k : Nat}, Links w h l → (out ++ l).Nodup → l.length < k → cGo w ((out.length : Int) + l.length) k h out = some (out ++ l)
  | [], h, out, 0, _, _, hk => absurd hk (by simp)
  | [], h, out, k + 1, e, _, _ => by
    obtain rfl : h = 0 := e
    rw [cGo_zero, if_pos (by simp), List.append_nil]
  | a :: l, h, out, 0, _, _, hk => absurd hk (by simp)
  | a :: l, h, out, k + 1, e, hd, hk => by
    obtain ⟨h1, h2, h3, h4⟩ := e
    have h5 := h4.range
    have hlt : a.toNat < w.length := by omega
    have ha : h - 1 = a := by omega
    have hx : w[(h - 1).toNat]? = some (w.getD a.toNat 0) := by
      rw [ha, List.getD_eq_getElem?_getD, List.getElem?_eq_getElem hlt]; rfl
    have hna : a ∉ out := fun c => (List.nodup_append.1 hd).2.2 a c a (List.mem_cons_self ..) rfl
    rw [cGo_next w _ k h out _ (by omega) (by
      rw [ha]; simp only [not_or]
      refine ⟨by omega, by omega, hna, ?_⟩
      simp only [List.length_cons]; omega) hx (by omega), ha]
    have e2 : out ++ a :: l = (out ++ [a]) ++ l := by simp
    have ih := links_go (l := l) (out := out ++ [a]) (k := k) h4 (by rw [← e2]; exact hd) (by simpa using hk)
    rw [e2, ← ih]
    congr 1
    simp only [List.length_append, List.length_cons, List.length_nil]
    omega
theorem go_links {w : List Nat} {len : Int} : ∀ {k : Nat} {h : Int} {out l : List Int}, cGo w len k h out = some l → ∃ m, l = out ++ m ∧ Links w h m
  | 0, h, out, l, e => by cases e
  | k + 1, h, out, l, e => by
    by_cases h0 : h = 0
    · subst h0
      rw [cGo_zero] at e
      split at e
      · obtain rfl := Option.some.inj e
        exact ⟨[], by simp, rfl⟩
      · cases e
    · by_cases h1 : h < 0 ∨ (w.length : Int) < h ∨ (h - 1) ∈ out ∨ len ≤ (out.length : Int)
      · rw [cGo_bad w len k h out h0 h1] at e; cases e
      · have hlt : (h - 1).toNat < w.length := by simp only [not_or] at h1; omega
        have hx : w[(h - 1).toNat]? = some (w.getD (h - 1).toNat 0) := by rw [List.getD_eq_getElem?_getD, List.getElem?_eq_getElem hlt]; rfl
        by_cases h2 : w.length < w.getD (h - 1).toNat 0
        · rw [cGo_far w len k h out _ h0 hx h2] at e; cases e
        · rw [cGo_next w len k h out _ h0 h1 hx h2] at e
          obtain ⟨m, e1, e2⟩ := go_links e
          simp only [not_or] at h1
          exact ⟨(h - 1) :: m, by rw [e1]; simp, by omega, by omega, by omega, e2⟩
/-- A chain is right just if its links stand so. -/
theorem cList_iff {w : List Nat} {h len : Int} {l : List Int} : cList w (h, len) = some l ↔ Links w h l ∧ l.Nodup ∧ (l.length : Int) = len := by
  constructor
  · intro e
    obtain ⟨h1, _, h3⟩ := cList_some e
    obtain ⟨m, e1, e2⟩ := go_links (show cGo w len (len.toNat + 1) h [] = some l from e)
    obtain rfl : l = m := by simpa using e1
    exact ⟨e2, h1, h3⟩
  · rintro ⟨h1, h2, rfl⟩
    have := links_go (out := []) (k := (l.length : Int).toNat + 1) h1 (by simpa using h2) (by simp)
    simpa [cList] using this
theorem getD_set_ne (w : List Nat) (i j x : Nat) (h : i ≠ j) : (w.set i x).getD j 0 = w.getD j 0 := by
  rw [List.getD_eq_getElem?_getD, List.getElem?_set, if_neg h, List.getD_eq_getElem?_getD]
theorem getD_set_eq (w : List Nat) (i x : Nat) (h : i < w.length) : (w.set i x).getD i 0 = x := by
  rw [List.getD_eq_getElem?_getD, List.getElem?_set, if_pos rfl, if_pos h]; rfl
theorem Links.set_ {w : List Nat} {a : Int} {x : Nat} (h0 : 0 ≤ a) : ∀ {h : Int} {l : List Int}, a ∉ l → Links w h l → Links (w.set a.toNat x) h l
  | h, [], _, e => e
  | h, b :: l, hn, e => by
    obtain ⟨h1, h2, h3, h4⟩ := e
    have hb : a ≠ b := fun e => hn (by rw [e]; exact List.mem_cons_self ..)
    refine ⟨h1, h2, by rw [List.length_set]; exact h3, ?_⟩
    rw [getD_set_ne _ _ _ _ (by omega)]
    exact Links.set_ h0 (fun c => hn (List.mem_cons_of_mem _ c)) h4
/-- One block more in front. -/
theorem Links.step {w : List Nat} {h : Int} {l : List Int} {a : Int} (k : Links w h l) (hn : a ∉ l) (h0 : 0 ≤ a) (h1 : a < (w.length : Int)) : Links (w.set a.toNat h.toNat) (a + 1) (a :: l) := by
  refine ⟨rfl, h0, by rw [List.length_set]; exact h1, ?_⟩
  rw [getD_set_eq _ _ _ (by omega)]
  have := k.range
  rw [Int.toNat_of_nonneg this.1]
  exact k.set_ h0 hn
theorem cAll_links : ∀ {m : List Int} {s : List Nat × (Int × Int)} {l : List Int}, Links s.1 s.2.1 l → (m ++ l).Nodup → (∀ x ∈ m, 0 ≤ x ∧ x < (s.1.length : Int)) → Links (cAll s m).1 (cAll s m).2.1 (m.reverse ++ l)
  | [], s, l, k, _, _ => by simpa [cAll] using k
  | a :: m, s, l, k, hd, hr => by
    have ha := hr a (List.mem_cons_self ..)
    obtain ⟨hd1, hd2⟩ := List.nodup_cons.1 (show (a :: (m ++ l)).Nodup from hd)
    have hal : a ∉ l := fun c => hd1 (List.mem_append_right _ c)
    have hperm : (m ++ a :: l).Nodup := (List.perm_middle.nodup_iff).2 hd
    have k2 : Links (cStep s a).1 (cStep s a).2.1 (a :: l) := k.step hal ha.1 ha.2
    have := cAll_links (m := m) (s := cStep s a) (l := a :: l) k2 hperm (fun x hx => by
      rw [cStep_length]; exact hr x (List.mem_cons_of_mem _ hx))
    rw [List.reverse_cons, List.append_assoc]
    exact this
theorem cAll_other : ∀ {m : List Int} {s : List Nat × (Int × Int)} {i : Nat}, (i : Int) ∉ m → (∀ x ∈ m, 0 ≤ x) → (cAll s m).1.getD i 0 = s.1.getD i 0
  | [], s, i, _, _ => rfl
  | a :: m, s, i, hn, hr => by
    have ha := hr a (List.mem_cons_self ..)
    have hne : a.toNat ≠ i := fun e => hn (by rw [← e, Int.toNat_of_nonneg ha]; exact List.mem_cons_self ..)
    have := cAll_other (m := m) (s := cStep s a) (i := i) (fun c => hn (List.mem_cons_of_mem _ c)) (fun x hx => hr x (List.mem_cons_of_mem _ hx))
    show (cAll (cStep s a) m).1.getD i 0 = _
    rw [this]
    exact getD_set_ne _ _ _ _ hne
/-- Behind Push: the new blocks, the last one first, ahead of the others. -/
theorem push_list {w : List Nat} {c : Int × Int} {l m : List Int} (h : cList w c = some l) (hd : (m ++ l).Nodup) (hr : ∀ x ∈ m, 0 ≤ x ∧ x < (w.length : Int)) : cList (cAll (w, c) m).1 (cAll (w, c) m).2 = some (m.reverse ++ l) := by
  obtain ⟨h0, len⟩ := c
  obtain ⟨h1, h2, h3⟩ := cList_iff.1 h
  have k := cAll_links (m := m) (s := (w, (h0, len))) h1 hd hr
  refine cList_iff.2 ⟨k, ?_, ?_⟩
  · exact ((List.reverse_perm m).append_right l).nodup_iff.2 hd
  · rw [cAll_count]; simp only [List.length_append, List.length_reverse]; omega
/-- Behind Remove: the others, in order; the word at the removed one's address is 0. -/
theorem without_list {w : List Nat} {c : Int × Int} {l : List Int} {a : Int} (h : cList w c = some l) (ha : a ∈ l) :
    cList (cWithout w l a).1 (cWithout w l a).2 = some (l.filter (fun x => x != a)) ∧ (cWithout w l a).1.getD a.toNat 0 = 0 ∧ (∀ i : Nat, (i : Int) ∉ l → (cWithout w l a).1.getD i 0 = w.getD i 0) ∧ (cWithout w l a).1.length = w.length := by
  obtain ⟨hd, hr, hlen⟩ := cList_some h
  have har := hr a ha
  have hrev : (l.reverse.filter (fun x => x != a)) = (l.filter (fun x => x != a)).reverse := by rw [List.filter_reverse]
  have hm : ∀ x ∈ (l.filter (fun x => x != a)).reverse, x ∈ l ∧ x ≠ a := fun x hx => by
    have := List.mem_filter.1 (List.mem_reverse.1 hx)
    exact ⟨this.1, by simpa using this.2⟩
  unfold cWithout
  rw [hrev]
  refine ⟨?_, ?_, fun i hi => ?_, ?_⟩
  · have h0 : cList (w.set a.toNat 0) (0, 0) = some [] := cList_iff.2 ⟨rfl, List.nodup_nil, rfl⟩
    have hnd : ((l.filter (fun x => x != a)).reverse ++ []).Nodup := by
      rw [List.append_nil]
      exact (List.reverse_perm _).nodup_iff.2 (hd.filter _)
    have := push_list (m := (l.filter (fun x => x != a)).reverse) h0 hnd (fun x hx => by
      rw [List.length_set]; exact hr x (hm x hx).1)
    rw [List.reverse_reverse, List.append_nil] at this
    exact this
  · rw [cAll_other (fun c => by
      have := (hm _ c).2
      rw [Int.toNat_of_nonneg har.1] at this
      exact this rfl) (fun x hx => (hr x (hm x hx).1).1)]
    exact getD_set_eq _ _ _ (by omega)
  · rw [cAll_other (fun c => hi (hm _ c).1) (fun x hx => (hr x (hm x hx).1).1)]
    exact getD_set_ne _ _ _ _ (fun e => hi (by rw [← e, Int.toNat_of_nonneg har.1]; exact ha))
  · rw [cAll_length, List.length_set]

end Go.Proofs.Ytcngcibiibchiaa
