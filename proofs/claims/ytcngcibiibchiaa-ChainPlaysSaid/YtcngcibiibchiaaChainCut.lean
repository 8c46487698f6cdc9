/- Plain facts on chains: what a program leaves that takes one block out by its neighbour's link alone. No program is named here. -/
import Derived.Test.YtcngcibiibchiaaChainGo
namespace Go.Proofs.Ytcngcibiibchiaa
set_option linter.unusedVariables false

/-- The words, where block i of l is taken out; the Head. -/
def kWords (w : List Nat) (l : List Int) (i : Nat) : List Nat :=
  (if i = 0 then w else w.set (l.getD (i - 1) 0).toNat (w.getD (l.getD i 0).toNat 0)).set (l.getD i 0).toNat 0
def kHead (w : List Nat) (h : Int) (l : List Int) (i : Nat) : Int := if i = 0 then (w.getD (l.getD i 0).toNat 0 : Nat) else h
theorem Links.same {w w' : List Nat} : ∀ {l : List Int} {h h' : Int}, Links w h l → Links w' h' l → h = h' ∧ ∀ x ∈ l, w.getD x.toNat 0 = w'.getD x.toNat 0
  | [], h, h', e, e' => ⟨by have e1 : h = 0 := e; have e2 : h' = 0 := e'; omega, fun x hx => by cases hx⟩
  | a :: l, h, h', e, e' => by
    obtain ⟨h1, h2, h3, h4⟩ := e
    obtain ⟨g1, g2, g3, g4⟩ := e'
    obtain ⟨e1, e2⟩ := h4.same g4
    refine ⟨by omega, fun x hx => ?_⟩
    rcases List.mem_cons.1 hx with rfl | hx
    · omega
    · exact e2 x hx
/-- One link is laid anew. -/
theorem Links.relink {w : List Nat} {b : Int} {x : Nat} {r r' : List Int} : ∀ {p : List Int} {h : Int}, Links w h (p ++ b :: r) → b ∉ p → Links w (x : Int) r' → b ∉ r' → Links (w.set b.toNat x) h (p ++ b :: r')
  | [], h, e, _, hr, hb => by
    obtain ⟨h1, h2, h3, h4⟩ := e
    refine ⟨h1, h2, by rw [List.length_set]; exact h3, ?_⟩
    rw [getD_set_eq _ _ _ (by omega)]
    exact hr.set_ h2 hb
  | c :: p, h, e, hn, hr, hb => by
    have hb0 : 0 ≤ b := (Links.mem e b (by simp)).1
    obtain ⟨h1, h2, h3, h4⟩ := e
    have hc : b ≠ c := fun e => hn (by rw [e]; exact List.mem_cons_self ..)
    refine ⟨h1, h2, by rw [List.length_set]; exact h3, ?_⟩
    rw [getD_set_ne _ _ _ _ (by omega)]
    exact Links.relink h4 (fun c => hn (List.mem_cons_of_mem _ c)) hr hb
theorem Links.behind {w : List Nat} {b : Int} {r : List Int} : ∀ {p : List Int} {h : Int}, Links w h (p ++ b :: r) → Links w (w.getD b.toNat 0 : Nat) r
  | [], h, e => e.2.2.2
  | c :: p, h, e => Links.behind (p := p) e.2.2.2
theorem split_at {l : List Int} {i : Nat} (hi : i < l.length) : l = l.take i ++ l.getD i 0 :: l.drop (i + 1) := by
  have : l.getD i 0 = l[i] := by rw [List.getD_eq_getElem?_getD, List.getElem?_eq_getElem hi]; rfl
  rw [this, List.getElem_cons_drop, List.take_append_drop]
theorem filter_one {p q : List Int} {a : Int} (hp : a ∉ p) (hq : a ∉ q) : (p ++ a :: q).filter (fun x => x != a) = p ++ q := by
  rw [List.filter_append, List.filter_cons]
  have h1 : p.filter (fun x => x != a) = p := List.filter_eq_self.2 fun x hx => by simp; exact fun e => hp (e ▸ hx)
  have h2 : q.filter (fun x => x != a) = q := List.filter_eq_self.2 fun x hx => by simp; exact fun e => hq (e ▸ hx)
  rw [h1, h2]
  simp
theorem kWords_length (w : List Nat) (l : List Int) (i : Nat) : (kWords w l i).length = w.length := by
  unfold kWords
  split <;> simp
/-- The neighbour's link alone: the links of all others stand as they are to. -/
theorem cut_links {w : List Nat} {h : Int} {l : List Int} {i : Nat} (k : Links w h l) (hd : l.Nodup) (hi : i < l.length) : Links (kWords w l i) (kHead w h l i) (l.filter (fun x => x != l.getD i 0)) := by
  obtain ⟨p, a, q, hl, hp, ha⟩ : ∃ p a q, l = p ++ a :: q ∧ p.length = i ∧ l.getD i 0 = a := ⟨_, _, _, split_at hi, by rw [List.length_take]; omega, rfl⟩
  have hnd := hl ▸ hd
  have hpa : a ∉ p := fun c => (List.nodup_append.1 hnd).2.2 a c a (List.mem_cons_self ..) rfl
  have hqa : a ∉ q := (List.nodup_cons.1 (List.nodup_append.1 hnd).2.1).1
  have ha0 := (k.mem a (by rw [hl]; simp)).1
  have k1 : Links w h (p ++ a :: q) := hl ▸ k
  unfold kWords kHead
  rw [ha, show l.filter (fun x => x != a) = p ++ q by rw [hl]; exact filter_one hpa hqa]
  by_cases h0 : i = 0
  · obtain rfl : p = [] := List.eq_nil_of_length_eq_zero (by omega)
    rw [if_pos h0, if_pos h0]
    exact Links.set_ ha0 hqa k1.behind
  · rw [if_neg h0, if_neg h0]
    obtain ⟨p2, b, rfl⟩ : ∃ p2 b, p = p2 ++ [b] := by
      have hne : p ≠ [] := fun e => by rw [e] at hp; simp at hp; omega
      exact ⟨p.dropLast, p.getLast hne, (List.dropLast_concat_getLast hne).symm⟩
    have hb : l.getD (i - 1) 0 = b := by
      have : p2.length = i - 1 := by simp at hp; omega
      rw [hl, List.getD_eq_getElem?_getD, List.append_assoc, List.getElem?_append_right (by omega), this]
      simp
    rw [hb]
    have e1 : p2 ++ [b] ++ a :: q = p2 ++ b :: (a :: q) := by simp
    rw [e1] at k1 hnd
    have hbp : b ∉ p2 := fun c => (List.nodup_append.1 hnd).2.2 b c b (List.mem_cons_self ..) rfl
    have hbq : b ∉ a :: q := (List.nodup_cons.1 (List.nodup_append.1 hnd).2.1).1
    have k2 := Links.relink k1 hbp (k1.behind.behind (p := []) (b := a)) (fun c => hbq (List.mem_cons_of_mem _ c))
    rw [show p2 ++ [b] ++ q = p2 ++ b :: q by simp]
    refine Links.set_ ha0 (fun c => ?_) k2
    rcases List.mem_append.1 c with c | c
    · exact hpa (by simp [c])
    · rcases List.mem_cons.1 c with c | c
      · exact hbq (by rw [c]; exact List.mem_cons_self ..)
      · exact hqa c
theorem getD_ext {a b : List Nat} (hl : a.length = b.length) (h : ∀ i, a.getD i 0 = b.getD i 0) : a = b := by
  refine List.ext_getElem hl fun i h1 h2 => ?_
  have := h i
  rw [List.getD_eq_getElem?_getD, List.getD_eq_getElem?_getD, List.getElem?_eq_getElem h1, List.getElem?_eq_getElem h2] at this
  exact this
/-- It is the chain without that block. -/
theorem cut_eq {w : List Nat} {h len : Int} {l : List Int} {i : Nat} (hc : cList w (h, len) = some l) (hi : i < l.length) : cWithout w l (l.getD i 0) = (kWords w l i, (kHead w h l i, len - 1)) := by
  obtain ⟨k, hd, hlen⟩ := cList_iff.1 hc
  have hm : l.getD i 0 ∈ l := by
    rw [List.getD_eq_getElem?_getD, List.getElem?_eq_getElem hi]; exact List.getElem_mem hi
  obtain ⟨r1, r2, r3, r4⟩ := without_list hc hm
  obtain ⟨⟨W, H, L⟩, hW⟩ : ∃ x, cWithout w l (l.getD i 0) = x := ⟨_, rfl⟩
  rw [hW] at r1 r2 r3 r4 ⊢
  obtain ⟨q1, q2, q3⟩ := cList_iff.1 r1
  have k2 := cut_links k hd hi
  obtain ⟨e1, e2⟩ := q1.same k2
  have ha0 := (k.mem _ hm).1
  have hlen2 : ((l.filter (fun x => x != l.getD i 0)).length : Int) = len - 1 := by
    obtain ⟨p, a, q, hl, hp, ha⟩ : ∃ p a q, l = p ++ a :: q ∧ p.length = i ∧ l.getD i 0 = a := ⟨_, _, _, split_at hi, by rw [List.length_take]; omega, rfl⟩
    have hnd := hl ▸ hd
    have hpa : a ∉ p := fun c => (List.nodup_append.1 hnd).2.2 a c a (List.mem_cons_self ..) rfl
    have hqa : a ∉ q := (List.nodup_cons.1 (List.nodup_append.1 hnd).2.1).1
    rw [ha, show l.filter (fun x => x != a) = p ++ q by rw [hl]; exact filter_one hpa hqa]
    rw [hl] at hlen
    simp only [List.length_append, List.length_cons] at hlen ⊢
    omega
  have eW : W = kWords w l i := by
    refine getD_ext (by rw [kWords_length]; exact r4) fun j => ?_
    by_cases ja : (j : Int) = l.getD i 0
    · have hj : (l.getD i 0).toNat = j := by omega
      have hlt := (k.mem _ hm).2
      rw [hj] at r2
      rw [r2]
      unfold kWords
      rw [hj, getD_set_eq]
      split
      · omega
      · rw [List.length_set]; omega
    · by_cases jl : (j : Int) ∈ l
      · have := e2 (j : Int) (List.mem_filter.2 ⟨jl, by simpa using ja⟩)
        simpa using this
      · rw [r3 j jl]
        unfold kWords
        rw [getD_set_ne _ _ _ _ (by omega)]
        split
        · rfl
        · rename_i h0
          rw [getD_set_ne]
          intro e
          refine jl ?_
          have hi2 : i - 1 < l.length := by omega
          have hm2 : l.getD (i - 1) 0 ∈ l := by
            rw [List.getD_eq_getElem?_getD, List.getElem?_eq_getElem hi2]; exact List.getElem_mem hi2
          have h3 := (k.mem _ hm2).1
          have h4 : (j : Int) = l.getD (i - 1) 0 := by omega
          rw [h4]; exact hm2
  rw [eW, e1]
  congr 2
  rw [← hlen2]
  exact q3.symm

end Go.Proofs.Ytcngcibiibchiaa
