/- What Take and Give of the document's own pool come to, plainly; which span is the first one. -/
import Derived.Test.YtcgfmpegakpddaaGreatPoolWords
namespace Go.Proofs.YtcgfmpegakpddaaGreat
open Go.RowKit Go.Maps
set_option linter.unusedVariables false

abbrev PL := List ((Int × Int × Int × Int) × List Int)
def fsP (l : PL) (order from' : Int) (s : Bool) (j : Nat) : Option Nat := (List.range j).foldl (pStep order from' s l) none
theorem fsP_succ (l : PL) (order from' : Int) (s : Bool) (j : Nat) : fsP l order from' s (j + 1) = pStep order from' s l (fsP l order from' s j) j := by
  unfold fsP; rw [List.range_succ, List.foldl_append]; rfl
/-- The best of the first j places. -/
theorem fsP_spec (l : PL) (order from' : Int) (s : Bool) : ∀ j, j ≤ l.length → (fsP l order from' s j = none ∧ ∀ i c, i < j → l[i]? = some c → pFits order from' s c = false) ∨ ∃ b c, fsP l order from' s j = some b ∧ b < j ∧ l[b]? = some c ∧ pFits order from' s c = true ∧ ∀ i d, i < j → l[i]? = some d → pFits order from' s d = true → c.1.2.1 ≤ d.1.2.1
  | 0, _ => Or.inl ⟨rfl, fun i c h => absurd h (Nat.not_lt_zero _)⟩
  | j + 1, hj => by
    have ih := fsP_spec l order from' s j (by omega)
    have hx : l[j]? = some l[j] := List.getElem?_eq_getElem (by omega)
    rw [fsP_succ]
    unfold pStep
    rw [hx]
    simp only
    by_cases hf : pFits order from' s l[j] = true
    · rw [if_pos hf]
      rcases ih with ⟨e, h⟩ | ⟨b, c, e, hb, hc, hfc, hm⟩
      · rw [e]
        refine Or.inr ⟨j, l[j], rfl, by omega, hx, hf, fun i d hi hd hfd => ?_⟩
        by_cases hij : i = j
        · subst hij; rw [hx] at hd; injection hd with hd; rw [hd]; exact Int.le_refl _
        · have := h i d (by omega) hd; rw [hfd] at this; cases this
      · rw [e]
        simp only
        rw [hc]
        simp only
        by_cases hlt : l[j].1.2.1 < c.1.2.1
        · rw [if_pos hlt]
          refine Or.inr ⟨j, l[j], rfl, by omega, hx, hf, fun i d hi hd hfd => ?_⟩
          by_cases hij : i = j
          · subst hij; rw [hx] at hd; injection hd with hd; rw [hd]; exact Int.le_refl _
          · have := hm i d (by omega) hd hfd; omega
        · rw [if_neg hlt]
          refine Or.inr ⟨b, c, rfl, by omega, hc, hfc, fun i d hi hd hfd => ?_⟩
          by_cases hij : i = j
          · subst hij; rw [hx] at hd; injection hd with hd; rw [← hd]; omega
          · exact hm i d (by omega) hd hfd
    · rw [if_neg hf]
      have hf2 : pFits order from' s l[j] = false := by simpa using hf
      rcases ih with ⟨e, h⟩ | ⟨b, c, e, hb, hc, hfc, hm⟩
      · refine Or.inl ⟨e, fun i c hi hc => ?_⟩
        by_cases hij : i = j
        · subst hij; rw [hx] at hc; injection hc with hc; rw [← hc]; exact hf2
        · exact h i c (by omega) hc
      · refine Or.inr ⟨b, c, e, by omega, hc, hfc, fun i d hi hd hfd => ?_⟩
        by_cases hij : i = j
        · subst hij; rw [hx] at hd; injection hd with hd; rw [← hd, hf2] at hfd; cases hfd
        · exact hm i d (by omega) hd hfd
theorem pFirst_spec (l : PL) (order from' : Int) (s : Bool) : (pFirst l order from' s = none ∧ ∀ c ∈ l, pFits order from' s c = false) ∨ ∃ b c, pFirst l order from' s = some b ∧ l[b]? = some c ∧ pFits order from' s c = true ∧ ∀ d ∈ l, pFits order from' s d = true → c.1.2.1 ≤ d.1.2.1 := by
  rcases fsP_spec l order from' s l.length (Nat.le_refl _) with ⟨e, h⟩ | ⟨b, c, e, hb, hc, hf, hm⟩
  · refine Or.inl ⟨e, fun c hc => ?_⟩
    obtain ⟨i, hi, rfl⟩ := List.mem_iff_getElem.1 hc
    exact h i _ hi (List.getElem?_eq_getElem hi)
  · refine Or.inr ⟨b, c, e, hc, hf, fun d hd hfd => ?_⟩
    obtain ⟨i, hi, rfl⟩ := List.mem_iff_getElem.1 hd
    exact hm i _ hi (List.getElem?_eq_getElem hi) hfd
theorem starts_inj {n m : Nat} {v : PoolW} (o : PlOk n m v) (k : HOk v.h) {a b : CutV} (ha : a ∈ v.ks) (hb : b ∈ v.ks) (h : a.s.2.1 = b.s.2.1) : a = b := by
  refine kids_inj o.ids ha hb ?_
  have h1 := k.start (o.mem a ha)
  have h2 := k.start (o.mem b hb)
  rw [k.apart (o.mem a ha) (o.mem b hb) (p := a.s.2.1) ⟨Int.le_refl _, by omega⟩ (by omega)]
/-- The first one of those in order is the one with the least start. -/
theorem rising_first {n m : Nat} {v : PoolW} (o : PlOk n m v) (k : HOk v.h) {ds : List CutV} (hd : InOrderP v.ks ds) (f : CutV → Bool) (order : Int) (s : Bool) (hf : ∀ c ∈ v.ks, f c = pFits order 0 s c.plain) :
    (ds.filter f = [] ∧ pFirst (v.ks.map CutV.plain) order 0 s = none) ∨ ∃ c r i, ds.filter f = c :: r ∧ v.ks[i]? = some c ∧ f c = true ∧ pFirst (v.ks.map CutV.plain) order 0 s = some i := by
  cases e : ds.filter f with
  | nil =>
    refine Or.inl ⟨rfl, ?_⟩
    rcases pFirst_spec (v.ks.map CutV.plain) order 0 s with ⟨h, _⟩ | ⟨b, c, h, hc, hfc, _⟩
    · exact h
    · rw [List.getElem?_map] at hc
      obtain ⟨q, hq, rfl⟩ := Option.map_eq_some_iff.1 hc
      have hm := List.mem_of_getElem? hq
      have := List.filter_eq_nil_iff.1 e q ((hd.2.1 q).2 hm)
      rw [hf q hm, hfc] at this
      exact absurd rfl this
  | cons c r =>
    have hc : c ∈ ds.filter f := by rw [e]; exact List.mem_cons_self ..
    obtain ⟨h1, h2⟩ := List.mem_filter.1 hc
    have hck := (hd.2.1 c).1 h1
    have hmin : ∀ d ∈ v.ks, f d = true → c.s.2.1 ≤ d.s.2.1 := fun d hdm hfd => by
      have h3 : d ∈ c :: r := by rw [← e]; exact List.mem_filter.2 ⟨(hd.2.1 d).2 hdm, hfd⟩
      have h4 : (c :: r).Pairwise (fun a b : CutV => a.s.2.1 ≤ b.s.2.1) := by rw [← e]; exact hd.2.2.filter _
      rcases List.mem_cons.1 h3 with rfl | h3
      · exact Int.le_refl _
      · exact (List.pairwise_cons.1 h4).1 d h3
    rcases pFirst_spec (v.ks.map CutV.plain) order 0 s with ⟨_, h⟩ | ⟨b, d, h, hdb, hfd, hm⟩
    · have := h c.plain (List.mem_map.2 ⟨c, hck, rfl⟩)
      rw [← hf c hck, h2] at this; cases this
    · rw [List.getElem?_map] at hdb
      obtain ⟨q, hq, rfl⟩ := Option.map_eq_some_iff.1 hdb
      have hqm := List.mem_of_getElem? hq
      have h5 : q = c := starts_inj o k hqm hck (by
        have h6 := hmin q hqm (by rw [hf q hqm]; exact hfd)
        have h7 := hm c.plain (List.mem_map.2 ⟨c, hck, rfl⟩) (by rw [← hf c hck]; exact h2)
        have h8 : q.s.2.1 ≤ c.s.2.1 := h7
        omega)
      subst h5
      exact Or.inr ⟨q, r, b, rfl, hq, h2, h⟩

/-- Take. -/
def pTake (p : PoolV) (order : Int) : PoolV × Int × Int :=
  if order < 0 ∨ 3 < order then (p, 0, 1) else
  match pFirst p.l order 0 true with
  | some i => (match p.l[i]? with
    | some c => ({ p with l := p.l.set i (c.1, c.2.tail) }, c.2.headD 0, 0)
    | none => (p, 0, 0))
  | none => if (hMake p.heap 4 order).2.2 = 0 then (⟨(hMake p.heap 4 order).1, p.l ++ [((hMake p.heap 4 order).2.1, (pBlocks (hMake p.heap 4 order).2.1).tail)], p.held⟩, (pBlocks (hMake p.heap 4 order).2.1).headD 0, 0) else (p, 0, (hMake p.heap 4 order).2.2)

end Go.Proofs.YtcgfmpegakpddaaGreat
