/- What Give of the document's own pool comes to, plainly. -/
import Derived.Test.YtcgfmpegakpddaaGreatPoolSpec
namespace Go.Proofs.YtcgfmpegakpddaaGreat
open Go.RowKit Go.Maps
set_option linter.unusedVariables false

def pPut (l : PL) (x : Int) : Option PL := match pOf l x with
  | none => none
  | some i => match l[i]? with
    | none => none
    | some c => if x ∈ c.2 then none else some (l.set i (c.1, x :: c.2))
def pPuts (l : PL) (xs : List Int) : Option PL := xs.foldl (fun o x => o.bind (pPut · x)) (some l)
/-- Give. -/
def pGive (p : PoolV) (xs : List Int) : PoolV × Int := if xs.any (fun x => (pOf p.l x).isNone) then (p, 2) else match pPuts p.l xs with
  | none => (p, 9)
  | some l => if xs = [] then (p, 0) else (pSweep { p with l := l }, 0)

theorem cut_of (ks : List CutV) (x : Int) : (cutAtP ks x = none ∧ pOf (ks.map CutV.plain) x = none) ∨ ∃ c i, cutAtP ks x = some c ∧ pOf (ks.map CutV.plain) x = some i ∧ ks[i]? = some c := by
  induction ks with
  | nil => exact Or.inl ⟨rfl, rfl⟩
  | cons k ks ih =>
    by_cases h : x ∈ pBlocks k.s
    · refine Or.inr ⟨k, 0, ?_, ?_, rfl⟩
      · unfold cutAtP; rw [List.find?_cons_of_pos (by simpa using h)]
      · unfold pOf; rw [List.map_cons, List.findIdx?_cons, if_pos (by show decide (x ∈ pBlocks k.s) = true; simpa using h)]
    · have e1 : cutAtP (k :: ks) x = cutAtP ks x := by unfold cutAtP; rw [List.find?_cons_of_neg (by simpa using h)]
      have e2 : pOf ((k :: ks).map CutV.plain) x = (pOf (ks.map CutV.plain) x).map (· + 1) := by
        unfold pOf; rw [List.map_cons, List.findIdx?_cons, if_neg (by show ¬ decide (x ∈ pBlocks k.s) = true; simpa using h)]
      rw [e1, e2]
      rcases ih with ⟨h1, h2⟩ | ⟨c, i, h1, h2, h3⟩
      · exact Or.inl ⟨h1, by rw [h2]; rfl⟩
      · exact Or.inr ⟨c, i + 1, h1, by rw [h2]; rfl, by simpa using h3⟩
theorem isNone_eq (ks : List CutV) (x : Int) : (pOf (ks.map CutV.plain) x).isNone = (cutAtP ks x).isNone := by
  rcases cut_of ks x with ⟨h1, h2⟩ | ⟨c, i, h1, h2, _⟩ <;> rw [h1, h2] <;> rfl

theorem pOf_same {l l' : PL} (h : l'.map (·.1) = l.map (·.1)) (x : Int) : pOf l' x = pOf l x := by
  have e : ∀ m : PL, pOf m x = (m.map (·.1)).findIdx? fun s => decide (x ∈ pBlocks s) := fun m => by unfold pOf; rw [List.findIdx?_map]; rfl
  rw [e, e, h]
theorem set_fst {l : PL} {i : Nat} {c : (Int × Int × Int × Int) × List Int} (hi : l[i]? = some c) (ys : List Int) : (l.set i (c.1, ys)).map (·.1) = l.map (·.1) := by
  rw [List.map_set]
  apply List.ext_getElem?
  intro j
  rw [List.getElem?_set]
  by_cases h : i = j
  · subst h
    obtain ⟨h1, _⟩ := List.getElem?_eq_some_iff.1 hi
    rw [if_pos rfl, if_pos (by simpa using h1), List.getElem?_map, hi]; rfl
  · rw [if_neg h]
/-- What a put tells. -/
theorem pPut_some {l l' : PL} {x : Int} (h : pPut l x = some l') : l'.map (·.1) = l.map (·.1) ∧ (∀ (i : Nat) c, l[i]? = some c → ∃ c', l'[i]? = some c' ∧ ∀ y ∈ c.2, y ∈ c'.2) ∧ ∃ i c c', pOf l x = some i ∧ l[i]? = some c ∧ x ∉ c.2 ∧ l'[i]? = some c' ∧ x ∈ c'.2 := by
  unfold pPut at h
  cases hO : pOf l x with
  | none => rw [hO] at h; cases h
  | some i =>
    rw [hO] at h
    simp only at h
    cases hc : l[i]? with
    | none => rw [hc] at h; cases h
    | some c =>
      rw [hc] at h
      simp only at h
      split at h
      · cases h
      · next hx =>
        injection h with h
        subst h
        obtain ⟨hi, _⟩ := List.getElem?_eq_some_iff.1 hc
        have hs : (l.set i (c.1, x :: c.2))[i]? = some (c.1, x :: c.2) := by rw [List.getElem?_set_self hi]
        refine ⟨set_fst hc _, fun j d hj => ?_, i, c, _, rfl, hc, hx, hs, List.mem_cons_self ..⟩
        by_cases e : i = j
        · subst e
          rw [hc] at hj
          injection hj with hj
          subst hj
          exact ⟨_, hs, fun y hy => List.mem_cons_of_mem _ hy⟩
        · exact ⟨d, by rw [List.getElem?_set_ne e]; exact hj, fun y hy => hy⟩
theorem pPuts_none : ∀ xs : List Int, xs.foldl (fun (o : Option PL) x => o.bind (pPut · x)) none = none
  | [] => rfl
  | x :: xs => pPuts_none xs
theorem pPuts_append (l : PL) (xs ys : List Int) : pPuts l (xs ++ ys) = (pPuts l xs).bind fun m => pPuts m ys := by
  unfold pPuts
  rw [List.foldl_append]
  cases h : xs.foldl (fun (o : Option PL) x => o.bind (pPut · x)) (some l) with
  | none => exact pPuts_none ys
  | some m => rfl
theorem pPuts_snoc (l : PL) (xs : List Int) (x : Int) : pPuts l (xs ++ [x]) = (pPuts l xs).bind (pPut · x) := by
  rw [pPuts_append]
  rfl
theorem pPuts_some : ∀ (xs : List Int) {l l' : PL}, pPuts l xs = some l' → l'.map (·.1) = l.map (·.1) ∧ (∀ (i : Nat) c, l[i]? = some c → ∃ c', l'[i]? = some c' ∧ ∀ y ∈ c.2, y ∈ c'.2) ∧ ∀ x ∈ xs, ∃ i c', pOf l x = some i ∧ l'[i]? = some c' ∧ x ∈ c'.2
  | [], l, l', h => by
    injection h with h
    subst h
    exact ⟨rfl, fun i c hc => ⟨c, hc, fun y hy => hy⟩, fun x hx => by cases hx⟩
  | x :: xs, l, l', h => by
    have h1 : pPuts l (x :: xs) = (pPut l x).bind fun m => pPuts m xs := pPuts_append l [x] xs
    rw [h1] at h
    cases hp : pPut l x with
    | none => rw [hp] at h; cases h
    | some m =>
      rw [hp] at h
      obtain ⟨a1, a2, i0, c0, c1, b1, b2, b3, b4, b5⟩ := pPut_some hp
      obtain ⟨d1, d2, d3⟩ := pPuts_some xs (show pPuts m xs = some l' from h)
      refine ⟨d1.trans a1, fun i c hc => ?_, fun y hy => ?_⟩
      · obtain ⟨c', e1, e2⟩ := a2 i c hc
        obtain ⟨c'', e3, e4⟩ := d2 i c' e1
        exact ⟨c'', e3, fun y hy => e4 y (e2 y hy)⟩
      · rcases List.mem_cons.1 hy with rfl | hy
        · obtain ⟨c2, e1, e2⟩ := d2 i0 c1 b4
          exact ⟨i0, c2, b1, e1, e2 _ b5⟩
        · obtain ⟨i, c', e1, e2, e3⟩ := d3 y hy
          exact ⟨i, c', by rw [← pOf_same a1]; exact e1, e2, e3⟩
/-- One that is in a list, or named twice, stops it. -/
theorem pPuts_stop {l : PL} {xs : List Int} {j : Nat} {x : Int} (hx : xs[j]? = some x) (h : x ∈ xs.take j ∨ ∃ i c, pOf l x = some i ∧ l[i]? = some c ∧ x ∈ c.2) : pPuts l xs = none := by
  obtain ⟨hj, e⟩ := List.getElem?_eq_some_iff.1 hx
  have hsp : xs = xs.take j ++ (x :: xs.drop (j + 1)) := by
    rw [← e, ← List.drop_eq_getElem_cons hj, List.take_append_drop]
  rw [hsp, pPuts_append]
  cases hp : pPuts l (xs.take j) with
  | none => rfl
  | some m =>
    obtain ⟨d1, d2, d3⟩ := pPuts_some _ hp
    have hin : ∃ i c, pOf m x = some i ∧ m[i]? = some c ∧ x ∈ c.2 := by
      rcases h with h | ⟨i, c, h1, h2, h3⟩
      · obtain ⟨i, c', e1, e2, e3⟩ := d3 x h
        exact ⟨i, c', by rw [pOf_same d1]; exact e1, e2, e3⟩
      · obtain ⟨c', e1, e2⟩ := d2 i c h2
        exact ⟨i, c', by rw [pOf_same d1]; exact h1, e1, e2 x h3⟩
    obtain ⟨i, c, h1, h2, h3⟩ := hin
    show pPuts m (x :: xs.drop (j + 1)) = none
    have h4 : pPuts m (x :: xs.drop (j + 1)) = (pPut m x).bind fun q => pPuts q (xs.drop (j + 1)) := pPuts_append m [x] _
    have h5 : pPut m x = none := by unfold pPut; rw [h1]; simp only; rw [h2]; simp only; rw [if_pos h3]
    rw [h4, h5]; rfl

/-- Is an address named twice, or not out? -/
def gBad (ks : List CutV) (xs : List Int) : Bool := (List.range xs.length).any fun j => (xs.take j).contains (xs.getD j 0) || decide (orderP ks (xs.getD j 0) < 0)
theorem order_neg {n m : Nat} {v : PoolW} (o : PlOk n m v) (x : Int) : decide (orderP v.ks x < 0) = (match cutAtP v.ks x with
    | none => true
    | some c => decide (x ∈ c.l)) := by
  unfold orderP
  cases h : cutAtP v.ks x with
  | none => rfl
  | some c =>
    have := (o.four c (cutAtP_mem h).1).2.1
    by_cases hx : x ∈ c.l
    · simp [hx]
    · simp [hx]; omega
theorem getD_some {xs : List Int} {j : Nat} (h : j < xs.length) : xs[j]? = some (xs.getD j 0) := by
  rw [List.getD_eq_getElem?_getD, List.getElem?_eq_getElem h]; rfl
theorem gBad_yes {n m : Nat} {v : PoolW} (o : PlOk n m v) {xs : List Int} (h1 : ∀ x ∈ xs, (cutAtP v.ks x).isNone = false) (h : gBad v.ks xs = true) : pPuts (v.ks.map CutV.plain) xs = none := by
  unfold gBad at h
  rw [List.any_eq_true] at h
  obtain ⟨j, hj, h2⟩ := h
  have hx := getD_some (List.mem_range.1 hj)
  refine pPuts_stop hx ?_
  generalize xs.getD j 0 = x at hx h2
  rw [Bool.or_eq_true, order_neg o] at h2
  rcases h2 with h2 | h2
  · exact Or.inl (by simpa using h2)
  · have h3 := h1 x (List.mem_of_getElem? hx)
    rcases cut_of v.ks x with ⟨e1, _⟩ | ⟨c, i, e1, e2, e3⟩
    · rw [e1] at h3; cases h3
    · rw [e1] at h2
      refine Or.inr ⟨i, c.plain, e2, by rw [List.getElem?_map, e3]; rfl, (show x ∈ c.l by simpa using h2)⟩

theorem setC_plain' {ks : List CutV} {i : Nat} {k : CutV} {c : Int × Int} {l : List Int} (hi : ks[i]? = some k) : (setC ks i k c l).map CutV.plain = (ks.map CutV.plain).set i (k.s, l) := by
  unfold setC; rw [List.map_set]; rfl
theorem setC_or {ks : List CutV} {i : Nat} {k : CutV} {c : Int × Int} {l : List Int} {x : CutV} (hx : x ∈ setC ks i k c l) : x = { k with c := c, l := l } ∨ x ∈ ks := by
  unfold setC at hx
  rcases List.mem_or_eq_of_mem_set hx with h | h
  · exact Or.inr h
  · exact Or.inl h
/-- Where the puts stand. -/
structure PutSt (v : PoolW) (ks : List CutV) (xs : List Int) (j : Nat) : Prop where
  puts : pPuts (v.ks.map CutV.plain) (xs.take j) = some (ks.map CutV.plain)
  old : ∀ c ∈ ks, ∃ d ∈ v.ks, d.b = c.b ∧ d.s = c.s ∧ ∀ y ∈ c.l, y ∈ d.l ∨ y ∈ xs.take j
  bs : ks.map (·.b) = v.ks.map (·.b)
theorem PutSt.start (v : PoolW) (xs : List Int) : PutSt v v.ks xs 0 := ⟨rfl, fun c hc => ⟨c, hc, rfl, rfl, fun y hy => Or.inl hy⟩, rfl⟩
theorem PutSt.step {n m : Nat} {v : PoolW} (o : PlOk n m v) (k : HOk v.h) {ks : List CutV} {xs : List Int} {j : Nat} (h : PutSt v ks xs j) {x : Int} (hx : xs[j]? = some x) (h1 : (cutAtP v.ks x).isNone = false) (h2 : (xs.take j).contains x = false) (h3 : decide (orderP v.ks x < 0) = false) :
    ∃ c i, cutAtP ks x = some c ∧ ks[i]? = some c ∧ x ∉ c.l ∧ x ∈ pBlocks c.s ∧ ∀ c', PutSt v (setC ks i c c' (x :: c.l)) xs (j + 1) := by
  have e : xs.take (j + 1) = xs.take j ++ [x] := by rw [List.take_add_one, hx]; rfl
  obtain ⟨d0, hd0⟩ : ∃ d, cutAtP v.ks x = some d := by
    cases hh : cutAtP v.ks x with
    | none => rw [hh] at h1; cases h1
    | some d => exact ⟨d, rfl⟩
  obtain ⟨hd1, hd2⟩ := cutAtP_mem hd0
  rw [order_neg o, hd0] at h3
  have hd3 : x ∉ d0.l := by simpa using h3
  rcases cut_of ks x with ⟨e1, _⟩ | ⟨c, i, e1, e2, e3⟩
  · exfalso
    have hbm : d0.b ∈ ks.map (·.b) := by rw [h.bs]; exact List.mem_map.2 ⟨d0, hd1, rfl⟩
    have hsame := (pPuts_some _ h.puts).1
    have := pOf_same hsame x
    rcases cut_of ks x with ⟨_, q⟩ | ⟨c, i, q, _, _⟩
    · rw [q] at this
      rcases cut_of v.ks x with ⟨q1, _⟩ | ⟨c1, i1, q1, q2, _⟩
      · rw [q1] at hd0; cases hd0
      · rw [q2] at this; cases this
    · rw [q] at e1; cases e1
  · obtain ⟨hc1, hc2⟩ := cutAtP_mem e1
    obtain ⟨d, hd, eb, es, hl⟩ := h.old c hc1
    have hdd : d = d0 := o.blocks_apart k hd hd1 (by rw [es]; exact hc2) hd2
    subst hdd
    have hxc : x ∉ c.l := fun hh => by
      rcases hl x hh with h4 | h4
      · exact hd3 h4
      · have : (xs.take j).contains x = true := by simpa using h4
        rw [h2] at this; cases this
    refine ⟨c, i, e1, e3, hxc, hc2, fun c' => ⟨?_, fun q hq => ?_, ?_⟩⟩
    · rw [e, pPuts_snoc, h.puts]
      show pPut (ks.map CutV.plain) x = _
      unfold pPut
      rw [e2]
      simp only
      rw [List.getElem?_map, e3]
      simp only [Option.map_some, CutV.plain]
      rw [if_neg hxc, setC_plain' e3]
    · rcases setC_or hq with rfl | p3
      · refine ⟨d, hd, eb, es, fun y hy => ?_⟩
        rcases List.mem_cons.1 hy with rfl | hy
        · exact Or.inr (by rw [e]; simp)
        · rcases hl y hy with h4 | h4
          · exact Or.inl h4
          · exact Or.inr (by rw [e]; exact List.mem_append_left _ h4)
      · obtain ⟨d2, q1, q2, q3, q4⟩ := h.old q p3
        refine ⟨d2, q1, q2, q3, fun y hy => ?_⟩
        rcases q4 y hy with h4 | h4
        · exact Or.inl h4
        · exact Or.inr (by rw [e]; exact List.mem_append_left _ h4)
    · rw [setC_map (·.b) (fun _ _ _ => rfl) e3]; exact h.bs

end Go.Proofs.YtcgfmpegakpddaaGreat
