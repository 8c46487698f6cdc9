/- Plain facts on layer 9's statements: what is given back last is taken next; while it is held no span goes. -/
import Derived.Test.YthdjgmankcegpaaGreatPoolLaws0
namespace Go.Proofs.YthdjgmankcegpaaGreat
open Go.RowKit
set_option linter.unusedVariables false

/-- A pool's plain state is a right one. -/
structure POk (p : PoolV) : Prop where
  hok : HOk p.heap
  mem : ∀ c ∈ p.l, c.1 ∈ p.heap.l
  four : ∀ c ∈ p.l, c.1.2.2.1 = 4 ∧ 0 ≤ c.1.2.2.2 ∧ c.1.2.2.2 ≤ 3
  sub : ∀ c ∈ p.l, ∀ x ∈ c.2, x ∈ pBlocks c.1
  nod : ∀ c ∈ p.l, c.2.Nodup
  ids : (p.l.map (·.1.1)).Nodup
theorem PoolSt.pok {w W : World} {p hp : Nat} {S : Nat → Prop} {v : PoolW} {k : Nat} {pages : Int} (s : PoolSt w W p hp S v k pages) : POk v.plain := by
  obtain ⟨Sh, ap, g, mb, n, m, D, q1, q2, q3⟩ := s.pl
  have hn : v.ws.length ≤ 65536 := by rw [q1.ar.hlen]; exact q1.ar.small
  have hm : ∀ c ∈ v.plain.l, ∃ k ∈ v.ks, k.plain = c := fun c hc => List.mem_map.1 hc
  refine ⟨q1.hp_.ok, fun c hc => ?_, fun c hc => ?_, fun c hc => ?_, fun c hc => ?_, ?_⟩
  · obtain ⟨k, hk, rfl⟩ := hm c hc; exact q2.mem k hk
  · obtain ⟨k, hk, rfl⟩ := hm c hc; exact q2.four k hk
  · obtain ⟨k, hk, rfl⟩ := hm c hc; exact q2.sub k hk
  · obtain ⟨k, hk, rfl⟩ := hm c hc; exact (cList_len (q2.lst k hk) hn).2.2.2.2.1
  · show ((v.ks.map CutV.plain).map (·.1.1)).Nodup
    rw [List.map_map]
    exact q2.ids
theorem plain_inj {l : PL} (hd : (l.map (·.1.1)).Nodup) {i j : Nat} {c d : (Int × Int × Int × Int) × List Int} (hi : l[i]? = some c) (hj : l[j]? = some d) (h : c.1.1 = d.1.1) : i = j := by
  obtain ⟨hi2, e1⟩ := List.getElem?_eq_some_iff.1 hi
  obtain ⟨hj2, e2⟩ := List.getElem?_eq_some_iff.1 hj
  have := List.pairwise_iff_getElem.1 hd
  rcases Nat.lt_trichotomy i j with hlt | e | hlt
  · exact absurd (by rw [List.getElem_map, List.getElem_map, e1, e2, h]) (this i j (by simpa using hi2) (by simpa using hj2) hlt)
  · exact e
  · exact absurd (by rw [List.getElem_map, List.getElem_map, e1, e2, h]) (this j i (by simpa using hj2) (by simpa using hi2) hlt)
theorem pOf_spec {l : PL} {x : Int} {i : Nat} (h : pOf l x = some i) : ∃ c, l[i]? = some c ∧ x ∈ pBlocks c.1 := by
  obtain ⟨hi, h1, _⟩ := List.findIdx?_eq_some_iff_getElem.1 h
  exact ⟨l[i], List.getElem?_eq_getElem hi, by simpa using h1⟩
theorem POk.of_at {p : PoolV} (o : POk p) {i : Nat} {c : (Int × Int × Int × Int) × List Int} (hi : p.l[i]? = some c) {x : Int} (hx : x ∈ pBlocks c.1) : pOf p.l x = some i := by
  have hcm := List.mem_of_getElem? hi
  cases h : pOf p.l x with
  | none =>
    have := List.findIdx?_eq_none_iff.1 h c hcm
    simp [hx] at this
  | some j =>
    obtain ⟨d, hd, hxd⟩ := pOf_spec h
    have hdm := List.mem_of_getElem? hd
    obtain ⟨f1, f2, f3⟩ := o.four c hcm
    obtain ⟨g1, g2, g3⟩ := o.four d hdm
    have e := o.hok.apart (o.mem c hcm) (o.mem d hdm) (blocks_page hx f1 ⟨f2, f3⟩) (blocks_page hxd g1 ⟨g2, g3⟩)
    rw [plain_inj o.ids hi hd (by rw [e])]
theorem pBlocks_nodup (s : Int × Int × Int × Int) : (pBlocks s).Nodup := by
  unfold pBlocks
  refine List.pairwise_map.2 (List.Pairwise.imp (fun {a b} (h : a < b) e4 => ?_) List.pairwise_lt_range)
  have h1 : a * pSize s.2.2.2 < b * pSize s.2.2.2 := Nat.mul_lt_mul_of_pos_right h (pSize_pos _)
  omega
theorem set_back {l : PL} {i : Nat} {c d : (Int × Int × Int × Int) × List Int} (h : l[i]? = some c) : (l.set i d).set i c = l := by
  rw [List.set_set]
  apply List.ext_getElem?
  intro j
  rw [List.getElem?_set]
  by_cases e : i = j
  · subst e
    obtain ⟨hi, _⟩ := List.getElem?_eq_some_iff.1 h
    rw [if_pos rfl, if_pos hi, h]
  · rw [if_neg e]
theorem give_one {p : PoolV} (hh : p.held = true) {x : Int} {i : Nat} {s : Int × Int × Int × Int} {r : List Int} (h1 : pOf p.l x = some i) (h2 : p.l[i]? = some (s, r)) (h3 : x ∉ r) : gGive p [x] = (⟨p.heap, p.l.set i (s, x :: r), true⟩, 0) := by
  have hp : pPuts p.l [x] = some (p.l.set i (s, x :: r)) := by
    show pPut p.l x = _
    unfold pPut
    rw [h1]
    simp only
    rw [h2]
    simp only
    rw [if_neg h3]
  rw [gGive_yes (by simp [h1]) hp]
  unfold pSweep
  simp [hh]
/-- The block that was given back last is taken next. -/
theorem last_again {p p1 : PoolV} {order at' : Int} (o : POk p) (o1 : POk p1) (hh : p.held = true) (h : pTake p order = (p1, at', 0)) :
    ∃ p2 i s r, gGive p1 [at'] = (p2, 0) ∧ pTake p2 order = (p1, at', 0) ∧ pOf p1.l at' = some i ∧ p1.l[i]? = some (s, r) ∧ at' ∉ r ∧ s.2.2.2 = order ∧ p1.held = true := by
  unfold pTake at h
  split at h
  · injection h with _ h; injection h with _ h; cases h
  next ho =>
  have ho' : 0 ≤ order ∧ order ≤ 3 := by omega
  cases hf : pFirst p.l order 0 true with
  | some i =>
    rw [hf] at h
    simp only at h
    rcases pFirst_spec p.l order 0 true with ⟨e, _⟩ | ⟨b, c, e, hc, hfc, _⟩
    · rw [hf] at e; cases e
    · rw [hf] at e
      obtain rfl := Option.some.inj e
      rw [hc] at h
      simp only at h
      injection h with h1 h2
      injection h2 with h2 _
      obtain ⟨s, l⟩ := c
      cases l with
      | nil => unfold pFits at hfc; simp at hfc
      | cons a r =>
        simp only [List.headD_cons, List.tail_cons] at h1 h2
        subst h2 h1
        have hcm := List.mem_of_getElem? hc
        have hab : a ∈ pBlocks s := o.sub _ hcm a (List.mem_cons_self ..)
        have hnr : a ∉ r := (List.nodup_cons.1 (o.nod _ hcm)).1
        obtain ⟨hi, _⟩ := List.getElem?_eq_some_iff.1 hc
        have hg : (p.l.set i (s, r))[i]? = some (s, r) := List.getElem?_set_self hi
        have hof : pOf (p.l.set i (s, r)) a = some i := by
          rw [pOf_same (set_fst hc r) a]
          exact o.of_at hc hab
        have hso : s.2.2.2 = order := by
          unfold pFits at hfc
          simp only [Bool.and_eq_true, decide_eq_true_eq] at hfc
          exact hfc.1.1
        have hg1 := give_one (p := ⟨p.heap, p.l.set i (s, r), p.held⟩) hh hof hg hnr
        simp only at hg1
        rw [set_back hc] at hg1
        refine ⟨_, i, s, r, hg1, ?_, hof, hg, hnr, hso, hh⟩
        rw [pTake_some (p := ⟨p.heap, p.l, true⟩) ho' hf hc, hh]
        rfl
  | none =>
    rw [hf] at h
    simp only at h
    split at h
    next he =>
      obtain ⟨⟨h', s, e0⟩, hm⟩ : ∃ r, hMake p.heap 4 order = r := ⟨_, rfl⟩
      rw [hm] at h he
      simp only at h he
      subst he
      injection h with h1 h2
      injection h2 with h2 _
      subst h1
      have hg : (p.l ++ [(s, (pBlocks s).tail)])[p.l.length]? = some (s, (pBlocks s).tail) := by simp
      have hcm := List.mem_of_getElem? hg
      obtain ⟨f1, f2, f3⟩ := o1.four _ hcm
      simp only at f1 f2 f3
      have hbl := pBlocks_length s
      rw [f1] at hbl
      have hm2 := (pMany_16 s.2.2.2 f2 f3).1
      have hnd := pBlocks_nodup s
      cases hb : pBlocks s with
      | nil => rw [hb] at hbl; simp at hbl; omega
      | cons a r =>
        rw [hb] at h2 hg hnd o1
        simp only [List.headD_cons, List.tail_cons] at h2 hg o1
        subst h2
        have hnr : a ∉ r := (List.nodup_cons.1 hnd).1
        have hof : pOf (p.l ++ [(s, r)]) a = some p.l.length := o1.of_at hg (by rw [hb]; exact List.mem_cons_self ..)
        have hso : s.2.2.2 = order := by
          have hok := o.hok
          cases hbb : fBest p.heap.free 4 with
          | none => rw [hMake_full (by omega) hbb] at hm; injection hm with _ hm; injection hm with _ hm; cases hm
          | some q =>
            obtain ⟨g, _, _, _, e, _⟩ := hMake_yes hok (o := order) (by omega) hbb
            rw [e] at hm
            injection hm with _ hm
            injection hm with hm _
            rw [← hm]
        have hs0 := o1.hok.start (o1.mem _ (List.mem_append_right _ (List.mem_singleton_self _)))
        simp only at hs0
        have hg1 := give_one (p := ⟨h', p.l ++ [(s, r)], p.held⟩) hh hof hg hnr
        simp only at hg1
        have hse : (p.l ++ [(s, r)]).set p.l.length (s, a :: r) = p.l ++ [(s, a :: r)] := by
          rw [List.set_append_right _ _ (Nat.le_refl _)]; simp
        rw [hse] at hg1
        refine ⟨_, p.l.length, s, r, hg1, ?_, hof, hg, hnr, hso, hh⟩
        have hgl : (p.l ++ [(s, a :: r)])[p.l.length]? = some (s, a :: r) := by simp
        have hfit : pFits order 0 true (s, a :: r) = true := by
          unfold pFits
          simp only [List.length_cons, Bool.not_true, Bool.false_or, Bool.and_eq_true, decide_eq_true_eq]
          exact ⟨⟨hso, hs0.1⟩, by omega⟩
        have hff : pFirst (p.l ++ [(s, a :: r)]) order 0 true = some p.l.length := by
          rcases pFirst_spec p.l order 0 true with ⟨_, hno⟩ | ⟨b, c, e, _⟩
          · rcases pFirst_spec (p.l ++ [(s, a :: r)]) order 0 true with ⟨_, hno2⟩ | ⟨b, c, e, hc, hfc, _⟩
            · have := hno2 _ (List.mem_append_right _ (List.mem_singleton_self _))
              rw [hfit] at this; cases this
            · rw [e]
              obtain ⟨hbl2, _⟩ := List.getElem?_eq_some_iff.1 hc
              rw [List.length_append, List.length_singleton] at hbl2
              rcases Nat.lt_or_ge b p.l.length with hlt | hge
              · rw [List.getElem?_append_left hlt] at hc
                have := hno c (List.mem_of_getElem? hc)
                rw [hfc] at this; cases this
              · rw [show b = p.l.length by omega]
          · rw [hf] at e; cases e
        rw [pTake_some (p := ⟨h', p.l ++ [(s, a :: r)], true⟩) ho' hff hgl, hh]
        simp only [List.tail_cons, List.headD_cons]
        rw [show (p.l ++ [(s, a :: r)]).set p.l.length (s, r) = p.l ++ [(s, r)] by rw [List.set_append_right _ _ (Nat.le_refl _)]; simp]
    next he =>
      injection h with _ h2
      injection h2 with _ h2
      exact absurd h2 he

end Go.Proofs.YthdjgmankcegpaaGreat
