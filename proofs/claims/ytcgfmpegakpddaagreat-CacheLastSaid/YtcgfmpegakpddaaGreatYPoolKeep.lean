/- What layer 9's statements have in common: a heap, an arena and their pool; the document's example. -/
import Derived.Test.YtcgfmpegakpddaaGreatPoolNew
import Derived.Test.YtcgfmpegakpddaaGreatPoolGive
namespace Go.Proofs.YtcgfmpegakpddaaGreat
open Go.RowKit
set_option linter.unusedVariables false

/-- made: a heap, an arena, and their pool. -/
theorem code_made (pages : Int) (w : World) (h0 : 4 ≤ pages) (h1 : pages ≤ 1024) : ∃ F ws, hNew pages = (⟨pages, F, [], 0⟩, 0) ∧
    Calls Tryz.prog 11 #[.int .i64 pages] w fun e w' => ∃ hp ap p S, e = .returned (.tuple #[.pointer (some ⟨hp, 0, none⟩), .pointer (some ⟨ap, 0, none⟩), .pointer (some ⟨p, 0, none⟩)]) ∧ PoolSt w w' p hp S ⟨⟨pages, F, [], 0⟩, ws, false, []⟩ 0 pages := by
  obtain ⟨F, e1, c1⟩ := t_hnew pages w h0 h1
  obtain ⟨n, rfl⟩ : ∃ n : Nat, pages = n := ⟨pages.toNat, by omega⟩
  obtain ⟨ws, hws⟩ : ∃ ws, List.replicate (64 * n) 0 = ws := ⟨_, rfl⟩
  have hwide : Wide ws := fun x hx => by rw [← hws] at hx; rw [(List.mem_replicate.1 hx).2]; decide
  refine ⟨F, ws, e1, ?_⟩
  have C2 : Hid (∀ W, Calls Tryz.prog 46 #[.int .i64 (n : Int)] W fun e w' => ∃ p g, e = .returned (.tuple #[.pointer (some ⟨p, 0, none⟩), .int .i64 0]) ∧ Ar w' W.heap.size p g (64 * n) ws ∧ Below W.heap.size W w') := hidb (fun W => by
    have := code_anew n W (by omega) (by omega)
    rw [hws] at this
    exact this)
  have C3 : Hid (∀ w1 w2 hp ap g Sh, HeapSt w w1 hp Sh ⟨(n : Int), F, [], 0⟩ 0 n → Ar w2 w1.heap.size ap g (64 * n) ws → Below w1.heap.size w1 w2 → Calls Tryz.prog 47 #[.pointer (some ⟨hp, 0, none⟩), .pointer (some ⟨ap, 0, none⟩)] w2 fun e w' => ∃ p S, e = .returned (.pointer (some ⟨p, 0, none⟩)) ∧ PoolSt w w' p hp S ⟨⟨(n : Int), F, [], 0⟩, ws, false, []⟩ 0 n) := hidb (fun w1 w2 hp ap g Sh hh ha hb => by
    have hSl := hh.hp.lt
    have hge := ha.ge
    have hgg := ha.geg
    have k := hh.hp.below hb
    refine (code_pnew k (ha.more (Nat.zero_le _)) (by show ((64 * n : Nat) : Int) = 64 * (n : Int); omega) hwide (fun h => by have := hSl _ h; omega) (fun h => by have := hSl _ h; omega)).mono ?_
    rintro e w' ⟨p, mb, rfl, q1, q2, q3, q4, q5⟩
    have hb1 := hh.bel.size
    have hb2 := hb.size
    refine ⟨p, PlS Sh p ap g mb [], rfl, ⟨Sh, ap, g, mb, _, _, _, q1, q2, fun b h => h⟩, q1.lt, fun b h => ?_, (hh.bel.trans (hb.mono hb1)).trans (q3.mono (by omega)), Int.le_refl _, rfl⟩
    rcases h with h | h | h | h | h | ⟨c, hc, _⟩
    · exact hh.low b h
    · omega
    · omega
    · omega
    · omega
    · cases hc)
  clear e1 hws hwide
  go_enter Tryz.func11, Tryz.ntmps11
  go_wp2_with (first
    | (go_at_call 45; (with_reducible refine c1.mono ?_); rintro e w1 ⟨hp, Sh, rfl, s1⟩; have S1 := hidb s1; clear s1)
    | (go_at_call 46; (with_reducible refine (C2.out _).mono ?_); rintro e w2 ⟨ap, g, rfl, ha, hb2⟩; have c3 := C3.out _ _ _ _ _ _ S1.out ha hb2; clear ha hb2)
    | (go_at_call 47; (with_reducible refine c3.mono ?_); rintro e w3 ⟨p, S, rfl, s3⟩; have S3 := hidb s3; clear s3))
  exact bodyPost_ret (v := .tuple #[.pointer (some ⟨hp, 0, none⟩), .pointer (some ⟨ap, 0, none⟩), .pointer (some ⟨p, 0, none⟩)]) (by simp [results, Tryz.results11, go_sem]) rfl ⟨hp, ap, p, S, rfl, S3.out⟩
theorem code_made_no (pages : Int) (w : World) (hp : in64 pages) (h : pages < 4 ∨ 1024 < pages) :
    Calls Tryz.prog 11 #[.int .i64 pages] w fun e w' => e = .returned (.tuple #[.pointer none, .pointer none, .pointer none]) ∧ Below w.heap.size w w' := by
  have c1 := code_hnew_no pages w h
  have c2 := fun W => code_anew_no pages W h
  go_enter Tryz.func11, Tryz.ntmps11
  go_wp2_with (first
    | (go_at_call 45; (with_reducible refine c1.mono ?_); rintro e w1 ⟨rfl, rfl⟩)
    | (go_at_call 46; (with_reducible refine (c2 _).mono ?_); rintro e w2 ⟨rfl, rfl⟩))
  exact bodyPost_ret (v := .tuple #[.pointer none, .pointer none, .pointer none]) (by simp [results, Tryz.results11, go_sem]) rfl ⟨rfl, Below.refl _ _⟩

/-- The document's example. -/
theorem aw_make9 {F : List Bool} (hN : hNew 8 = (⟨8, F, [], 0⟩, 0)) : ∃ h', hMake ⟨8, F, [], 0⟩ 4 1 = (h', (1, 0, 4, 1), 0) := by
  obtain ⟨F', e1, _, hk⟩ := hNew_ok (pages := 8) (by omega) (by omega)
  obtain rfl : F' = F := by rw [e1] at hN; injection hN with hN _; injection hN
  have hl := hk.ends rfl
  simp only at hl
  have hb : fBest F' 4 = some (0, 8) := by
    rw [fBest_is F' (by have := hk.fl; simp only at this; omega), hl]
    rfl
  obtain ⟨g, _, _, _, e, _⟩ := hMake_yes hk (n := 4) (o := 1) (by omega) hb
  exact ⟨_, e⟩
theorem aw_blocks : pBlocks (1, 0, 4, 1) = [0, 32, 64, 96, 128, 160, 192, 224] := by decide
theorem aw_take1 {h h' : HeapV} (hm : hMake h 4 1 = (h', (1, 0, 4, 1), 0)) : pTake ⟨h, [], false⟩ 1 = (⟨h', [((1, 0, 4, 1), [32, 64, 96, 128, 160, 192, 224])], false⟩, 0, 0) := by
  rw [pTake_new (p := ⟨h, [], false⟩) (order := 1) (by omega) rfl hm, aw_blocks]; rfl
theorem aw_take2 (h' : HeapV) : pTake ⟨h', [((1, 0, 4, 1), [32, 64, 96, 128, 160, 192, 224])], false⟩ 1 = (⟨h', [((1, 0, 4, 1), [64, 96, 128, 160, 192, 224])], false⟩, 32, 0) := by
  rw [pTake_some (p := ⟨h', [((1, 0, 4, 1), [32, 64, 96, 128, 160, 192, 224])], false⟩) (order := 1) (i := 0) (c := ((1, 0, 4, 1), [32, 64, 96, 128, 160, 192, 224])) (by omega) (by show pFirst [((1, 0, 4, 1), [32, 64, 96, 128, 160, 192, 224])] 1 0 true = some 0; decide) rfl]; rfl
theorem awake9 (w : World) : Calls Tryz.prog 10 #[] w fun e w' => e = .returned (.bool true) ∧ Below w.heap.size w w' := by
  obtain ⟨F, ws, hN, c1⟩ := code_made 8 w (by omega) (by omega)
  obtain ⟨h', hM⟩ := aw_make9 hN
  have C2 : Hid (∀ W p hp S, PoolSt w W p hp S ⟨⟨8, F, [], 0⟩, ws, false, []⟩ 0 8 → Calls Tryz.prog 44 #[.pointer (some ⟨p, 0, none⟩), .int .i64 1] W fun e w' => e = .returned (.tuple #[.int .i64 0, .int .i64 0]) ∧ ∃ S' v', PoolSt w w' p hp S' v' (0 + 1) 8 ∧ v'.plain = ⟨h', [((1, 0, 4, 1), [32, 64, 96, 128, 160, 192, 224])], false⟩ ∧ ToO S W S' w') := hidb (fun W p hp S s => t_ptake s (by omega) 1 ⟨by omega, by omega⟩ _ 0 0 (aw_take1 hM))
  have C3 : Hid (∀ W p hp S v, PoolSt w W p hp S v 1 8 → v.plain = ⟨h', [((1, 0, 4, 1), [32, 64, 96, 128, 160, 192, 224])], false⟩ → Calls Tryz.prog 44 #[.pointer (some ⟨p, 0, none⟩), .int .i64 1] W fun e w' => e = .returned (.tuple #[.int .i64 32, .int .i64 0]) ∧ ∃ S' v', PoolSt w w' p hp S' v' (1 + 1) 8 ∧ v'.plain = ⟨h', [((1, 0, 4, 1), [64, 96, 128, 160, 192, 224])], false⟩ ∧ ToO S W S' w') := hidb (fun W p hp S v s hv => t_ptake s (by omega) 1 ⟨by omega, by omega⟩ _ 32 0 (by rw [hv]; exact aw_take2 h'))
  clear hN hM
  go_enter Tryz.func10, Tryz.ntmps10
  go_wp2_with (first
    | (go_at_call 11; (with_reducible refine c1.mono ?_); rintro e w1 ⟨hp, ap, p, S, rfl, s1⟩; have c2 := C2.out _ _ _ _ s1; clear s1)
    | (go_at_call 44; (with_reducible refine c2.mono ?_); rintro e w2 ⟨rfl, S', v', s2, hv2, _⟩; have c3 := C3.out _ _ _ _ _ s2 hv2; clear s2 hv2)
    | (go_at_call 44; (with_reducible refine c3.mono ?_); rintro e w3 ⟨rfl, S3, v3, s3, _, _⟩; have P := hidb s3.bel; clear s3))
  go_ret
  exact ⟨rfl, P.out⟩

end Go.Proofs.YtcgfmpegakpddaaGreat
/- Plain facts on layer 9's statements: what is given back last is taken next; while it is held no span goes. -/
namespace Go.Proofs.YtcgfmpegakpddaaGreat
open Go.RowKit
set_option linter.unusedVariables false

/-- A pool's plain state is a right one. -/
structure POk (p : PoolV) : Prop where
  hok : HOk p.heap
  mem : ∀ c ∈ p.l, c.1 ∈ p.heap.l
  four : ∀ c ∈ p.l, c.1.2.2.1 = 4 ∧ 0 ≤ c.1.2.2.2 ∧ c.1.2.2.2 ≤ 3
  sub : ∀ c ∈ p.l, ∀ x ∈ c.2, x ∈ pBlocks c.1
  nod : ∀ c ∈ p.l, c.2.Nodup
  ids : (p.l.map (·.1.1)).Nodup
theorem PoolSt.pok {w W : World} {p hp : Nat} {S : Nat → Prop} {v : PoolW} {k : Nat} {pages : Int} (s : PoolSt w W p hp S v k pages) : POk v.plain := by
  obtain ⟨Sh, ap, g, mb, n, m, D, q1, q2, q3⟩ := s.pl
  have hn : v.ws.length ≤ 65536 := by rw [q1.ar.hlen]; exact q1.ar.small
  have hm : ∀ c ∈ v.plain.l, ∃ k ∈ v.ks, k.plain = c := fun c hc => List.mem_map.1 hc
  refine ⟨q1.hp_.ok, fun c hc => ?_, fun c hc => ?_, fun c hc => ?_, fun c hc => ?_, ?_⟩
  · obtain ⟨k, hk, rfl⟩ := hm c hc; exact q2.mem k hk
  · obtain ⟨k, hk, rfl⟩ := hm c hc; exact q2.four k hk
  · obtain ⟨k, hk, rfl⟩ := hm c hc; exact q2.sub k hk
  · obtain ⟨k, hk, rfl⟩ := hm c hc; exact (cList_len (q2.lst k hk) hn).2.2.2.2.1
  · show ((v.ks.map CutV.plain).map (·.1.1)).Nodup
    rw [List.map_map]
    exact q2.ids
theorem plain_inj {l : PL} (hd : (l.map (·.1.1)).Nodup) {i j : Nat} {c d : (Int × Int × Int × Int) × List Int} (hi : l[i]? = some c) (hj : l[j]? = some d) (h : c.1.1 = d.1.1) : i = j := by
  obtain ⟨hi2, e1⟩ := List.getElem?_eq_some_iff.1 hi
  obtain ⟨hj2, e2⟩ := List.getElem?_eq_some_iff.1 hj
  have := List.pairwise_iff_getElem.1 hd
  rcases Nat.lt_trichotomy i j with hlt | e | hlt
  · exact absurd (by rw [List.getElem_map, List.getElem_map, e1, e2, h]) (this i j (by simpa using hi2) (by simpa using hj2) hlt)
  · exact e
  · exact absurd (by rw [List.getElem_map, List.getElem_map, e1, e2, h]) (this j i (by simpa using hj2) (by simpa using hi2) hlt)
theorem pOf_spec {l : PL} {x : Int} {i : Nat} (h : pOf l x = some i) : ∃ c, l[i]? = some c ∧ x ∈ pBlocks c.1 := by
  obtain ⟨hi, h1, _⟩ := List.findIdx?_eq_some_iff_getElem.1 h
  exact ⟨l[i], List.getElem?_eq_getElem hi, by simpa using h1⟩
theorem POk.of_at {p : PoolV} (o : POk p) {i : Nat} {c : (Int × Int × Int × Int) × List Int} (hi : p.l[i]? = some c) {x : Int} (hx : x ∈ pBlocks c.1) : pOf p.l x = some i := by
  have hcm := List.mem_of_getElem? hi
  cases h : pOf p.l x with
  | none =>
    have := List.findIdx?_eq_none_iff.1 h c hcm
    simp [hx] at this
  | some j =>
    obtain ⟨d, hd, hxd⟩ := pOf_spec h
    have hdm := List.mem_of_getElem? hd
    obtain ⟨f1, f2, f3⟩ := o.four c hcm
    obtain ⟨g1, g2, g3⟩ := o.four d hdm
    have e := o.hok.apart (o.mem c hcm) (o.mem d hdm) (blocks_page hx f1 ⟨f2, f3⟩) (blocks_page hxd g1 ⟨g2, g3⟩)
    rw [plain_inj o.ids hi hd (by rw [e])]
theorem pBlocks_nodup (s : Int × Int × Int × Int) : (pBlocks s).Nodup := by
  unfold pBlocks
  refine List.pairwise_map.2 (List.Pairwise.imp (fun {a b} (h : a < b) e4 => ?_) List.pairwise_lt_range)
  have h1 : a * pSize s.2.2.2 < b * pSize s.2.2.2 := Nat.mul_lt_mul_of_pos_right h (pSize_pos _)
  omega
theorem set_back {l : PL} {i : Nat} {c d : (Int × Int × Int × Int) × List Int} (h : l[i]? = some c) : (l.set i d).set i c = l := by
  rw [List.set_set]
  apply List.ext_getElem?
  intro j
  rw [List.getElem?_set]
  by_cases e : i = j
  · subst e
    obtain ⟨hi, _⟩ := List.getElem?_eq_some_iff.1 h
    rw [if_pos rfl, if_pos hi, h]
  · rw [if_neg e]
theorem give_one {p : PoolV} (hh : p.held = true) {x : Int} {i : Nat} {s : Int × Int × Int × Int} {r : List Int} (h1 : pOf p.l x = some i) (h2 : p.l[i]? = some (s, r)) (h3 : x ∉ r) : gGive p [x] = (⟨p.heap, p.l.set i (s, x :: r), true⟩, 0) := by
  have hp : pPuts p.l [x] = some (p.l.set i (s, x :: r)) := by
    show pPut p.l x = _
    unfold pPut
    rw [h1]
    simp only
    rw [h2]
    simp only
    rw [if_neg h3]
  rw [gGive_yes (by simp [h1]) hp]
  unfold pSweep
  simp [hh]
/-- The block that was given back last is taken next. -/
theorem last_again {p p1 : PoolV} {order at' : Int} (o : POk p) (o1 : POk p1) (hh : p.held = true) (h : pTake p order = (p1, at', 0)) :
    ∃ p2 i s r, gGive p1 [at'] = (p2, 0) ∧ pTake p2 order = (p1, at', 0) ∧ pOf p1.l at' = some i ∧ p1.l[i]? = some (s, r) ∧ at' ∉ r ∧ s.2.2.2 = order ∧ p1.held = true := by
  unfold pTake at h
  split at h
  · injection h with _ h; injection h with _ h; cases h
  next ho =>
  have ho' : 0 ≤ order ∧ order ≤ 3 := by omega
  cases hf : pFirst p.l order 0 true with
  | some i =>
    rw [hf] at h
    simp only at h
    rcases pFirst_spec p.l order 0 true with ⟨e, _⟩ | ⟨b, c, e, hc, hfc, _⟩
    · rw [hf] at e; cases e
    · rw [hf] at e
      obtain rfl := Option.some.inj e
      rw [hc] at h
      simp only at h
      injection h with h1 h2
      injection h2 with h2 _
      obtain ⟨s, l⟩ := c
      cases l with
      | nil => unfold pFits at hfc; simp at hfc
      | cons a r =>
        simp only [List.headD_cons, List.tail_cons] at h1 h2
        subst h2 h1
        have hcm := List.mem_of_getElem? hc
        have hab : a ∈ pBlocks s := o.sub _ hcm a (List.mem_cons_self ..)
        have hnr : a ∉ r := (List.nodup_cons.1 (o.nod _ hcm)).1
        obtain ⟨hi, _⟩ := List.getElem?_eq_some_iff.1 hc
        have hg : (p.l.set i (s, r))[i]? = some (s, r) := List.getElem?_set_self hi
        have hof : pOf (p.l.set i (s, r)) a = some i := by
          rw [pOf_same (set_fst hc r) a]
          exact o.of_at hc hab
        have hso : s.2.2.2 = order := by
          unfold pFits at hfc
          simp only [Bool.and_eq_true, decide_eq_true_eq] at hfc
          exact hfc.1.1
        have hg1 := give_one (p := ⟨p.heap, p.l.set i (s, r), p.held⟩) hh hof hg hnr
        simp only at hg1
        rw [set_back hc] at hg1
        refine ⟨_, i, s, r, hg1, ?_, hof, hg, hnr, hso, hh⟩
        rw [pTake_some (p := ⟨p.heap, p.l, true⟩) ho' hf hc, hh]
        rfl
  | none =>
    rw [hf] at h
    simp only at h
    split at h
    next he =>
      obtain ⟨⟨h', s, e0⟩, hm⟩ : ∃ r, hMake p.heap 4 order = r := ⟨_, rfl⟩
      rw [hm] at h he
      simp only at h he
      subst he
      injection h with h1 h2
      injection h2 with h2 _
      subst h1
      have hg : (p.l ++ [(s, (pBlocks s).tail)])[p.l.length]? = some (s, (pBlocks s).tail) := by simp
      have hcm := List.mem_of_getElem? hg
      obtain ⟨f1, f2, f3⟩ := o1.four _ hcm
      simp only at f1 f2 f3
      have hbl := pBlocks_length s
      rw [f1] at hbl
      have hm2 := (pMany_16 s.2.2.2 f2 f3).1
      have hnd := pBlocks_nodup s
      cases hb : pBlocks s with
      | nil => rw [hb] at hbl; simp at hbl; omega
      | cons a r =>
        rw [hb] at h2 hg hnd o1
        simp only [List.headD_cons, List.tail_cons] at h2 hg o1
        subst h2
        have hnr : a ∉ r := (List.nodup_cons.1 hnd).1
        have hof : pOf (p.l ++ [(s, r)]) a = some p.l.length := o1.of_at hg (by rw [hb]; exact List.mem_cons_self ..)
        have hso : s.2.2.2 = order := by
          have hok := o.hok
          cases hbb : fBest p.heap.free 4 with
          | none => rw [hMake_full (by omega) hbb] at hm; injection hm with _ hm; injection hm with _ hm; cases hm
          | some q =>
            obtain ⟨g, _, _, _, e, _⟩ := hMake_yes hok (o := order) (by omega) hbb
            rw [e] at hm
            injection hm with _ hm
            injection hm with hm _
            rw [← hm]
        have hs0 := o1.hok.start (o1.mem _ (List.mem_append_right _ (List.mem_singleton_self _)))
        simp only at hs0
        have hg1 := give_one (p := ⟨h', p.l ++ [(s, r)], p.held⟩) hh hof hg hnr
        simp only at hg1
        have hse : (p.l ++ [(s, r)]).set p.l.length (s, a :: r) = p.l ++ [(s, a :: r)] := by
          rw [List.set_append_right _ _ (Nat.le_refl _)]; simp
        rw [hse] at hg1
        refine ⟨_, p.l.length, s, r, hg1, ?_, hof, hg, hnr, hso, hh⟩
        have hgl : (p.l ++ [(s, a :: r)])[p.l.length]? = some (s, a :: r) := by simp
        have hfit : pFits order 0 true (s, a :: r) = true := by
          unfold pFits
          simp only [List.length_cons, Bool.not_true, Bool.false_or, Bool.and_eq_true, decide_eq_true_eq]
          exact ⟨⟨hso, hs0.1⟩, by omega⟩
        have hff : pFirst (p.l ++ [(s, a :: r)]) order 0 true = some p.l.length := by
          rcases pFirst_spec p.l order 0 true with ⟨_, hno⟩ | ⟨b, c, e, _⟩
          · rcases pFirst_spec (p.l ++ [(s, a :: r)]) order 0 true with ⟨_, hno2⟩ | ⟨b, c, e, hc, hfc, _⟩
            · have := hno2 _ (List.mem_append_right _ (List.mem_singleton_self _))
              rw [hfit] at this; cases this
            · rw [e]
              obtain ⟨hbl2, _⟩ := List.getElem?_eq_some_iff.1 hc
              rw [List.length_append, List.length_singleton] at hbl2
              rcases Nat.lt_or_ge b p.l.length with hlt | hge
              · rw [List.getElem?_append_left hlt] at hc
                have := hno c (List.mem_of_getElem? hc)
                rw [hfc] at this; cases this
              · rw [show b = p.l.length by omega]
          · rw [hf] at e; cases e
        rw [pTake_some (p := ⟨h', p.l ++ [(s, a :: r)], true⟩) ho' hff hgl, hh]
        simp only [List.tail_cons, List.headD_cons]
        rw [show (p.l ++ [(s, a :: r)]).set p.l.length (s, r) = p.l ++ [(s, r)] by rw [List.set_append_right _ _ (Nat.le_refl _)]; simp]
    next he =>
      injection h with _ h2
      injection h2 with _ h2
      exact absurd h2 he

end Go.Proofs.YtcgfmpegakpddaaGreat
/- Plain facts on a pool's blocks: each is out, or in its span's list. No program is named here. -/
namespace Go.Proofs.YtcgfmpegakpddaaGreat
set_option linter.unusedVariables false

section
variable {p : PoolV}
/-- A block is of one span alone. -/
theorem POk.one_span (o : POk p) {c d : (Int × Int × Int × Int) × List Int} (hc : c ∈ p.l) (hd : d ∈ p.l) {x : Int} (h1 : x ∈ pBlocks c.1) (h2 : x ∈ pBlocks d.1) : c = d := by
  obtain ⟨i, hi⟩ := List.getElem?_of_mem hc
  obtain ⟨j, hj⟩ := List.getElem?_of_mem hd
  have e1 := o.of_at hi h1
  have e2 := o.of_at hj h2
  rw [e1] at e2
  obtain rfl := Option.some.inj e2
  rw [hi] at hj
  exact Option.some.inj hj
/-- It is in a list of that order just if it is in its span's. -/
theorem POk.in_lists (o : POk p) {c : (Int × Int × Int × Int) × List Int} (hc : c ∈ p.l) {x : Int} (h : x ∈ pBlocks c.1) : (∃ d ∈ p.l, d.1.2.2.2 = c.1.2.2.2 ∧ x ∈ d.2) ↔ x ∈ c.2 := by
  constructor
  · rintro ⟨d, hd, _, hx⟩
    rw [o.one_span hc hd h (o.sub d hd x hx)]
    exact hx
  · exact fun hx => ⟨c, hc, rfl, hx⟩
/-- It is out just if it isn't. -/
theorem POk.is_out (o : POk p) {c : (Int × Int × Int × Int) × List Int} (hc : c ∈ p.l) {x : Int} (h : x ∈ pBlocks c.1) : (∃ d ∈ p.l, x ∈ pBlocks d.1 ∧ x ∉ d.2) ↔ x ∉ c.2 := by
  constructor
  · rintro ⟨d, hd, hb, hx⟩
    rw [o.one_span hc hd h hb]
    exact hx
  · exact fun hx => ⟨c, hc, h, hx⟩
end
/-- As many of a span's blocks are in its list as the list is long. -/
theorem count_list {bl l : List Int} (hb : bl.Nodup) (hl : l.Nodup) (hs : ∀ x ∈ l, x ∈ bl) : (bl.filter fun x => decide (x ∈ l)).length = l.length := by
  have hn : (bl.filter fun x => decide (x ∈ l)).Nodup := hb.sublist List.filter_sublist
  have h1 : ∀ x, x ∈ (bl.filter fun x => decide (x ∈ l)) ↔ x ∈ l := fun x => by
    rw [List.mem_filter]
    constructor
    · exact fun h => of_decide_eq_true h.2
    · exact fun h => ⟨hs x h, decide_eq_true h⟩
  have h2 : ∀ {a b : List Int}, a.Nodup → (∀ x ∈ a, x ∈ b) → a.length ≤ b.length := by
    intro a
    induction a with
    | nil => intro b _ _; exact Nat.zero_le _
    | cons x a ih =>
      intro b hd hm
      obtain ⟨s, t, rfl⟩ := List.append_of_mem (hm x (List.mem_cons_self ..))
      have hd2 := List.nodup_cons.1 hd
      have := ih (b := s ++ t) hd2.2 fun y hy => by
        have h1 := hm y (List.mem_cons_of_mem _ hy)
        rcases List.mem_append.1 h1 with h | h
        · exact List.mem_append_left _ h
        · rcases List.mem_cons.1 h with rfl | h
          · exact absurd hy hd2.1
          · exact List.mem_append_right _ h
      rw [List.length_append] at this
      simp only [List.length_cons, List.length_append]
      omega
  exact Nat.le_antisymm (h2 hn fun x hx => (h1 x).1 hx) (h2 hl fun x hx => (h1 x).2 hx)

end Go.Proofs.YtcgfmpegakpddaaGreat
/- Layer 9's statement on the block that was given back last. -/
namespace Go.Proofs.YtcgfmpegakpddaaGreat
open Go.RowKit
set_option linter.unusedVariables false

/-- Numbers that came in. -/
theorem read_ids9b {H : Type} {enc : TypeId × Value → H} {W : World} {sp : Nat → Bool} {hd : Bool} {v : Value} {d : DataW H} {ps : List MemPlace} (h : DataW.Trod enc Tryz.prog W 0 sp hd 38 v d ps) :
    ∃ (A : Option Addr) (len cap : Nat) (l : List Int), v.cells.toList = [.slice A len cap] ∧ len ≤ maxLen ∧ Sl W W.heap.size A len (l.map iv) ∧ ∀ i ∈ l, in64 i := by
  obtain ⟨fuel, hf⟩ := h
  obtain ⟨A, len, cap, zs, e1, hlen, hsl, hwf⟩ := read_ints Tryz.underlying38 Tryz.underlying3 (by kernel_rfl) hf
  exact ⟨A, len, cap, zs, e1, hlen, hsl, fun x hx => wf_in64 (hwf x hx)⟩

theorem pTake_held (p : PoolV) (order : Int) : (pTake p order).1.held = p.held := by
  unfold pTake
  split
  · rfl
  · cases pFirst p.l order 0 true with
    | some i =>
      simp only
      cases p.l[i]? <;> rfl
    | none =>
      simp only
      split <;> rfl
theorem pSweep_held (p : PoolV) : (pSweep p).held = p.held := by
  unfold pSweep
  split <;> rfl

/-- How many blocks a List of an order has. -/
def listLen (l : PL) (order : Int) : Nat := ((l.filter fun c => c.1.2.2.2 == order).map (·.2.length)).sum
theorem list_len {w W : World} {p hp : Nat} {S : Nat → Prop} {v : PoolW} {k : Nat} {pages : Int} (s : PoolSt w W p hp S v k pages) {ds : List CutV} (h : InOrderP v.ks ds) (order : Int) : ((ds.filter (fun k => k.s.2.2.2 == order)).flatMap (·.l)).length = listLen v.plain.l order := by
  obtain ⟨Sh, ap, g, mb, n, m, D, q1, o, q3⟩ := s.pl
  have hp1 : ds.Perm v.ks := (List.perm_ext_iff_of_nodup (nodup_of_mapK h.1) (nodup_of_mapK o.ids)).2 h.2.1
  unfold listLen
  have e1 : ((v.plain.l.filter fun c => c.1.2.2.2 == order).map (·.2.length)) = ((v.ks.filter (fun k => k.s.2.2.2 == order)).map (·.l.length)) := by
    show (((v.ks.map CutV.plain).filter fun c => c.1.2.2.2 == order).map (·.2.length)) = _
    rw [List.filter_map, List.map_map]
    rfl
  rw [e1, List.length_flatMap]
  exact ((hp1.filter _).map _).sum_nat
section
variable {w W : World} {p hp : Nat} {S : Nat → Prop} {v : PoolW} {k : Nat} {pages : Int}
theorem t_plen (s : PoolSt w W p hp S v k pages) (order : Int) (n : Nat) (e : listLen v.plain.l order = n) : Calls Tryz.prog 17 #[.pointer (some ⟨p, 0, none⟩), .int .i64 order] W fun e w' => (∃ A c, e = .returned (.slice A n c)) ∧ Below W.heap.size W w' := by
  refine (t_plist s order).mono ?_
  rintro e' w' ⟨ds, h1, A, c, rfl, _, hb⟩
  exact ⟨⟨A, c, by rw [list_len s h1 order, e]⟩, hb⟩
theorem orderP_of {ks : List CutV} {x : Int} {i : Nat} {s : Int × Int × Int × Int} {r : List Int} (h1 : pOf (ks.map CutV.plain) x = some i) (h2 : (ks.map CutV.plain)[i]? = some (s, r)) (h3 : x ∉ r) : orderP ks x = s.2.2.2 := by
  rcases cut_of ks x with ⟨_, e⟩ | ⟨c, j, e1, e2, e3⟩
  · rw [e] at h1; cases h1
  · rw [e2] at h1
    obtain rfl := Option.some.inj h1
    rw [List.getElem?_map, e3] at h2
    have h2' : (c.s, c.l) = (s, r) := Option.some.inj h2
    injection h2' with a1 a2
    unfold orderP
    rw [e1]
    simp only
    rw [a2, if_neg h3, a1]
/-- The calls behind the last Take that asks. -/
theorem last_calls (s : PoolSt w W p hp S v k pages) (hk : k + 2 ≤ 1000000000) (hh : v.held = true) (order : Int) (ho : in64 order) (p1 : PoolV) (at' : Int) (e : pTake v.plain order = (p1, at', 0)) :
    Calls Tryz.prog 44 #[.pointer (some ⟨p, 0, none⟩), .int .i64 order] W fun e w1 => e = .returned (.tuple #[.int .i64 at', .int .i64 0]) ∧ ∃ n : Nat,
      Calls Tryz.prog 17 #[.pointer (some ⟨p, 0, none⟩), .int .i64 order] w1 fun e w2 => (∃ A c, e = .returned (.slice A n c)) ∧
        ∀ W3, (W3 = w2.alloc (.cells #[.int .i64 at'] 3) ∨ W3 = (w2.alloc (.cells #[.int .i64 at'] 3)).drew) →
          Calls Tryz.prog 52 #[.pointer (some ⟨p, 0, none⟩), .slice (some ⟨w2.heap.size, 0, none⟩) 1 1] W3 fun e w4 => e = .returned (.int .i64 0) ∧
            Calls Tryz.prog 44 #[.pointer (some ⟨p, 0, none⟩), .int .i64 order] w4 fun e w5 => e = .returned (.tuple #[.int .i64 at', .int .i64 0]) ∧
              Calls Tryz.prog 17 #[.pointer (some ⟨p, 0, none⟩), .int .i64 order] w5 fun e w6 => (∃ A c, e = .returned (.slice A n c)) ∧
                Calls Tryz.prog 19 #[.pointer (some ⟨p, 0, none⟩), .int .i64 at'] w6 fun e w7 => e = .returned (.int .i64 order) ∧ Below w.heap.size w w7 := by
  refine (t_ptake s (by omega) order ho p1 at' 0 e).mono ?_
  rintro e1 w1 ⟨rfl, S1, v1, s1, hv1, _⟩
  subst hv1
  obtain ⟨p2, i, sp, r, hg, ht2, hof, hget, hnr, hso, hh1⟩ := last_again s.pok s1.pok hh e
  refine ⟨rfl, listLen v1.plain.l order, (t_plen s1 order _ rfl).mono ?_⟩
  rintro e2 w2 ⟨⟨A, c, rfl⟩, hb2⟩
  refine ⟨⟨A, c, rfl⟩, fun W3 hW3 => ?_⟩
  have s2 := s1.below hb2
  have hb3 : Below w2.heap.size w2 W3 := by
    rcases hW3 with rfl | rfl
    · exact (Below.refl _ _).alloc (Nat.le_refl _) _
    · exact ((Below.refl _ _).alloc (Nat.le_refl _) _).drew
  have s3 := s2.below hb3
  have hsl : Sl W3 W3.heap.size (some ⟨w2.heap.size, 0, none⟩) 1 ([at'].map iv) := by
    rcases hW3 with rfl | rfl
    · exact Sl.oneI w2 at' _
    · exact Sl.oneI w2 at' _
  have h64 : in64 at' := by
    have hcm := List.mem_of_getElem? hget
    obtain ⟨c, hc, hx⟩ := pOf_spec hof
    rw [hget] at hc
    obtain rfl := Option.some.inj hc
    have o := s1.pok
    obtain ⟨f1, f2, f3⟩ := o.four _ hcm
    have h1 := blocks_in hx f1 ⟨f2, f3⟩
    have h2 := o.hok.start (o.mem _ hcm)
    have h3 := o.hok.p1
    have h4 := pSize_pos sp.2.2.2
    simp only at h1 h2
    rw [f1] at h2
    unfold in64
    omega
  refine (t_pgive s3 (some ⟨w2.heap.size, 0, none⟩) 1 1 [at'] hsl (fun a ha hS => by
    injection ha with ha
    subst ha
    have := s2.lt _ hS
    simp at this) (by omega) (fun x hx => by obtain rfl := List.mem_singleton.1 hx; exact h64) p2 0 hg).mono ?_
  rintro e4 w4 ⟨rfl, S4, v4, s4, hv4, _⟩
  refine ⟨rfl, (t_ptake s4 (by omega) order ho v1.plain at' 0 (by rw [hv4]; exact ht2)).mono ?_⟩
  rintro e5 w5 ⟨rfl, S5, v5, s5, hv5, _⟩
  refine ⟨rfl, (t_plen s5 order _ (by rw [hv5])).mono ?_⟩
  rintro e6 w6 ⟨⟨A6, c6, rfl⟩, hb6⟩
  have s6 := s5.below hb6
  have hl5 : v5.ks.map CutV.plain = v1.plain.l := congrArg PoolV.l hv5
  refine ⟨⟨A6, c6, rfl⟩, (t_porder s6 at' h64 order (by
    rw [← hso]
    exact orderP_of (by rw [hl5]; exact hof) (by rw [hl5]; exact hget) hnr)).mono ?_⟩
  rintro e7 w7 ⟨rfl, hb7⟩
  exact ⟨rfl, s6.bel.trans (hb7.mono s6.bel.size)⟩
end

end Go.Proofs.YtcgfmpegakpddaaGreat
/- A pool that isn't held has no whole span: then both ways to tell Give are the same. No program is named here. -/
namespace Go.Proofs.YtcgfmpegakpddaaGreat
set_option linter.unusedVariables false

/-- Not held: no span is whole. -/
def Calm (p : PoolV) : Prop := p.held = false → ∀ c ∈ p.l, pWhole c = false
theorem hDrop_nil (h : HeapV) : hDrop h [] = (h, 0) := rfl
section
variable {p : PoolV}
theorem sweep_calm (k : Calm p) : pSweep p = p := by
  unfold pSweep
  cases h : p.held with
  | true => simp
  | false =>
    have h1 := k h
    have e1 : p.l.filter pWhole = [] := List.filter_eq_nil_iff.2 fun c hc => by rw [h1 c hc]; decide
    have e2 : p.l.filter (fun c => !pWhole c) = p.l := List.filter_eq_self.2 fun c hc => by rw [h1 c hc]; rfl
    rw [e1, e2]
    simp only [List.map_nil, hDrop_nil, Bool.false_eq_true, if_false]
    rw [← h]
theorem gGive_eq (k : Calm p) (xs : List Int) : gGive p xs = pGive p xs := by
  unfold gGive pGive
  split
  · rfl
  · cases hp : pPuts p.l xs with
    | none => rfl
    | some l =>
      simp only
      by_cases hx : xs = []
      · subst hx
        obtain rfl : p.l = l := Option.some.inj hp
        rw [if_pos rfl]
        have := sweep_calm k
        rw [this]
      · rw [if_neg hx]
theorem Calm.sweep (p : PoolV) : Calm (pSweep p) := by
  intro h c hc
  unfold pSweep at h hc
  split at hc
  · rename_i h2
    rw [if_pos h2] at h
    rw [h2] at h
    cases h
  · have := (List.mem_filter.1 hc).2
    simpa using this
theorem Calm.give (k : Calm p) (xs : List Int) : Calm (pGive p xs).1 := by
  unfold pGive
  split
  · exact k
  · cases pPuts p.l xs with
    | none => exact k
    | some l =>
      simp only
      split
      · exact k
      · exact Calm.sweep _
theorem Calm.take (k : Calm p) (o : POk p) (order : Int) : Calm (pTake p order).1 := by
  intro h c hc
  have hh : p.held = false := by rw [← h]; exact (pTake_held p order).symm
  by_cases ho : order < 0 ∨ 3 < order
  · unfold pTake at hc
    rw [if_pos ho] at hc
    exact k hh c hc
  · unfold pTake at hc
    rw [if_neg ho] at hc
    split at hc
    · rename_i i hf
      split at hc
      · rename_i d hd
        rcases List.mem_or_eq_of_mem_set hc with h1 | rfl
        · exact k hh c h1
        · have hdm := List.mem_of_getElem? hd
          have h2 := k hh d hdm
          have hpos : 0 < d.2.length := by
            rcases pFirst_spec p.l order 0 true with ⟨e, _⟩ | ⟨b, d', e, hd', hfd, _⟩
            · rw [hf] at e; cases e
            · rw [hf] at e
              obtain rfl := Option.some.inj e
              rw [hd] at hd'
              obtain rfl := Option.some.inj hd'
              unfold pFits at hfd
              simp at hfd
              exact List.length_pos_iff.2 (fun e => by rw [e] at hfd; simp at hfd)
          have hle := count_list (pBlocks_nodup d.1) (o.nod d hdm) (o.sub d hdm)
          have h3 : ((pBlocks d.1).filter fun x => decide (x ∈ d.2)).length ≤ (pBlocks d.1).length := List.length_filter_le _ _
          unfold pWhole
          simp only [List.length_tail, beq_eq_false_iff_ne]
          omega
      · exact k hh c hc
    · split at hc
      · rename_i he
        rcases List.mem_append.1 hc with h1 | h1
        · exact k hh c h1
        · obtain rfl := List.mem_singleton.1 h1
          unfold pWhole
          simp only [List.length_tail, beq_eq_false_iff_ne]
          have hp : 0 < (pBlocks (hMake p.heap 4 order).2.1).length := by
            cases hb : fBest p.heap.free 4 with
            | none => rw [hMake_full (by omega) hb] at he; exact absurd he (by show ¬ (3 : Int) = 0; decide)
            | some r =>
              obtain ⟨g, _, _, _, e, _⟩ := hMake_yes o.hok (n := 4) (o := order) (by omega) hb
              rw [e, pBlocks_length]
              have := (pMany_16 order (by omega) (by omega)).1
              show 0 < pMany 4 order
              omega
          omega
      · exact k hh c hc
end

end Go.Proofs.YtcgfmpegakpddaaGreat
/- A pool that a law has made: what each call does to it, and that it leaves all other blocks; the heap beneath it makes a span. -/
namespace Go.Proofs.YtcgfmpegakpddaaGreat
open Go.RowKit Go.Maps
set_option linter.unusedVariables false

/-- All blocks but those of S are as they were, and what S has grown by is new. -/
def SideP (S : Nat → Prop) (W : World) (S' : Nat → Prop) (W' : World) : Prop := Kept S W W' ∧ ∀ b, S' b → S b ∨ W.heap.size ≤ b
theorem SideP.not {S S' : Nat → Prop} {W W' : World} (h : SideP S W S' W') {b : Nat} (hb : b < W.heap.size) (hn : ¬ S b) : ¬ S' b := fun c => (h.2 b c).elim hn fun q => by omega
theorem SideP.sl {S S' : Nat → Prop} {W W' : World} (h : SideP S W S' W') {A : Option Addr} {n : Nat} {xs : List Value} (hs : Sl W W.heap.size A n xs) (hn : ∀ a, A = some a → ¬ S a.block) : Sl W' W'.heap.size A n xs := Sl.kept (B := 0) hs h.1 hn
theorem SideP.below {S : Nat → Prop} {W W' : World} (hb : Below W.heap.size W W') : SideP S W S W' := ⟨Kept.of_below hb S, fun b h => Or.inl h⟩
theorem SideP.did {S : Nat → Prop} {W W' : World} (hK : Kept S W W') : SideP S W (more S W W') W' := ⟨hK, fun b h => h.1⟩
theorem SideP.trans {S S' S'' : Nat → Prop} {W W' W'' : World} (h : SideP S W S' W') (h2 : SideP S' W' S'' W'') : SideP S W S'' W'' := by
  refine ⟨h.1.trans h2.1 (fun b hb c => ?_), fun b hb => ?_⟩
  · rcases h.2 b c with h3 | h3
    · exact h3
    · omega
  · rcases h2.2 b hb with h3 | h3
    · exact h.2 b h3
    · exact Or.inr (Nat.le_trans h.1.size h3)

theorem hMake_moreP {h : HeapV} (n o : Int) : ∀ s ∈ h.l, s ∈ (hMake h n o).1.l := fun s hs => by
  unfold hMake
  split
  · exact hs
  · split
    · exact hs
    · exact List.mem_append_left _ hs
theorem hMake_lastP {h : HeapV} (n o : Int) : h.last ≤ (hMake h n o).1.last := by
  unfold hMake
  split
  · exact Int.le_refl _
  · split
    · exact Int.le_refl _
    · show h.last ≤ h.last + 1; omega
theorem sub_lenP {α : Type} : ∀ {l m : List α}, l.Nodup → (∀ x ∈ l, x ∈ m) → l.length ≤ m.length
  | [], _, _, _ => Nat.zero_le _
  | x :: l, m, hd, hm => by
    obtain ⟨a, b, rfl⟩ := List.append_of_mem (hm x (List.mem_cons_self ..))
    have hd2 := List.nodup_cons.1 hd
    have ih := sub_lenP (l := l) (m := a ++ b) hd2.2 fun y hy => by
      have h1 := hm y (List.mem_cons_of_mem _ hy)
      rcases List.mem_append.1 h1 with h | h
      · exact List.mem_append_left _ h
      · rcases List.mem_cons.1 h with rfl | h
        · exact absurd hy hd2.1
        · exact List.mem_append_right _ h
    rw [List.length_append] at ih
    simp only [List.length_cons, List.length_append]
    omega
theorem spans_lenP {h : HeapV} (k : HOk h) {n : Nat} (hlb : h.last ≤ n) : h.l.length ≤ n := by
  have h1 := nodup_bound n (h.l.map (·.1)) k.ids fun x hx => by
    obtain ⟨s, hs, rfl⟩ := List.mem_map.1 hx
    have := k.idr s hs
    omega
  rwa [List.length_map] at h1

section
variable {w W W' : World} {p hp : Nat} {S T : Nat → Prop} {v : PoolW} {k : Nat} {pages : Int}
theorem PoolSt.kept (s : PoolSt w W p hp S v k pages) (hK : Kept T W W') (hn : ∀ b, S b → ¬ T b) (hT : ∀ b, T b → w.heap.size ≤ b) : PoolSt w W' p hp S v k pages := by
  obtain ⟨⟨Sh, ap, g, mb, n, m, D, q1, q2, q3⟩, l1, l2, l3, l4, l5⟩ := s
  exact ⟨⟨Sh, ap, g, mb, n, m, D, q1.keep hK fun b hb => hn b (q3 b hb), q2, q3⟩, fun b h => Nat.lt_of_lt_of_le (l1 b h) hK.size, l2, l3.trans (hK.below l3.size hT), l4, l5⟩
theorem PoolSt.later (s : PoolSt w W p hp S v k pages) {k' : Nat} (h : k ≤ k') : PoolSt w W p hp S v k' pages := ⟨s.pl, s.lt, s.low, s.bel, by have := s.la; omega, s.pg⟩
/-- Few spans, few that are cut. -/
theorem PoolSt.few (s : PoolSt w W p hp S v k pages) (hk : k ≤ 60000) : v.plain.heap.l.length ≤ 60000 ∧ v.plain.l.length ≤ 60000 ∧ v.plain.heap.last ≤ 1000000000 := by
  have o := s.pok
  have hl := s.la
  have h1 : v.plain.heap.l.length ≤ k := spans_lenP o.hok hl
  have h2 : v.plain.l.length ≤ v.plain.heap.l.length := by
    have := sub_lenP (l := v.plain.l.map (·.1)) (m := v.plain.heap.l) ?_ fun x hx => ?_
    · rw [List.length_map] at this; exact this
    · have := List.pairwise_map.1 o.ids
      exact List.pairwise_map.2 (this.imp fun {a b} hab e => hab (by rw [e]))
    · obtain ⟨c, hc, rfl⟩ := List.mem_map.1 hx
      exact o.mem c hc
  exact ⟨by omega, by omega, by show v.h.last ≤ _; omega⟩
theorem k_ptake (s : PoolSt w W p hp S v k pages) (hk : k + 1 ≤ 1000000000) (order : Int) (ho : in64 order) (p' : PoolV) (at' no : Int) (e : pTake v.plain order = (p', at', no)) :
    Calls Tryz.prog 44 #[.pointer (some ⟨p, 0, none⟩), .int .i64 order] W fun e w' => e = .returned (.tuple #[.int .i64 at', .int .i64 no]) ∧ ∃ S' v', PoolSt w w' p hp S' v' (k + 1) pages ∧ v'.plain = p' ∧ SideP S W S' w' := by
  by_cases c : order < 0 ∨ 3 < order
  · refine (code_ptake_arg (some ⟨p, 0, none⟩) order ho c W).mono ?_
    unfold pTake at e
    rw [if_pos c] at e
    injection e with e1 e2
    injection e2 with e2 e3
    subst e2 e3
    rintro e w' ⟨rfl, hb⟩
    exact ⟨rfl, S, v, (s.below hb).later (by omega), e1, SideP.below hb⟩
  · obtain ⟨Sh, ap, g, mb, n, m, D, q1, q2, q3⟩ := s.pl
    have hla := s.la
    refine (code_ptake q1 q2 order (by omega) (by omega)).mono ?_
    rintro e' w' ⟨at2, no2, v', rfl, hw, e2, _⟩
    rw [e] at e2
    injection e2 with e3 e4
    injection e4 with e4 e5
    subst e4 e5
    have hh := pTake_heap (p := v.plain) q1.hp_.ok order
    rw [e, e3] at hh
    obtain ⟨s2, hK⟩ := s.did (k' := k + 1) q3 hw (by have h1 : v'.h.last ≤ v.h.last + 1 := hh.2; omega) hh.1
    exact ⟨rfl, _, v', s2, e3.symm, SideP.did hK⟩
theorem k_pgive (s : PoolSt w W p hp S v k pages) (A : Option Addr) (N c : Nat) (xs : List Int) (hs : Sl W W.heap.size A N (xs.map iv)) (hA : 0 < N → ∀ a, A = some a → ¬ S a.block) (hN : N ≤ 65536) (hx : ∀ x ∈ xs, in64 x) (p' : PoolV) (no : Int) (e : gGive v.plain xs = (p', no)) :
    Calls Tryz.prog 52 #[.pointer (some ⟨p, 0, none⟩), .slice A N c] W fun e w' => e = .returned (.int .i64 no) ∧ ∃ S' v', PoolSt w w' p hp S' v' k pages ∧ v'.plain = p' ∧ SideP S W S' w' := by
  obtain ⟨Sh, ap, g, mb, n, m, D, q1, q2, q3⟩ := s.pl
  refine (code_pgive q1 q2 A N c xs hs (fun h0 a ha h => hA h0 a ha (q3 _ h)) hN hx).mono ?_
  rintro e' w' ⟨no2, v', rfl, hw, e2, _⟩
  rw [e] at e2
  injection e2 with e3 e4
  subst e4
  have hh := gGive_heap (p := v.plain) q1.hp_.ok xs
  rw [e, e3] at hh
  obtain ⟨s2, hK⟩ := s.did (k' := k) q3 hw (by have h1 : v'.h.last = v.h.last := hh.2; have := s.la; omega) hh.1
  exact ⟨rfl, _, v', s2, e3.symm, SideP.did hK⟩
theorem k_phold (s : PoolSt w W p hp S v k pages) (on : Bool) (p' : PoolV) (was : Bool) (e : pSweep { v.plain with held := on } = p') (hwas : v.held = was) :
    Calls Tryz.prog 54 #[.pointer (some ⟨p, 0, none⟩), .bool on] W fun e w' => e = .returned (.bool was) ∧ ∃ S' v', PoolSt w w' p hp S' v' k pages ∧ v'.plain = p' ∧ SideP S W S' w' := by
  obtain ⟨Sh, ap, g, mb, n, m, D, q1, q2, q3⟩ := s.pl
  have hpl := holdV_plain q2 (by rw [q1.ar.hlen]; exact q1.ar.small) on
  refine (code_phold q1 q2 on).mono ?_
  rintro e' w' ⟨rfl, S2, D2, r1, r2, r3, r4⟩
  have hsub : ∀ c ∈ (holdV v on).ks, c ∈ v.ks := fun c hc => by
    unfold holdV trimV at hc
    split at hc
    · exact hc
    · exact (List.mem_filter.1 hc).1
  have hw : Went W Sh p hp ap g mb n v.ks w' (holdV v on) := ⟨S2, m, D2, r1, r2, r3, fun b hb => by
    rcases hb with h | h | h | h | h | ⟨c, hc, e⟩
    · rcases r4 b h with h2 | h2
      · exact Or.inl (Or.inl h2)
      · exact Or.inr h2
    · exact Or.inl (Or.inr (Or.inl h))
    · exact Or.inl (Or.inr (Or.inr (Or.inl h)))
    · exact Or.inl (Or.inr (Or.inr (Or.inr (Or.inl h))))
    · exact Or.inl (Or.inr (Or.inr (Or.inr (Or.inr (Or.inl h)))))
    · exact Or.inl (Or.inr (Or.inr (Or.inr (Or.inr (Or.inr ⟨c, hsub c hc, e⟩)))))⟩
  have hh := pSweep_heap q1.hp_.ok v.plain.l on
  rw [show (⟨v.h, v.plain.l, on⟩ : PoolV) = { v.plain with held := on } from rfl, ← hpl] at hh
  obtain ⟨s2, hK⟩ := s.did (k' := k) q3 hw (by have h1 : (holdV v on).h.last = v.h.last := hh.2; have := s.la; omega) hh.1
  exact ⟨by rw [hwas], _, holdV v on, s2, by rw [hpl, e], SideP.did hK⟩
/-- The heap beneath it makes a span. -/
theorem k_pmake (s : PoolSt w W p hp S v k pages) (hk : k + 1 ≤ 1000000000) (kn o : Int) (h0 : in64 kn) (h1 : in64 o) (h' : HeapV) (s1 s2 s3 s4 no : Int) (e : hMake v.h kn o = (h', (s1, s2, s3, s4), no)) :
    Calls Tryz.prog 56 #[.pointer (some ⟨hp, 0, none⟩), .int .i64 kn, .int .i64 o] W fun e w' => e = .returned (.tuple #[.agg #[.int .i64 s1, .int .i64 s2, .int .i64 s3, .int .i64 s4], .int .i64 no]) ∧ ∃ S' v', PoolSt w w' p hp S' v' (k + 1) pages ∧ v'.plain = { v.plain with heap := h' } ∧ SideP S W S' w' := by
  obtain ⟨Sh, ap, g, mb, n, m, D, q1, q2, q3⟩ := s.pl
  have hm := hMake_ok q1.hp_.ok kn o
  have hmm := hMake_moreP (h := v.h) kn o
  have hml := hMake_lastP (h := v.h) kn o
  have hl := s.la
  rw [e] at hm hmm hml
  simp only at hm hmm hml
  refine (code_hmake q1.hp_ kn o h0 h1 (by omega)).mono ?_
  rw [e]
  rintro e w' ⟨rfl, hp', hK⟩
  have hK2 : Kept (PlS Sh p ap g mb v.ks) W w' := ⟨hK.os, hK.tape, hK.output, hK.size, fun b hb hn => hK.block b hb (fun c => hn (Or.inl c))⟩
  have hw : Went W Sh p hp ap g mb n v.ks w' { v with h := h' } := by
    refine ⟨_, m, D, q1.heap_ hK hp', ⟨by have := q2.len; show (n : Int) = 64 * h'.pages; rw [hm.2.1]; exact this, q2.wide, fun c hc => hmm _ (q2.mem c hc), q2.four, q2.lst, q2.sub, q2.ids, by have := q2.cnt; show (m : Int) ≤ h'.last; omega⟩, hK2, fun b hb => ?_⟩
    rcases hb with h | h
    · rcases h.1 with h2 | h2
      · exact Or.inl (Or.inl h2)
      · exact Or.inr h2
    · exact Or.inl (Or.inr h)
  obtain ⟨s2', hK3⟩ := s.did (k' := k + 1) q3 hw (by show h'.last ≤ _; omega) hm.2.1
  exact ⟨rfl, _, { v with h := h' }, s2', rfl, SideP.did hK3⟩
end

end Go.Proofs.YtcgfmpegakpddaaGreat
