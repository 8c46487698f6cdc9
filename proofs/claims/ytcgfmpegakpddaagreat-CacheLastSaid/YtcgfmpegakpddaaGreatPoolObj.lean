/- A pool in memory, whole: its cell, its heap, its arena, its map, and its cut spans; what keeps it, and what turns a part of it. -/
import Derived.Test.YtcgfmpegakpddaaGreatPoolDel
namespace Go.Proofs.YtcgfmpegakpddaaGreat
open Go.RowKit Go.Maps
set_option linter.unusedVariables false

/-- What a pool tells. -/
structure PoolW where
  h : HeapV
  ws : List Nat
  held : Bool
  ks : List CutV
def PoolW.plain (v : PoolW) : PoolV := ⟨v.h, v.ks.map CutV.plain, v.held⟩

structure PlAt (w : World) (Sh : Nat → Prop) (p hp ap g mb n m : Nat) (D : DataW Unit) (v : PoolW) : Prop where
  c0 : w.cell? ⟨p, 0, none⟩ = some (.pointer (some ⟨hp, 0, none⟩))
  c1 : w.cell? ⟨p, 1, none⟩ = some (.pointer (some ⟨ap, 0, none⟩))
  c2 : w.cell? ⟨p, 2, none⟩ = some (.map (some mb))
  c3 : w.cell? ⟨p, 3, none⟩ = some (.bool v.held)
  fz : ∀ j, w.frozen? ⟨p, j, none⟩ = false
  mp : w.ownsMap Tryz.prog 3 ptrR mb m D
  mis : PIs D v.ks
  hp_ : Hp w Sh hp v.h
  ar : Ar w 0 ap g n v.ws
  cuts : ∀ k ∈ v.ks, CutAt w k
  ne : p ≠ ap ∧ p ≠ g ∧ p ≠ mb ∧ ap ≠ mb ∧ g ≠ mb
  nk : ∀ k ∈ v.ks, k.b ≠ p ∧ k.b ≠ ap ∧ k.b ≠ g ∧ k.b ≠ mb ∧ ¬ Sh k.b
  nh : ¬ Sh p ∧ ¬ Sh ap ∧ ¬ Sh g ∧ ¬ Sh mb
  nd : (v.ks.map (·.b)).Nodup
/-- .. and what holds of it. -/
structure PlOk (n m : Nat) (v : PoolW) : Prop where
  len : (n : Int) = 64 * v.h.pages
  wide : Wide v.ws
  mem : ∀ k ∈ v.ks, k.s ∈ v.h.l
  four : ∀ k ∈ v.ks, k.s.2.2.1 = 4 ∧ 0 ≤ k.s.2.2.2 ∧ k.s.2.2.2 ≤ 3
  lst : ∀ k ∈ v.ks, cList v.ws k.c = some k.l
  sub : ∀ k ∈ v.ks, ∀ x ∈ k.l, x ∈ pBlocks k.s
  ids : (v.ks.map (·.s.1)).Nodup
  cnt : (m : Int) ≤ v.h.last
/-- A pool's blocks. -/
def PlS (Sh : Nat → Prop) (p ap g mb : Nat) (ks : List CutV) (b : Nat) : Prop := Sh b ∨ b = p ∨ b = ap ∨ b = g ∨ b = mb ∨ ∃ k ∈ ks, k.b = b
/-- A pool, whose blocks are of S. -/
def Pl (w : World) (S Sh : Nat → Prop) (p hp : Nat) (v : PoolW) : Prop :=
  ∃ ap g mb n m D, PlAt w Sh p hp ap g mb n m D v ∧ PlOk n m v ∧ (∀ b, PlS Sh p ap g mb v.ks b → S b) ∧ ∀ b, S b → b < w.heap.size

section
variable {w w' : World} {S S' Sh : Nat → Prop} {p hp ap g mb n m : Nat} {D : DataW Unit} {v : PoolW}
theorem PlAt.ltp (k : PlAt w Sh p hp ap g mb n m D v) : p < w.heap.size := lt_of_cell k.c0
theorem PlAt.lt (k : PlAt w Sh p hp ap g mb n m D v) : ∀ b, PlS Sh p ap g mb v.ks b → b < w.heap.size := fun b hb => by
  rcases hb with h | rfl | rfl | rfl | rfl | ⟨c, hc, rfl⟩
  · exact k.hp_.lt b h
  · exact k.ltp
  · exact k.ar.ltp
  · exact k.ar.lt
  · exact k.mp.lt
  · exact (k.cuts c hc).lt
/-- Its cell is as it was. -/
theorem PlAt.cell_ (k : PlAt w Sh p hp ap g mb n m D v) (hb : w'.heap[p]? = w.heap[p]?) : w'.cell? ⟨p, 0, none⟩ = some (.pointer (some ⟨hp, 0, none⟩)) ∧ w'.cell? ⟨p, 1, none⟩ = some (.pointer (some ⟨ap, 0, none⟩)) ∧ w'.cell? ⟨p, 2, none⟩ = some (.map (some mb)) ∧ w'.cell? ⟨p, 3, none⟩ = some (.bool v.held) ∧ ∀ j, w'.frozen? ⟨p, j, none⟩ = false := by
  have hc : ∀ j, w'.cell? ⟨p, j, none⟩ = w.cell? ⟨p, j, none⟩ := fun j => World.cell?_of_block (w := w) (a := ⟨p, j, none⟩) hb
  exact ⟨(hc 0).trans k.c0, (hc 1).trans k.c1, (hc 2).trans k.c2, (hc 3).trans k.c3, fun j => (World.frozen?_of_block (w := w) (a := ⟨p, j, none⟩) hb).trans (k.fz j)⟩
theorem Ar.keepB {xs : List Nat} (h : Ar w 0 ap g n xs) (h1 : w'.heap[ap]? = w.heap[ap]?) (h2 : w'.heap[g]? = w.heap[g]?) : Ar w' 0 ap g n xs :=
  ⟨(World.cell?_of_block (w := w) (a := ⟨ap, 0, none⟩) h1).trans h.cell, h2.trans h.heap, h.hlen, h.ge, h.geg, h.ne, h.small⟩
theorem PlAt.keep (k : PlAt w Sh p hp ap g mb n m D v) (hk : Kept S' w w') (hn : ∀ b, PlS Sh p ap g mb v.ks b → ¬ S' b) : PlAt w' Sh p hp ap g mb n m D v := by
  have hb : ∀ b, PlS Sh p ap g mb v.ks b → w'.heap[b]? = w.heap[b]? := fun b h => hk.block b (k.lt b h) (hn b h)
  obtain ⟨d0, d1, d2, d3, d4⟩ := k.cell_ (hb p (Or.inr (Or.inl rfl)))
  exact ⟨d0, d1, d2, d3, d4, ownsMap_block k.mp (hb mb (by unfold PlS; simp)), k.mis, k.hp_.keep hk (fun b h => hn b (Or.inl h)), k.ar.keepB (hb ap (by unfold PlS; simp)) (hb g (by unfold PlS; simp)),
    fun c hc => (k.cuts c hc).keep (hb c.b (by unfold PlS; exact Or.inr (Or.inr (Or.inr (Or.inr (Or.inr ⟨c, hc, rfl⟩)))))), k.ne, k.nk, k.nh, k.nd⟩
theorem PlAt.below (k : PlAt w Sh p hp ap g mb n m D v) (hb : Below w.heap.size w w') : PlAt w' Sh p hp ap g mb n m D v := k.keep (Kept.of_below hb (fun _ => False)) (fun _ _ => id)
theorem Pl.keep (k : Pl w S Sh p hp v) (hk : Kept S' w w') (hn : ∀ b, S b → ¬ S' b) : Pl w' S Sh p hp v := by
  obtain ⟨ap, g, mb, n, m, D, k1, k2, k3, k4⟩ := k
  exact ⟨ap, g, mb, n, m, D, k1.keep hk (fun b hb => hn b (k3 b hb)), k2, k3, fun b hb => Nat.lt_of_lt_of_le (k4 b hb) hk.size⟩
theorem Pl.below (k : Pl w S Sh p hp v) (hb : Below w.heap.size w w') : Pl w' S Sh p hp v := k.keep (Kept.of_below hb (fun _ => False)) (fun _ _ => id)
theorem Pl.lt (k : Pl w S Sh p hp v) : ∀ b, S b → b < w.heap.size := by obtain ⟨_, _, _, _, _, _, _, _, _, k⟩ := k; exact k
/-- Other words. -/
theorem PlAt.words (k : PlAt w Sh p hp ap g mb n m D v) {ws' : List Nat} (hg : w.grownBy w' (some g)) (ha : Ar w' 0 ap g n ws') : PlAt w' Sh p hp ap g mb n m D { v with ws := ws' } := by
  have hb : ∀ b, PlS Sh p ap g mb v.ks b → b ≠ g → w'.heap[b]? = w.heap[b]? := fun b h hne => hg.block b (k.lt b h) (fun e => hne (by injection e))
  obtain ⟨n1, n2, n3, n4, n5⟩ := k.ne
  obtain ⟨d0, d1, d2, d3, d4⟩ := k.cell_ (hb p (Or.inr (Or.inl rfl)) n2)
  refine ⟨d0, d1, d2, d3, d4, ownsMap_block k.mp (hb mb (by unfold PlS; simp) (Ne.symm n5)), k.mis, ?_, ha, fun c hc => (k.cuts c hc).keep (hb c.b (by unfold PlS; exact Or.inr (Or.inr (Or.inr (Or.inr (Or.inr ⟨c, hc, rfl⟩))))) (k.nk c hc).2.2.1), k.ne, k.nk, k.nh, k.nd⟩
  exact k.hp_.keep (S' := fun b => b = g) ((Kept.refl _ w).grown hg (fun b e => by injection e with e; exact Or.inl e.symm)) (fun b hb e => k.nh.2.2.1 (e ▸ hb))
/-- Another heap. -/
theorem PlAt.heap_ (k : PlAt w Sh p hp ap g mb n m D v) {h' : HeapV} (hK : Kept Sh w w') (hh : Hp w' (more Sh w w') hp h') : PlAt w' (more Sh w w') p hp ap g mb n m D { v with h := h' } := by
  obtain ⟨q1, q2, q3, q4⟩ := k.nh
  have hb : ∀ b, PlS Sh p ap g mb v.ks b → ¬ Sh b → w'.heap[b]? = w.heap[b]? := fun b h hne => hK.block b (k.lt b h) hne
  have hm : ∀ b, PlS Sh p ap g mb v.ks b → ¬ Sh b → ¬ more Sh w w' b := fun b h hne c => hne (more_old (k.lt b h) c)
  obtain ⟨d0, d1, d2, d3, d4⟩ := k.cell_ (hb p (Or.inr (Or.inl rfl)) q1)
  refine ⟨d0, d1, d2, d3, d4, ownsMap_block k.mp (hb mb (by unfold PlS; simp) q4), k.mis, hh, k.ar.keepB (hb ap (by unfold PlS; simp) q2) (hb g (by unfold PlS; simp) q3),
    fun c hc => (k.cuts c hc).keep (hb c.b (by unfold PlS; exact Or.inr (Or.inr (Or.inr (Or.inr (Or.inr ⟨c, hc, rfl⟩))))) (k.nk c hc).2.2.2.2), k.ne, fun c hc => ?_, ⟨hm p (by unfold PlS; simp) q1, hm ap (by unfold PlS; simp) q2, hm g (by unfold PlS; simp) q3, hm mb (by unfold PlS; simp) q4⟩, k.nd⟩
  obtain ⟨r1, r2, r3, r4, r5⟩ := k.nk c hc
  exact ⟨r1, r2, r3, r4, hm c.b (by unfold PlS; exact Or.inr (Or.inr (Or.inr (Or.inr (Or.inr ⟨c, hc, rfl⟩))))) r5⟩
/-- Held, or not. -/
theorem PlAt.hold (k : PlAt w Sh p hp ap g mb n m D v) (on : Bool) : PlAt (w.setCell ⟨p, 3, none⟩ (.bool on)) Sh p hp ap g mb n m D { v with held := on } := by
  have hb : ∀ b, b ≠ p → (w.setCell ⟨p, 3, none⟩ (.bool on)).heap[b]? = w.heap[b]? := fun b h => heap_setCell_other w ⟨p, 3, none⟩ b _ h
  have o : ∀ j, j ≠ 3 → (w.setCell ⟨p, 3, none⟩ (.bool on)).cell? ⟨p, j, none⟩ = w.cell? ⟨p, j, none⟩ := fun j h => World.cell?_setCell_other w _ _ _ (fun e => h (by injection e with _ e2; exact e2.symm))
  obtain ⟨n1, n2, n3, n4, n5⟩ := k.ne
  refine ⟨(o 0 (by decide)).trans k.c0, (o 1 (by decide)).trans k.c1, (o 2 (by decide)).trans k.c2, World.cell?_setCell_same w _ _ k.c3, fun j => by rw [World.frozen?_setCell]; exact k.fz j, ownsMap_block k.mp (hb mb (Ne.symm n3)), k.mis, ?_, k.ar.keepB (hb ap (Ne.symm n1)) (hb g (Ne.symm n2)),
    fun c hc => (k.cuts c hc).keep (hb c.b (k.nk c hc).1), k.ne, k.nk, k.nh, k.nd⟩
  exact k.hp_.keep (S' := fun b => b = p) ((Kept.refl (fun b => b = p) w).set (a := ⟨p, 3, none⟩) (Or.inl rfl) _) (fun b hb e => k.nh.1 (e ▸ hb))
/-- Another map. -/
theorem PlAt.map_ (k : PlAt w Sh p hp ap g mb n m D v) {m' : Nat} {D' : DataW Unit} {ks' : List CutV} (hg : w.grownBy w' (some mb)) (hm : w'.ownsMap Tryz.prog 3 ptrR mb m' D') (hi : PIs D' ks') (hc : ∀ c ∈ ks', CutAt w c ∧ c.b ≠ p ∧ c.b ≠ ap ∧ c.b ≠ g ∧ c.b ≠ mb ∧ ¬ Sh c.b) (hd : (ks'.map (·.b)).Nodup) : PlAt w' Sh p hp ap g mb n m' D' { v with ks := ks' } := by
  have hb : ∀ b, b < w.heap.size → b ≠ mb → w'.heap[b]? = w.heap[b]? := fun b h hne => hg.block b h (fun e => hne (by injection e))
  obtain ⟨n1, n2, n3, n4, n5⟩ := k.ne
  obtain ⟨d0, d1, d2, d3, d4⟩ := k.cell_ (hb p k.ltp n3)
  refine ⟨d0, d1, d2, d3, d4, hm, hi, ?_, k.ar.keepB (hb ap k.ar.ltp n4) (hb g k.ar.lt n5), fun c h => (hc c h).1.keep (hb c.b (hc c h).1.lt (hc c h).2.2.2.2.1), k.ne, fun c h => (hc c h).2, k.nh, hd⟩
  exact k.hp_.keep (S' := fun b => b = mb) ((Kept.refl _ w).grown hg (fun b e => by injection e with e; exact Or.inl e.symm)) (fun b hb e => k.nh.2.2.2 (e ▸ hb))
/-- Another chain of one cut span. -/
def setC (ks : List CutV) (i : Nat) (k : CutV) (c : Int × Int) (l : List Int) : List CutV := ks.set i { k with c := c, l := l }
theorem setC_mem {ks : List CutV} {i : Nat} {k : CutV} {c : Int × Int} {l : List Int} (hi : ks[i]? = some k) {x : CutV} (hx : x ∈ setC ks i k c l) (hd : (ks.map (·.b)).Nodup) : x = { k with c := c, l := l } ∨ (x ∈ ks ∧ x.b ≠ k.b) := by
  obtain ⟨j, hj, e⟩ := List.mem_iff_getElem.1 hx
  unfold setC at hj e
  rw [List.length_set] at hj
  rw [List.getElem_set] at e
  by_cases h : i = j
  · rw [if_pos h] at e; exact Or.inl e.symm
  · rw [if_neg h] at e
    subst e
    refine Or.inr ⟨List.getElem_mem _, fun e => h ?_⟩
    obtain ⟨hi2, e2⟩ := List.getElem?_eq_some_iff.1 hi
    have := List.pairwise_iff_getElem.1 hd
    have e3 : ks[i].b = k.b := by rw [e2]
    rcases Nat.lt_or_ge i j with hlt | hge
    · exact absurd (by rw [List.getElem_map, List.getElem_map, e3, e]) (this i j (by simpa using hi2) (by simpa using hj) hlt)
    · exact absurd (by rw [List.getElem_map, List.getElem_map, e3, e]) (this j i (by simpa using hj) (by simpa using hi2) (by omega))
theorem setC_map {α : Type} (f : CutV → α) (hf : ∀ (k : CutV) c l, f { k with c := c, l := l } = f k) {ks : List CutV} {i : Nat} {k : CutV} {c : Int × Int} {l : List Int} (hi : ks[i]? = some k) : (setC ks i k c l).map f = ks.map f := by
  unfold setC
  rw [List.map_set, hf]
  apply List.ext_getElem?
  intro j
  rw [List.getElem?_set]
  by_cases h : i = j
  · subst h
    obtain ⟨h1, _⟩ := List.getElem?_eq_some_iff.1 hi
    rw [if_pos rfl, if_pos (by simpa using h1), List.getElem?_map, hi]; rfl
  · rw [if_neg h]
theorem PlAt.chain (k : PlAt w Sh p hp ap g mb n m D v) {i : Nat} {c : CutV} (hi : v.ks[i]? = some c) (h' l' : Int) (l : List Int) : PlAt ((w.setCell ⟨c.b, 4, none⟩ (.int .i64 h')).setCell ⟨c.b, 5, none⟩ (.int .i64 l')) Sh p hp ap g mb n m D { v with ks := setC v.ks i c (h', l') l } := by
  have hcm := List.mem_of_getElem? hi
  obtain ⟨r1, r2, r3, r4, r5⟩ := k.nk c hcm
  have hc := k.cuts c hcm
  have hb : ∀ b, b ≠ c.b → ((w.setCell ⟨c.b, 4, none⟩ (.int .i64 h')).setCell ⟨c.b, 5, none⟩ (.int .i64 l')).heap[b]? = w.heap[b]? := fun b h => (heap_setCell_other _ ⟨c.b, 5, none⟩ b _ h).trans (heap_setCell_other w ⟨c.b, 4, none⟩ b _ h)
  obtain ⟨n1, n2, n3, n4, n5⟩ := k.ne
  obtain ⟨d0, d1, d2, d3, d4⟩ := k.cell_ (hb p (Ne.symm r1))
  have q : ∀ (X : World) (i j : Nat) (u : Value), i ≠ j → (X.setCell ⟨c.b, i, none⟩ u).cell? ⟨c.b, j, none⟩ = X.cell? ⟨c.b, j, none⟩ := fun X i j u h => World.cell?_setCell_other X _ _ _ (fun e => h (by injection e))
  have hnew : CutAt ((w.setCell ⟨c.b, 4, none⟩ (.int .i64 h')).setCell ⟨c.b, 5, none⟩ (.int .i64 l')) { c with c := (h', l'), l := l } := by
    refine ⟨?_, ?_, ?_, ?_, ?_, ?_, fun j => by rw [World.frozen?_setCell, World.frozen?_setCell]; exact hc.fz j⟩
    · show World.cell? _ ⟨c.b, 0, none⟩ = _; rw [q _ 5 0 _ (by decide), q _ 4 0 _ (by decide)]; exact hc.c0
    · show World.cell? _ ⟨c.b, 1, none⟩ = _; rw [q _ 5 1 _ (by decide), q _ 4 1 _ (by decide)]; exact hc.c1
    · show World.cell? _ ⟨c.b, 2, none⟩ = _; rw [q _ 5 2 _ (by decide), q _ 4 2 _ (by decide)]; exact hc.c2
    · show World.cell? _ ⟨c.b, 3, none⟩ = _; rw [q _ 5 3 _ (by decide), q _ 4 3 _ (by decide)]; exact hc.c3
    · show World.cell? _ ⟨c.b, 4, none⟩ = _; rw [q _ 5 4 _ (by decide)]; exact World.cell?_setCell_same w _ _ hc.c4
    · show World.cell? _ ⟨c.b, 5, none⟩ = _; exact World.cell?_setCell_same _ _ _ (by rw [q _ 4 5 _ (by decide)]; exact hc.c5)
  refine ⟨d0, d1, d2, d3, d4, ownsMap_block k.mp (hb mb (Ne.symm r4)), k.mis.same (setC_map (fun k => (k.s.1, k.b)) (fun _ _ _ => rfl) hi), ?_, k.ar.keepB (hb ap (Ne.symm r2)) (hb g (Ne.symm r3)), fun x hx => ?_, k.ne, fun x hx => ?_, k.nh, ?_⟩
  · exact k.hp_.keep (S' := fun b => b = c.b) (((Kept.refl (fun b => b = c.b) w).set (a := ⟨c.b, 4, none⟩) (Or.inl rfl) _).set (a := ⟨c.b, 5, none⟩) (Or.inl rfl) _) (fun b hb e => r5 (e ▸ hb))
  · rcases setC_mem hi hx k.nd with rfl | ⟨h1, h2⟩
    · exact hnew
    · exact (k.cuts x h1).keep (hb x.b h2)
  · rcases setC_mem hi hx k.nd with rfl | ⟨h1, h2⟩
    · exact ⟨r1, r2, r3, r4, r5⟩
    · exact k.nk x h1
  · show ((setC v.ks i c (h', l') l).map (·.b)).Nodup
    rw [setC_map (·.b) (fun _ _ _ => rfl) hi]; exact k.nd
end

/-- parts: a pool's four cells. -/
theorem code_pparts (p : Nat) (hp ap : Option Addr) (mb : Option Nat) (held : Bool) (w : World) (h0 : w.cell? ⟨p, 0, none⟩ = some (.pointer hp)) (h1 : w.cell? ⟨p, 1, none⟩ = some (.pointer ap)) (h2 : w.cell? ⟨p, 2, none⟩ = some (.map mb)) (h3 : w.cell? ⟨p, 3, none⟩ = some (.bool held)) :
    Calls Tryz.prog 112 #[.pointer (some ⟨p, 0, none⟩)] w fun e w' => e = .returned (.agg #[.pointer hp, .pointer ap, .map mb, .bool held]) ∧ Below w.heap.size w w' := by
  replace h0 := alloc_old (.cells #[.pointer none, .pointer none, .map none, .bool false] 119) h0
  replace h1 := alloc_old (.cells #[.pointer none, .pointer none, .map none, .bool false] 119) h1
  replace h2 := alloc_old (.cells #[.pointer none, .pointer none, .map none, .bool false] 119) h2
  replace h3 := alloc_old (.cells #[.pointer none, .pointer none, .map none, .bool false] 119) h3
  go_enter Tryz.func112, Tryz.ntmps112
  go_wp2
  refine bodyPost_ret (v := .agg #[.pointer hp, .pointer ap, .map mb, .bool held]) (by simp [results, Tryz.results112, go_sem]) rfl ?_
  exact ⟨rfl, (Below.refl _ _).alloc (Nat.le_refl _) _⟩
/-- parts of a nil pool: none. -/
theorem code_pparts_nil (w : World) :
    Calls Tryz.prog 112 #[.pointer none] w fun e w' => e = .returned (.agg #[.pointer none, .pointer none, .map none, .bool false]) ∧ Below w.heap.size w w' := by
  go_enter Tryz.func112, Tryz.ntmps112
  go_wp2
  refine bodyPost_ret (v := .agg #[.pointer none, .pointer none, .map none, .bool false]) (by simp [results, Tryz.results112, go_sem]) rfl ?_
  exact ⟨rfl, (Below.refl _ _).alloc (Nat.le_refl _) _⟩
theorem pfield_hp (a b : Option Addr) (mb : Option Nat) (k : Bool) (w : World) : (Instr.field 119 (.agg #[.pointer a, .pointer b, .map mb, .bool k]) 0).run Tryz.prog w = .ok (.pointer a) w := by kernel_rfl
theorem pfield_mb (a b : Option Addr) (mb : Option Nat) (k : Bool) (w : World) : (Instr.field 119 (.agg #[.pointer a, .pointer b, .map mb, .bool k]) 2).run Tryz.prog w = .ok (.map mb) w := by kernel_rfl

end Go.Proofs.YtcgfmpegakpddaaGreat
