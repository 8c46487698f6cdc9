/- Layer 10's keeper as an object: its blocks, and what a call leaves of it. -/
import Derived.Test.YtonmkanppapjjaaGreatLargeHas
import Derived.Test.YtonmkanppapjjaaGreatHeapLaws0
namespace Go.Proofs.YtonmkanppapjjaaGreat
open Go.RowKit Go.Maps
set_option linter.unusedVariables false

structure KpAt (w : World) (Sh : Nat → Prop) (p hp : Nat) (K : Option Addr) (kc : Nat) (V : Option Addr) (vc : Nat) (v : LargeV) : Prop where
  c0 : w.cell? ⟨p, 0, none⟩ = some (.pointer (some ⟨hp, 0, none⟩))
  c1 : w.cell? ⟨p, 1, none⟩ = some (.slice K v.kept.length kc)
  c2 : w.cell? ⟨p, 2, none⟩ = some (.slice V v.waits.length vc)
  c3 : w.cell? ⟨p, 3, none⟩ = some (.bool v.held)
  fz : ∀ j, w.frozen? ⟨p, j, none⟩ = false
  k1 : w.ownsRow 0 50 4 (.slice K v.kept.length kc) v.kept.length (cellsAll scells v.kept)
  k2 : w.ownsRow 0 50 4 (.slice V v.waits.length vc) v.waits.length (cellsAll scells v.waits)
  hp_ : Hp w Sh hp v.h
  lk : v.kept.length ≤ 1024
  lv : v.waits.length ≤ 1024
  n1 : ¬ Sh p
  n2 : ∀ b, ab K = some b → b ≠ p ∧ ¬ Sh b
  n3 : ∀ b, ab V = some b → b ≠ p ∧ ¬ Sh b
  n4 : ∀ b, ab K = some b → ab V ≠ some b
/-- A keeper's blocks. -/
def KpS (Sh : Nat → Prop) (p : Nat) (K V : Option Addr) (b : Nat) : Prop := Sh b ∨ b = p ∨ ab K = some b ∨ ab V = some b
/-- What a call leaves. -/
def KWent (w : World) (S : Nat → Prop) (p hp : Nat) (w' : World) (v' : LargeV) : Prop := ∃ Sh K kc V vc, KpAt w' Sh p hp K kc V vc v' ∧ Kept S w w' ∧ ∀ b, KpS Sh p K V b → S b ∨ w.heap.size ≤ b

theorem HOk.len_le {h : HeapV} (k : HOk h) : h.l.length ≤ 1024 := by
  have h1 : (h.l.map (·.2.1)).Nodup := by
    refine List.pairwise_map.2 ((List.pairwise_map.1 k.ids).imp_of_mem fun {a b} ha hb hne => ?_)
    have h2 := k.side ha hb (fun e => hne (by rw [e]))
    have h3 := k.start ha
    have h4 := k.start hb
    omega
  have h2 := nodup_bound 1024 (h.l.map fun c => c.2.1 + 1) (List.pairwise_map.2 ((List.pairwise_map.1 h1).imp fun {a b} h e => h (by omega))) (fun x hx => by
    obtain ⟨c, hc, rfl⟩ := List.mem_map.1 hx
    have h3 := k.start hc
    have h4 := k.p1
    omega)
  rw [List.length_map] at h2
  exact h2
theorem sub_len {α : Type} : ∀ {l m : List α}, l.Nodup → (∀ x ∈ l, x ∈ m) → l.length ≤ m.length
  | [], _, _, _ => Nat.zero_le _
  | x :: l, m, hd, hm => by
    obtain ⟨a, b, rfl⟩ := List.append_of_mem (hm x (List.mem_cons_self ..))
    have hd2 := List.nodup_cons.1 hd
    have ih := sub_len (l := l) (m := a ++ b) hd2.2 fun y hy => by
      have h1 := hm y (List.mem_cons_of_mem _ hy)
      rcases List.mem_append.1 h1 with h | h
      · exact List.mem_append_left _ h
      · rcases List.mem_cons.1 h with rfl | h
        · exact absurd hy hd2.1
        · exact List.mem_append_right _ h
    rw [List.length_append] at ih
    simp only [List.length_cons, List.length_append]
    omega
theorem LOk.lens {v : LargeV} (o : LOk v) : v.kept.length + v.waits.length ≤ 1024 := by
  have h1 := sub_len o.nd (fun s hs => (o.mem s hs).1)
  rw [List.length_append] at h1
  exact Nat.le_trans h1 o.hok.len_le
theorem LOk.ids64 {v : LargeV} (o : LOk v) (hl : v.h.last ≤ 1000000000) {s : Spn} (hs : s ∈ v.h.l) : in64 s.1 ∧ in64 s.2.2.1 := by
  have h1 := o.hok.idr s hs
  have h2 := o.hok.start hs
  have h3 := o.hok.p1
  unfold in64
  omega
theorem Hp.lb {w : World} {S : Nat → Prop} {p : Nat} {h : HeapV} (k : Hp w S p h) : h.last ≤ 1000000000 := by
  obtain ⟨_, _, _, _, _, _, _, _, _, k, _⟩ := k
  exact k.lb

theorem own_block_lt {w : World} {base s n c : Nat} {A : Option Addr} {e : TypeId} {xs : List Value} (h : w.ownsRow base e s (.slice A n c) n xs) {b : Nat} (hb : ab A = some b) : b < w.heap.size := (h.lt b ((ab_eq A n c).trans hb)).2

section
variable {w w' w1 : World} {Sh : Nat → Prop} {p hp : Nat} {K V : Option Addr} {kc vc : Nat} {v : LargeV}
theorem KpAt.ltp (k : KpAt w Sh p hp K kc V vc v) : p < w.heap.size := lt_of_cell k.c0
theorem KpAt.lt (k : KpAt w Sh p hp K kc V vc v) : ∀ b, KpS Sh p K V b → b < w.heap.size := fun b hb => by
  rcases hb with h | rfl | h | h
  · exact k.hp_.lt b h
  · exact k.ltp
  · exact own_block_lt k.k1 h
  · exact own_block_lt k.k2 h
theorem KpAt.below (k : KpAt w Sh p hp K kc V vc v) (hb : Below w.heap.size w w') : KpAt w' Sh p hp K kc V vc v := by
  have hc : ∀ j, w'.cell? ⟨p, j, none⟩ = w.cell? ⟨p, j, none⟩ := fun j => hb.cell (p := ⟨p, j, none⟩) k.ltp
  exact ⟨(hc 0).trans k.c0, (hc 1).trans k.c1, (hc 2).trans k.c2, (hc 3).trans k.c3, fun j => (hb.frozen (p := ⟨p, j, none⟩) k.ltp).trans (k.fz j), own_below k.k1 hb, own_below k.k2 hb, k.hp_.below hb, k.lk, k.lv, k.n1, k.n2, k.n3, k.n4⟩
theorem KpAt.parts (k : KpAt w Sh p hp K kc V vc v) : PartsOf w (some ⟨p, 0, none⟩) (some ⟨hp, 0, none⟩) K kc V vc v.kept v.waits v.held :=
  ⟨fun W hb => by
    have k2 := k.below hb
    exact code_kparts p _ K _ kc V _ vc _ W k2.c0 k2.c1 k2.c2 k2.c3, RowOf.of_own scells_len k.k1 rfl, RowOf.of_own scells_len k.k2 rfl, k.lk, k.lv⟩
/-- What the heap does. -/
theorem KpAt.heap_ {h' : HeapV} (k : KpAt w Sh p hp K kc V vc v) (hh : Hp w' (more Sh w w') hp h') (hK : Kept Sh w w') : KpAt w' (more Sh w w') p hp K kc V vc { v with h := h' } ∧ ∀ b, KpS (more Sh w w') p K V b → KpS Sh p K V b ∨ w.heap.size ≤ b := by
  have hb := hK.block p k.ltp k.n1
  have hc : ∀ j, w'.cell? ⟨p, j, none⟩ = w.cell? ⟨p, j, none⟩ := fun j => World.cell?_of_block (w := w) (a := ⟨p, j, none⟩) hb
  have hn : ∀ b, b < w.heap.size → ¬ Sh b → ¬ more Sh w w' b := fun b hl h c => h (more_old hl c)
  refine ⟨⟨(hc 0).trans k.c0, (hc 1).trans k.c1, (hc 2).trans k.c2, (hc 3).trans k.c3, fun j => (World.frozen?_of_block (w := w) (a := ⟨p, j, none⟩) hb).trans (k.fz j), own_kept k.k1 hK (fun b e => (k.n2 b ((ab_eq K _ _).symm.trans e)).2), own_kept k.k2 hK (fun b e => (k.n3 b ((ab_eq V _ _).symm.trans e)).2), hh, k.lk, k.lv, hn p k.ltp k.n1, fun b e => ⟨(k.n2 b e).1, hn b (own_block_lt k.k1 e) (k.n2 b e).2⟩, fun b e => ⟨(k.n3 b e).1, hn b (own_block_lt k.k2 e) (k.n3 b e).2⟩, k.n4⟩, fun b hb => ?_⟩
  rcases hb with h | h | h | h
  · rcases h.1 with h | h
    · exact Or.inl (Or.inl h)
    · exact Or.inr h
  · exact Or.inl (Or.inr (Or.inl h))
  · exact Or.inl (Or.inr (Or.inr (Or.inl h)))
  · exact Or.inl (Or.inr (Or.inr (Or.inr h)))
theorem Hp.grownB {S : Nat → Prop} {q : Nat} {h : HeapV} {r : Option Nat} (k : Hp w S q h) (hg : w.grownBy w' r) (hn : ∀ b, r = some b → ¬ S b) : Hp w' S q h :=
  k.keep (S' := fun b => r = some b) ((Kept.refl _ w).grown hg fun b e => Or.inl e) fun b hS e => hn b e hS
theorem KpAt.cellsG (k : KpAt w Sh p hp K kc V vc v) {r : Option Nat} (hg : w.grownBy w' r) (hr : some p ≠ r) : (∀ j, w'.cell? ⟨p, j, none⟩ = w.cell? ⟨p, j, none⟩) ∧ ∀ j, w'.frozen? ⟨p, j, none⟩ = false := by
  have hb := hg.block p k.ltp hr
  exact ⟨fun j => World.cell?_of_block (w := w) (a := ⟨p, j, none⟩) hb, fun j => (World.frozen?_of_block (w := w) (a := ⟨p, j, none⟩) hb).trans (k.fz j)⟩
theorem own_setP {base s n : Nat} {e : TypeId} {u : Value} {xs : List Value} (h : w.ownsRow base e s u n xs) {q j : Nat} (hq : u.ownBlock ≠ some q) (x : Value) : (w.setCell ⟨q, j, none⟩ x).ownsRow base e s u n xs :=
  own_kept h ((Kept.refl (fun b => b = q) w).set (a := ⟨q, j, none⟩) (Or.inl rfl) x) fun k e h2 => hq (by rw [e]; exact congrArg some h2)
/-- Another row is kept. -/
theorem KpAt.kept_ {K' : Option Addr} {n' kc' : Nat} {l' : List Spn} (k : KpAt w Sh p hp K kc V vc v) (hg : w.grownBy w1 (ab K)) (ho : w1.ownsRow 0 50 4 (.slice K' n' kc') n' (cellsAll scells l')) (hat : ab K' = ab K ∨ ∀ b, ab K' = some b → w.heap.size ≤ b) (hl : l'.length = n') (h4 : n' ≤ 1024) :
    KpAt (w1.setCell ⟨p, 1, none⟩ (.slice K' n' kc')) Sh p hp K' kc' V vc { v with kept := l' } ∧ Kept (KpS Sh p K V) w (w1.setCell ⟨p, 1, none⟩ (.slice K' n' kc')) ∧ ∀ b, KpS Sh p K' V b → KpS Sh p K V b ∨ w.heap.size ≤ b := by
  have hpk : some p ≠ ab K := fun e => (k.n2 p e.symm).1 rfl
  have hpk' : ∀ b, ab K' = some b → b ≠ p ∧ ¬ Sh b := fun b e => by
    rcases hat with h | h
    · exact k.n2 b (h.symm.trans e)
    · have h1 := h b e
      exact ⟨fun c => by have := k.ltp; omega, fun c => by have := k.hp_.lt b c; omega⟩
  obtain ⟨hc, hf⟩ := k.cellsG hg hpk
  have ho' : ∀ j u, 1 ≠ j → (w1.setCell ⟨p, 1, none⟩ u).cell? ⟨p, j, none⟩ = w1.cell? ⟨p, j, none⟩ := fun j u hj => World.cell?_setCell_other _ _ _ _ (fun e => hj (by injection e))
  have h2 : w1.ownsRow 0 50 4 (.slice V v.waits.length vc) v.waits.length (cellsAll scells v.waits) := own_kept k.k2 ((Kept.refl (fun b => ab K = some b) w).grown hg fun b e => Or.inl e) fun b e e2 => k.n4 b e2 ((ab_eq V _ _).symm.trans e)
  have hh1 := k.hp_.grownB hg fun b e => (k.n2 b e).2
  have hh2 := hh1.keep (S' := fun b => b = p) ((Kept.refl (fun b => b = p) w1).set (a := ⟨p, 1, none⟩) (Or.inl rfl) (.slice K' n' kc')) fun b hS e => k.n1 (e ▸ hS)
  subst hl
  refine ⟨⟨(ho' 0 _ (by decide)).trans ((hc 0).trans k.c0), World.cell?_setCell_same _ _ _ ((hc 1).trans k.c1), (ho' 2 _ (by decide)).trans ((hc 2).trans k.c2), (ho' 3 _ (by decide)).trans ((hc 3).trans k.c3), fun j => (World.frozen?_setCell _ _ _ _).trans (hf j), own_setP ho (fun e => (hpk' p ((ab_eq K' _ _).symm.trans e)).1 rfl) _, own_setP h2 (fun e => (k.n3 p ((ab_eq V _ _).symm.trans e)).1 rfl) _, hh2, h4, k.lv, k.n1, hpk', k.n3, fun b e e2 => ?_⟩, ((Kept.refl (KpS Sh p K V) w).grown hg fun b e => Or.inl (Or.inr (Or.inr (Or.inl e)))).set (a := ⟨p, 1, none⟩) (Or.inl (Or.inr (Or.inl rfl))) _, fun b hb => ?_⟩
  · rcases hat with h | h
    · exact k.n4 b (h.symm.trans e) e2
    · have := h b e
      have := own_block_lt k.k2 e2
      omega
  · rcases hb with h | h | h | h
    · exact Or.inl (Or.inl h)
    · exact Or.inl (Or.inr (Or.inl h))
    · rcases hat with h1 | h1
      · exact Or.inl (Or.inr (Or.inr (Or.inl (h1.symm.trans h))))
      · exact Or.inr (h1 b h)
    · exact Or.inl (Or.inr (Or.inr (Or.inr h)))
theorem KpAt.waits_ {V' : Option Addr} {n' vc' : Nat} {l' : List Spn} (k : KpAt w Sh p hp K kc V vc v) (hg : w.grownBy w1 (ab V)) (ho : w1.ownsRow 0 50 4 (.slice V' n' vc') n' (cellsAll scells l')) (hat : ab V' = ab V ∨ ∀ b, ab V' = some b → w.heap.size ≤ b) (hl : l'.length = n') (h4 : n' ≤ 1024) :
    KpAt (w1.setCell ⟨p, 2, none⟩ (.slice V' n' vc')) Sh p hp K kc V' vc' { v with waits := l' } ∧ Kept (KpS Sh p K V) w (w1.setCell ⟨p, 2, none⟩ (.slice V' n' vc')) ∧ ∀ b, KpS Sh p K V' b → KpS Sh p K V b ∨ w.heap.size ≤ b := by
  have hpk : some p ≠ ab V := fun e => (k.n3 p e.symm).1 rfl
  have hpk' : ∀ b, ab V' = some b → b ≠ p ∧ ¬ Sh b := fun b e => by
    rcases hat with h | h
    · exact k.n3 b (h.symm.trans e)
    · have h1 := h b e
      exact ⟨fun c => by have := k.ltp; omega, fun c => by have := k.hp_.lt b c; omega⟩
  obtain ⟨hc, hf⟩ := k.cellsG hg hpk
  have ho' : ∀ j u, 2 ≠ j → (w1.setCell ⟨p, 2, none⟩ u).cell? ⟨p, j, none⟩ = w1.cell? ⟨p, j, none⟩ := fun j u hj => World.cell?_setCell_other _ _ _ _ (fun e => hj (by injection e))
  have h2 : w1.ownsRow 0 50 4 (.slice K v.kept.length kc) v.kept.length (cellsAll scells v.kept) := own_kept k.k1 ((Kept.refl (fun b => ab V = some b) w).grown hg fun b e => Or.inl e) fun b e e2 => k.n4 b ((ab_eq K _ _).symm.trans e) e2
  have hh1 := k.hp_.grownB hg fun b e => (k.n3 b e).2
  have hh2 := hh1.keep (S' := fun b => b = p) ((Kept.refl (fun b => b = p) w1).set (a := ⟨p, 2, none⟩) (Or.inl rfl) (.slice V' n' vc')) fun b hS e => k.n1 (e ▸ hS)
  subst hl
  refine ⟨⟨(ho' 0 _ (by decide)).trans ((hc 0).trans k.c0), (ho' 1 _ (by decide)).trans ((hc 1).trans k.c1), World.cell?_setCell_same _ _ _ ((hc 2).trans k.c2), (ho' 3 _ (by decide)).trans ((hc 3).trans k.c3), fun j => (World.frozen?_setCell _ _ _ _).trans (hf j), own_setP h2 (fun e => (k.n2 p ((ab_eq K _ _).symm.trans e)).1 rfl) _, own_setP ho (fun e => (hpk' p ((ab_eq V' _ _).symm.trans e)).1 rfl) _, hh2, k.lk, h4, k.n1, k.n2, hpk', fun b e e2 => ?_⟩, ((Kept.refl (KpS Sh p K V) w).grown hg fun b e => Or.inl (Or.inr (Or.inr (Or.inr e)))).set (a := ⟨p, 2, none⟩) (Or.inl (Or.inr (Or.inl rfl))) _, fun b hb => ?_⟩
  · rcases hat with h | h
    · exact k.n4 b e (h.symm.trans e2)
    · have := h b e2
      have := own_block_lt k.k1 e
      omega
  · rcases hb with h | h | h | h
    · exact Or.inl (Or.inl h)
    · exact Or.inl (Or.inr (Or.inl h))
    · exact Or.inl (Or.inr (Or.inr (Or.inl h)))
    · rcases hat with h1 | h1
      · exact Or.inl (Or.inr (Or.inr (Or.inr (h1.symm.trans h))))
      · exact Or.inr (h1 b h)
theorem KpAt.held_ (k : KpAt w Sh p hp K kc V vc v) (on : Bool) : KpAt (w.setCell ⟨p, 3, none⟩ (.bool on)) Sh p hp K kc V vc { v with held := on } ∧ Kept (KpS Sh p K V) w (w.setCell ⟨p, 3, none⟩ (.bool on)) := by
  have ho' : ∀ j u, 3 ≠ j → (w.setCell ⟨p, 3, none⟩ u).cell? ⟨p, j, none⟩ = w.cell? ⟨p, j, none⟩ := fun j u hj => World.cell?_setCell_other _ _ _ _ (fun e => hj (by injection e))
  have hh2 := k.hp_.keep (S' := fun b => b = p) ((Kept.refl (fun b => b = p) w).set (a := ⟨p, 3, none⟩) (Or.inl rfl) (.bool on)) fun b hS e => k.n1 (e ▸ hS)
  exact ⟨⟨(ho' 0 _ (by decide)).trans k.c0, (ho' 1 _ (by decide)).trans k.c1, (ho' 2 _ (by decide)).trans k.c2, World.cell?_setCell_same _ _ _ k.c3, fun j => (World.frozen?_setCell _ _ _ _).trans (k.fz j), own_setP k.k1 (fun e => (k.n2 p ((ab_eq K _ _).symm.trans e)).1 rfl) _, own_setP k.k2 (fun e => (k.n3 p ((ab_eq V _ _).symm.trans e)).1 rfl) _, hh2, k.lk, k.lv, k.n1, k.n2, k.n3, k.n4⟩, (Kept.refl (KpS Sh p K V) w).set (a := ⟨p, 3, none⟩) (Or.inl (Or.inr (Or.inl rfl))) _⟩

theorem KpAt.went (k : KpAt w Sh p hp K kc V vc v) {S : Nat → Prop} {w0 : World} (hK : Kept S w0 w) (hS : ∀ b, KpS Sh p K V b → S b ∨ w0.heap.size ≤ b) : KWent w0 S p hp w v := ⟨Sh, K, kc, V, vc, k, hK, hS⟩
theorem KpAt.stay (k : KpAt w Sh p hp K kc V vc v) (hb : Below w.heap.size w w') : KWent w (KpS Sh p K V) p hp w' v := (k.below hb).went (Kept.of_below hb _) fun b h => Or.inl h
/-- One call behind another. -/
theorem KWent.trans {S S1 : Nat → Prop} {w2 : World} {v2 : LargeV} (hK : Kept S w w1) (hS : ∀ b, S1 b → S b ∨ w.heap.size ≤ b) (h : KWent w1 S1 p hp w2 v2) : KWent w S p hp w2 v2 := by
  obtain ⟨Sh, K, kc, V, vc, k, h1, h2⟩ := h
  refine ⟨Sh, K, kc, V, vc, k, hK.trans h1 (fun b hb hs => ?_), fun b hb => ?_⟩
  · rcases hS b hs with h | h
    · exact h
    · omega
  · rcases h2 b hb with h | h
    · exact hS b h
    · exact Or.inr (Nat.le_trans hK.size h)
end

end Go.Proofs.YtonmkanppapjjaaGreat
