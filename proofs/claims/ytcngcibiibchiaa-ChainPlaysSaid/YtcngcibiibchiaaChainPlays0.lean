/- What the walk of layer 8's ChainPlays leans on: both sides in a round. -/
import Derived.Test.YtcngcibiibchiaaChainLast0
import Derived.Test.YtcngcibiibchiaaChainRights
import Derived.Test.YtcngcibiibchiaaChainPop
import Derived.Test.YtcngcibiibchiaaChainActs
namespace Go.Proofs.Ytcngcibiibchiaa
open Go.RowKit
set_option linter.unusedVariables false

/-- A block of two numbers that stands beside others. -/
structure Two (W : World) (b : Nat) (n : Int × Int) : Prop where
  c0 : W.cell? ⟨b, 0, none⟩ = some (.int .i64 n.1)
  c1 : W.cell? ⟨b, 1, none⟩ = some (.int .i64 n.2)
  cf : ∀ j, W.frozen? ⟨b, j, none⟩ = false
section
variable {W W' : World} {b g : Nat} {n : Int × Int}
theorem Two.step (k : Two W b n) (hg : W.grownBy W' (some g)) (h : b ≠ g) : Two W' b n := by
  have hq := hg.block b (lt_of_cell k.c0) (fun e => by injection e with e; exact h e)
  exact ⟨(World.cell?_of_block (w := W) (a := ⟨b, 0, none⟩) hq).trans k.c0, (World.cell?_of_block (w := W) (a := ⟨b, 1, none⟩) hq).trans k.c1, fun j => (World.frozen?_of_block (w := W) (a := ⟨b, j, none⟩) hq).trans (k.cf j)⟩
theorem Two.set_ (k : Two W b n) (h' l' : Int) : Two ((W.setCell ⟨b, 0, none⟩ (.int .i64 h')).setCell ⟨b, 1, none⟩ (.int .i64 l')) b (h', l') := by
  obtain ⟨s0, s1⟩ := two_cells8 W b (.int .i64 h') (.int .i64 l') _ _ k.c0 k.c1
  exact ⟨s0, s1, fun j => (two_frozen ..).trans (k.cf j)⟩
theorem Two.aside (k : Two W b n) {d : Nat} (h : d ≠ b) (u v : Value) : Two ((W.setCell ⟨d, 0, none⟩ u).setCell ⟨d, 1, none⟩ v) b n :=
  ⟨(two_aside _ _ _ h _ _ _).trans k.c0, (two_aside _ _ _ h _ _ _).trans k.c1, fun j => (two_frozen ..).trans (k.cf j)⟩
theorem Two.new (W : World) (a b : Int) (t : TypeId) : Two (W.alloc (.cells #[.int .i64 a, .int .i64 b] t)) W.heap.size (a, b) :=
  ⟨by rw [World.cell?_alloc_at _ _ _ _ rfl]; rfl, by rw [World.cell?_alloc_at _ _ _ _ rfl]; rfl, fun j => by rw [World.frozen?_alloc_at _ _ _ _ rfl]⟩
end
/-- The arena, the document's words, and the cells of c, next, own, and of the act. -/
structure P8 (w W : World) (p g cb nb ob xb : Nat) (A7 : Option Addr) (wr ws : List Nat) (c n o : Int × Int) (cs : List Value) : Prop where
  ar : Ar W w.heap.size p g 256 ws
  tc : Two W cb c
  tn : Two W nb n
  to : Two W ob o
  tx : ∀ (j : Nat) (v : Value), cs[j]? = some v → W.cell? ⟨xb, j, none⟩ = some v
  sl : Sl W W.heap.size A7 256 (wr.map wv)
  bel : Below w.heap.size w W
  ap : ∀ a, A7 = some a → a.block ≠ g ∧ a.block ≠ cb ∧ a.block ≠ nb ∧ a.block ≠ ob
  le : w.heap.size ≤ cb ∧ w.heap.size ≤ nb ∧ w.heap.size ≤ ob
  dc : cb ≠ g ∧ cb ≠ p ∧ cb ≠ nb ∧ cb ≠ ob ∧ cb ≠ xb
  dn : nb ≠ g ∧ nb ≠ p ∧ nb ≠ ob ∧ nb ≠ xb
  do_ : ob ≠ g ∧ ob ≠ p ∧ ob ≠ xb
  dx : xb ≠ g
section
variable {w W W' : World} {p g cb nb ob xb : Nat} {A7 A' : Option Addr} {wr ws wr' ws' : List Nat} {c n o : Int × Int} {cs : List Value}
theorem Sl.twoset (h : Sl W W.heap.size A7 256 (wr.map wv)) {b : Nat} (hb : ∀ a, A7 = some a → a.block ≠ b) (u v : Value) : Sl ((W.setCell ⟨b, 0, none⟩ u).setCell ⟨b, 1, none⟩ v) ((W.setCell ⟨b, 0, none⟩ u).setCell ⟨b, 1, none⟩ v).heap.size A7 256 (wr.map wv) := by
  have := h.two (fun a e _ => hb a e) u v
  exact this.more (by simp)
/-- The arena's words are written, and new blocks laid. -/
theorem P8.step (k : P8 w W p g cb nb ob xb A7 wr ws c n o cs) (hg : W.grownBy W' (some g)) (ha : Ar W' w.heap.size p g 256 ws') : P8 w W' p g cb nb ob xb A7 wr ws' c n o cs := by
  refine ⟨ha, k.tc.step hg k.dc.1, k.tn.step hg k.dn.1, k.to.step hg k.do_.1, fun j v h => ?_, (k.sl.beside hg (fun _ a e => (k.ap a e).1)).more hg.size, bel_ar k.bel hg k.ar.geg, k.ap, k.le, k.dc, k.dn, k.do_, k.dx⟩
  have h1 := k.tx j v h
  exact (World.cell?_of_block (w := W) (a := ⟨xb, j, none⟩) (hg.block xb (lt_of_cell h1) (fun e => by injection e with e; exact k.dx e))).trans h1
theorem P8.below (k : P8 w W p g cb nb ob xb A7 wr ws c n o cs) (hb : Below W.heap.size W W') : P8 w W' p g cb nb ob xb A7 wr ws c n o cs := k.step (below_to_grown hb _) (k.ar.below hb (Nat.le_refl _))
/-- Other words of the document's. -/
theorem P8.row (k : P8 w W p g cb nb ob xb A7 wr ws c n o cs) (hb : Below W.heap.size W W') (hs : Sl W' W'.heap.size A' 256 (wr'.map wv)) (hA : A' = A7 ∨ ∀ a, A' = some a → W.heap.size ≤ a.block) : P8 w W' p g cb nb ob xb A' wr' ws c n o cs := by
  have k2 := k.below hb
  refine ⟨k2.ar, k2.tc, k2.tn, k2.to, k2.tx, hs, k2.bel, ?_, k2.le, k2.dc, k2.dn, k2.do_, k2.dx⟩
  rcases hA with rfl | hA
  · exact k.ap
  · intro a e
    have h0 := hA a e
    have h1 := k.ar.lt
    have h2 := lt_of_cell k.tc.c0
    have h3 := lt_of_cell k.tn.c0
    have h4 := lt_of_cell k.to.c0
    simp only at h2 h3 h4
    omega
theorem P8.setN (k : P8 w W p g cb nb ob xb A7 wr ws c n o cs) (h' l' : Int) : P8 w ((W.setCell ⟨nb, 0, none⟩ (.int .i64 h')).setCell ⟨nb, 1, none⟩ (.int .i64 l')) p g cb nb ob xb A7 wr ws c (h', l') o cs := by
  refine ⟨(k.ar.setCell k.dn.2.1 k.dn.1 _).setCell k.dn.2.1 k.dn.1 _, k.tc.aside (fun e => k.dc.2.2.1 e.symm) _ _, k.tn.set_ _ _, k.to.aside k.dn.2.2.1 _ _, fun j v h => (two_aside _ _ _ k.dn.2.2.2 _ _ _).trans (k.tx j v h), k.sl.twoset (fun a e => (k.ap a e).2.2.1) _ _, (k.bel.setCell (p := ⟨nb, 0, none⟩) k.le.2.1 _).setCell (p := ⟨nb, 1, none⟩) k.le.2.1 _, k.ap, k.le, k.dc, k.dn, k.do_, k.dx⟩
theorem P8.setO (k : P8 w W p g cb nb ob xb A7 wr ws c n o cs) (h' l' : Int) : P8 w ((W.setCell ⟨ob, 0, none⟩ (.int .i64 h')).setCell ⟨ob, 1, none⟩ (.int .i64 l')) p g cb nb ob xb A7 wr ws c n (h', l') cs := by
  refine ⟨(k.ar.setCell k.do_.2.1 k.do_.1 _).setCell k.do_.2.1 k.do_.1 _, k.tc.aside (fun e => k.dc.2.2.2.1 e.symm) _ _, k.tn.aside (fun e => k.dn.2.2.1 e.symm) _ _, k.to.set_ _ _, fun j v h => (two_aside _ _ _ k.do_.2.2 _ _ _).trans (k.tx j v h), k.sl.twoset (fun a e => (k.ap a e).2.2.2) _ _, (k.bel.setCell (p := ⟨ob, 0, none⟩) k.le.2.2 _).setCell (p := ⟨ob, 1, none⟩) k.le.2.2 _, k.ap, k.le, k.dc, k.dn, k.do_, k.dx⟩
theorem P8.setC (k : P8 w W p g cb nb ob xb A7 wr ws c n o cs) (h' l' : Int) : P8 w ((W.setCell ⟨cb, 0, none⟩ (.int .i64 h')).setCell ⟨cb, 1, none⟩ (.int .i64 l')) p g cb nb ob xb A7 wr ws (h', l') n o cs := by
  refine ⟨(k.ar.setCell k.dc.2.1 k.dc.1 _).setCell k.dc.2.1 k.dc.1 _, k.tc.set_ _ _, k.tn.aside k.dc.2.2.1 _ _, k.to.aside k.dc.2.2.2.1 _ _, fun j v h => (two_aside _ _ _ k.dc.2.2.2.2 _ _ _).trans (k.tx j v h), k.sl.twoset (fun a e => (k.ap a e).2.1) _ _, (k.bel.setCell (p := ⟨cb, 0, none⟩) k.le.1 _).setCell (p := ⟨cb, 1, none⟩) k.le.1 _, k.ap, k.le, k.dc, k.dn, k.do_, k.dx⟩
theorem P8.facts (k : P8 w W p g cb nb ob xb A7 wr ws c n o cs) : W.cell? ⟨cb, 0, none⟩ = some (.int .i64 c.1) ∧ W.cell? ⟨cb, 1, none⟩ = some (.int .i64 c.2) ∧ W.frozen? ⟨cb, 0, none⟩ = false ∧ W.frozen? ⟨cb, 1, none⟩ = false ∧ W.cell? ⟨nb, 0, none⟩ = some (.int .i64 n.1) ∧ W.cell? ⟨nb, 1, none⟩ = some (.int .i64 n.2) ∧ W.frozen? ⟨nb, 0, none⟩ = false ∧ W.frozen? ⟨nb, 1, none⟩ = false ∧
    W.cell? ⟨ob, 0, none⟩ = some (.int .i64 o.1) ∧ W.cell? ⟨ob, 1, none⟩ = some (.int .i64 o.2) ∧ W.frozen? ⟨ob, 0, none⟩ = false ∧ W.frozen? ⟨ob, 1, none⟩ = false := ⟨k.tc.c0, k.tc.c1, k.tc.cf 0, k.tc.cf 1, k.tn.c0, k.tn.c1, k.tn.cf 0, k.tn.cf 1, k.to.c0, k.to.c1, k.to.cf 0, k.to.cf 1⟩
end
/-- Behind each round: the arena and the document's words are the same, c the chain. -/
structure R8 (w W : World) (p g cb : Nat) (A7 : Option Addr) (ws : List Nat) (c : Int × Int) : Prop where
  ar : Ar W w.heap.size p g 256 ws
  tc : Two W cb c
  sl : Sl W W.heap.size A7 256 (ws.map wv)
  bel : Below w.heap.size w W
  ap : ∀ a, A7 = some a → a.block ≠ g ∧ a.block ≠ cb
  le : w.heap.size ≤ cb
  dc : cb ≠ g ∧ cb ≠ p
  wd : Wide ws
  c1 : in64 c.1
  c2 : in64 c.2
section
variable {w W W' : World} {p g cb : Nat} {A7 : Option Addr} {ws : List Nat} {c : Int × Int}
theorem R8.start (k : R8 w W p g cb A7 ws c) (cs : List Value) (t t1 t2 : TypeId) : P8 w (((W.alloc (.cells cs.toArray t)).alloc (.cells #[.int .i64 c.1, .int .i64 c.2] t1)).alloc (.cells #[.int .i64 c.1, .int .i64 c.2] t2)) p g cb (W.heap.size + 1) (W.heap.size + 1 + 1) W.heap.size A7 ws ws c c c cs := by
  have hb : Below W.heap.size W (((W.alloc (.cells cs.toArray t)).alloc (.cells #[.int .i64 c.1, .int .i64 c.2] t1)).alloc (.cells #[.int .i64 c.1, .int .i64 c.2] t2)) := (((Below.refl _ _).alloc (Nat.le_refl _) _).alloc (by simp) _).alloc (by simp; omega) _
  have h1 := k.ar.lt
  have h2 := k.ar.ltp
  have h3 := lt_of_cell k.tc.c0
  have h4 := k.bel.size
  simp only at h3
  have hA : ∀ a, A7 = some a → a.block < W.heap.size := fun a e => by
    obtain ⟨b, off, e2, hb, _⟩ := k.sl.2 (by omega)
    rw [e] at e2
    obtain rfl := Option.some.inj e2
    exact hb
  refine ⟨k.ar.below hb (Nat.le_refl _), k.tc.step (below_to_grown hb (some g)) k.dc.1, ?_, ?_, fun j v h => ?_, (k.sl.below hb).more hb.size, k.bel.trans (hb.mono h4), fun a e => ?_, by have := k.le; omega, by have := k.dc; omega, by omega, by omega, by omega⟩
  · have := (Two.new (W.alloc (.cells cs.toArray t)) c.1 c.2 t1).step (below_to_grown ((Below.refl _ _).alloc (Nat.le_refl _) (.cells #[.int .i64 c.1, .int .i64 c.2] t2)) (some g)) (by simp; omega)
    simpa using this
  · have := Two.new ((W.alloc (.cells cs.toArray t)).alloc (.cells #[.int .i64 c.1, .int .i64 c.2] t1)) c.1 c.2 t2
    simpa using this
  · rw [World.cell?_alloc_past _ _ _ (by simp; try omega), World.cell?_alloc_past _ _ _ (by simp; try omega), World.cell?_alloc_at _ _ _ _ rfl]
    simpa using h
  · have := k.ap a e
    have := hA a e
    omega
theorem P8.back {nb ob xb : Nat} {n o : Int × Int} {cs : List Value} (k : P8 w W p g cb nb ob xb A7 ws ws c n o cs) (hw : Wide ws) (h1 : in64 c.1) (h2 : in64 c.2) : R8 w W p g cb A7 ws c :=
  ⟨k.ar, k.tc, k.sl, k.bel, fun a e => ⟨(k.ap a e).1, (k.ap a e).2.1⟩, k.le.1, ⟨k.dc.1, k.dc.2.1⟩, hw, h1, h2⟩
end

/-- What stands behind a call: the words, and the numbers of the chain. -/
structure Ok8 (ws : List Nat) (c : Int × Int) : Prop where
  wd : Wide ws
  ln : ws.length = 256
  c1 : in64 c.1
  c2 : in64 c.2
theorem Ok8.of_list {ws : List Nat} {c : Int × Int} {l : List Int} (h : cList ws c = some l) (hw : Wide ws) (hn : ws.length = 256) : Ok8 ws c := by
  have h1 := cList_head h
  obtain ⟨h2, h3, h4⟩ := cList_some h
  have h5 := nodup_le ws.length l h2 h3
  exact ⟨hw, hn, by unfold in64; omega, by unfold in64; omega⟩
theorem Ok8.push {ws : List Nat} {c : Int × Int} (k : Ok8 ws c) (L : List Int) : Ok8 (cPush ws c L).1 (cPush ws c L).2.1 := by
  unfold cPush
  cases hc : cList ws c with
  | none => exact k
  | some l =>
    simp only
    cases h1 : cIn ws.length L with
    | false => exact k
    | true =>
      cases h2 : cClash l L with
      | true => exact k
      | false =>
        have hin : ∀ x ∈ L, 0 ≤ x ∧ x < (ws.length : Int) := fun x hx => by
          have := List.all_eq_true.1 h1 x hx
          simpa using this
        have hcl : ∀ (i : Nat) (x : Int), L[i]? = some x → x ∉ l ∧ x ∉ L.take i := fun i x e => by
          unfold cClash at h2
          rw [List.any_eq_false] at h2
          have := h2 i (List.mem_range.2 (List.getElem?_eq_some_iff.1 e).1)
          rw [getD_of e] at this
          simpa using this
        have hnd : (L ++ l).Nodup := List.nodup_append.2 ⟨nodup_takes fun i x e => (hcl i x e).2, (cList_some hc).1, fun x hx y hy e => by
          subst e
          obtain ⟨i, hi, e2⟩ := List.getElem_of_mem hx
          exact (hcl i x (by rw [List.getElem?_eq_getElem hi, e2])).1 hy⟩
        have hp := push_list hc hnd hin
        have hhd := cList_head hc
        have hln := k.ln
        exact Ok8.of_list hp (Wide.cAll k.wd (by simp only; omega) (fun x hx => by have := hin x hx; omega)) (by show (cAll (ws, c) L).1.length = 256; rw [cAll_length]; exact k.ln)
theorem Ok8.without {ws : List Nat} {c : Int × Int} (k : Ok8 ws c) {l : List Int} {a : Int} (hc : cList ws c = some l) (ha : a ∈ l) : Ok8 (cWithout ws l a).1 (cWithout ws l a).2 := by
  obtain ⟨q1, q2, q3, q4⟩ := without_list hc ha
  refine Ok8.of_list q1 ?_ (by rw [q4]; exact k.ln)
  obtain ⟨i, hi, e⟩ := List.getElem_of_mem ha
  have hg : l.getD i 0 = a := by rw [List.getD_eq_getElem?_getD, List.getElem?_eq_getElem hi, e]; rfl
  have := cut_eq (h := c.1) (len := c.2) hc hi
  rw [hg] at this
  rw [this]
  unfold kWords
  have hg2 : ∀ j, ws.getD j 0 < 18446744073709551616 := fun j => by
    rw [List.getD_eq_getElem?_getD]
    cases e : ws[j]? with
    | none => simp
    | some x => exact k.wd x (List.mem_of_getElem? e)
  split
  · exact k.wd.set _ (by omega)
  · exact (k.wd.set _ (hg2 _)).set _ (by omega)
theorem Ok8.rem {ws : List Nat} {c : Int × Int} (k : Ok8 ws c) (a : Int) : Ok8 (cRemove ws c a).1 (cRemove ws c a).2.1 := by
  unfold cRemove
  cases hc : cList ws c with
  | none => exact k
  | some l =>
    simp only
    by_cases ha : a ∈ l
    · rw [if_pos ha]; exact k.without hc ha
    · rw [if_neg ha]; exact k
theorem Ok8.pop {ws : List Nat} {c : Int × Int} (k : Ok8 ws c) : Ok8 (cPop ws c).1 (cPop ws c).2.1 := by
  unfold cPop
  cases hc : cList ws c with
  | none => exact k
  | some l =>
    cases l with
    | nil => exact k
    | cons a l => exact k.without hc (List.mem_cons_self ..)
/-- What List answers, on both sides. -/
theorem list_some8 {w : World} {v : Array Value} {l : List Int} {f : FuncId} (c : Calls Try.prog f v w (ResList w (some l))) (hl : l.length ≤ 65536) :
    Calls Try.prog f v w fun e w' => ∃ A m c, e = .returned (.tuple #[.slice A m c, .int .i64 0]) ∧ m ≤ 65536 ∧ Sl w' w'.heap.size A m (l.map iv) ∧ Below w.heap.size w w' :=
  c.mono fun e w' q => by
    obtain ⟨A, m, c2, out, e1, h1, _, h3, _, h5, _⟩ := q
    obtain rfl := h1 _ rfl
    have h4 := h3.1
    rw [List.length_map] at h4
    exact ⟨A, m, c2, e1, by omega, h3, h5⟩
theorem list_none8 {w : World} {v : Array Value} {f : FuncId} (c : Calls Try.prog f v w (ResList w none)) :
    Calls Try.prog f v w fun e w' => ∃ A c, e = .returned (.tuple #[.slice A 0 c, .int .i64 9]) ∧ Below w.heap.size w w' :=
  c.mono fun e w' q => by
    obtain ⟨A, m, c2, out, e1, _, h2, _, _, h5, _⟩ := q
    obtain rfl := h2 rfl
    exact ⟨A, c2, e1, h5⟩
theorem chain_some8 {w : World} {v : Array Value} {l : List Int} {f : FuncId} (c : Calls Try.prog f v w (ResChain w (some l))) :
    Calls Try.prog f v w fun e w' => ∃ A m c, e = .returned (.tuple #[.slice A m c, .bool true]) ∧ Sl w' w'.heap.size A m (l.map iv) ∧ Below w.heap.size w w' :=
  c.mono fun e w' q => by
    obtain ⟨A, m, c2, out, e1, h1, h2, h3, _⟩ := q
    obtain rfl := h2 _ rfl
    exact ⟨A, m, c2, e1, h1, h3⟩
theorem chain_none8 {w : World} {v : Array Value} {f : FuncId} (c : Calls Try.prog f v w (ResChain w none)) :
    Calls Try.prog f v w fun e w' => ∃ A m c, e = .returned (.tuple #[.slice A m c, .bool false]) ∧ Below w.heap.size w w' :=
  c.mono fun e w' q => by
    obtain ⟨A, m, c2, out, e1, h1, h2, h3, _⟩ := q
    exact ⟨A, m, c2, e1, h3⟩
theorem ints_same8 (A A2 : Option Addr) (n c m d : Nat) (xs : List Int) (w : World) (hs : Sl w w.heap.size A n (xs.map iv)) (hs2 : Sl w w.heap.size A2 m (xs.map iv)) (hn : n ≤ 65536) :
    Calls Try.prog 20 #[.slice A n c, .slice A2 m d] w fun e w' => e = .returned (.bool true) ∧ Below w.heap.size w w' := by
  have h1 := hs.1
  have h2 := hs2.1
  refine (ref_bints A A2 n c m d xs xs w w.heap.size w.heap.size hs hs2 (by omega) (by omega)).mono fun e w' q => ?_
  obtain ⟨e1, k, rfl⟩ := q
  exact ⟨by rw [e1]; simp, belowN (Below.refl _ _) k⟩
/-- Right of one chain, in a block that has just been laid. -/
theorem right_one8 {w : World} {p g n : Nat} {ws : List Nat} {B : Nat} (ha : Ar w B p g n ws) (hw : Wide ws) (h l : Int) (h1 : in64 h) (h2 : in64 l) (b : Bool) (hb : (cList ws (h, l)).isSome = b) :
    Calls Try.prog 19 #[.pointer (some ⟨p, 0, none⟩), .slice (some ⟨w.heap.size, 0, none⟩) 1 1] (w.alloc (.cells #[.int .i64 h, .int .i64 l] 23)) fun e w' => e = .returned (.bool b) ∧ Below w.heap.size w w' := by
  have hb2 := (Below.refl w.heap.size w).alloc (Nat.le_refl _) (.cells #[.int .i64 h, .int .i64 l] 23)
  have := code_cright (ha.alloc (.cells #[.int .i64 h, .int .i64 l] 23)) hw (some ⟨w.heap.size, 0, none⟩) 1 1 [(h, l)] (one_rn w h l _) (by omega) (fun r hr => by
    obtain rfl := List.mem_singleton.1 hr
    exact ⟨h1, h2⟩)
  rw [cRight_one, hb] at this
  exact this.mono fun e w' q => ⟨q.1, hb2.trans (q.2.mono hb2.size)⟩

theorem ref_store8 (A7 : Option Addr) (c7 : Nat) (ws : List Nat) (x a : Nat) (w : World) (A2 : Option Addr) (hs : Sl w w.heap.size A7 256 (ws.map wv)) (hs2 : Sl w w.heap.size A2 1 ([x].map wv)) (ha : a < 256) :
    Calls Try.prog 15 #[.slice A7 256 c7, .int .i64 (a : Int), .slice A2 1 1] w fun e w' => ∃ A c, e = .returned (.tuple #[.slice A 256 c, .int .i64 0]) ∧ Sl w' w'.heap.size A 256 ((ws.set a x).map wv) ∧ Below w.heap.size w w' ∧ ∀ d, A = some d → w.heap.size ≤ d.block := by
  have h1 : ws.length = 256 := by have := hs.1; simpa using this
  refine (ref_astore A7 A2 256 c7 1 1 ws [x] a w hs hs2 (by omega) (by omega) (by omega)).mono fun e w' q => ?_
  obtain ⟨A3, c3, e1, e2, e3⟩ := q
  rw [aStore_one (by omega)] at e1 e2
  rw [List.length_set, h1] at e1 e2
  exact ⟨A3, c3, e1, Sl.of_own e2, e3, fun d e => by subst e; exact (e2.lt d.block rfl).1⟩
theorem store256 {w : World} {p g B : Nat} {ws : List Nat} (ha : Ar w B p g 256 ws) (a x : Nat) (A : Option Addr) (hs : Sl w w.heap.size A 1 ([x].map wv)) (h : a < 256) :
    Calls Try.prog 16 #[.pointer (some ⟨p, 0, none⟩), .int .i64 (a : Int), .slice A 1 1] w fun e w' => e = .returned (.int .i64 0) ∧ Ar w' B p g 256 (ws.set a x) ∧ w.grownBy w' (some g) := by
  have := code_astore (ys := [x]) a A 1 1 ha hs (by omega)
  rw [aStore_one (by have := ha.hlen; omega)] at this
  exact this
theorem row_all {ws : List Nat} (h : ws.length = 256) : aRow ws 0 256 = ws := by
  unfold aRow
  rw [List.drop_zero, List.take_of_length_le (by omega)]
theorem same_all8 (A A2 : Option Addr) (c d : Nat) (xs : List Nat) (w : World) (hs : Sl w w.heap.size A 256 (xs.map wv)) (hs2 : Sl w w.heap.size A2 256 (xs.map wv)) :
    Calls Try.prog 22 #[.slice A 256 c, .slice A2 256 d] w fun e w' => e = .returned (.bool true) ∧ Below w.heap.size w w' := by
  refine (ref_asame A A2 256 c 256 d xs xs w w.heap.size w.heap.size hs hs2 (by omega) (by omega)).mono fun e w' q => ?_
  obtain ⟨e1, k, rfl⟩ := q
  exact ⟨by rw [e1]; simp, belowN (Below.refl _ _) k⟩

end Go.Proofs.Ytcngcibiibchiaa
