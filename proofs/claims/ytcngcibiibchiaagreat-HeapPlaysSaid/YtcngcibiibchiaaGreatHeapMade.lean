/- What Make of layer 7 (heap) does. -/
import Derived.Test.YtcngcibiibchiaaGreatHeapAsk
import Derived.Test.YtcngcibiibchiaaGreatRunsTake
import Derived.Deep.RegionHeld3
import Derived.Deep.RegionWith
namespace Go.Proofs.YtcngcibiibchiaaGreat
open Go.RowKit Go.Maps
set_option linter.unusedVariables false

section
variable {w w1 w2 w' : World} {S Sf : Nat → Prop} {p ip ig fp mb n m : Nat} {ids : List Int} {D : DataW Unit} {h : HeapV} {last : Int}
/-- A heap, whose free runs another call has changed. -/
theorem Hp.intro (M : HpM w' p ip ig fp mb n m ids D h.last) (K : HpK m ids D h) (F : Fr w' (more Sf w1 w2) fp h.free) (k3 : S p ∧ S ip ∧ S ig ∧ S mb) (k4 : ∀ b, Sf b → S b) (k5 : ∀ b, S b → b < w.heap.size)
    (k6 : ¬ Sf p ∧ ¬ Sf ip ∧ ¬ Sf ig ∧ ¬ Sf mb) (k7 : p ≠ ip ∧ p ≠ ig ∧ p ≠ mb ∧ mb ≠ ip ∧ mb ≠ ig) (h1 : w.heap.size ≤ w1.heap.size) (h2 : w1.heap.size ≤ w2.heap.size) (h3 : w2.heap.size ≤ w'.heap.size) : Hp w' (more S w w') p h := by
  have hm : ∀ b, S b → more S w w' b := fun b hb => ⟨Or.inl hb, by have := k5 b hb; omega⟩
  have hn : ∀ b, S b → ¬ Sf b → ¬ more Sf w1 w2 b := fun b hb hnb c => hnb (more_old (by have := k5 b hb; omega) c)
  refine ⟨ip, ig, fp, mb, n, m, ids, D, more Sf w1 w2, ⟨M, K⟩, F, ⟨hm _ k3.1, hm _ k3.2.1, hm _ k3.2.2.1, hm _ k3.2.2.2⟩, fun b hb => ?_, fun b hb => hb.2, ⟨hn _ k3.1 k6.1, hn _ k3.2.1 k6.2.1, hn _ k3.2.2.1 k6.2.2.1, hn _ k3.2.2.2 k6.2.2.2⟩, k7⟩
  have h4 := hb.2
  rcases hb.1 with c | c
  · exact ⟨Or.inl (k4 b c), by omega⟩
  · exact ⟨Or.inr (by omega), by omega⟩
theorem HpM.made (M : HpM w p ip ig fp mb n m ids D last) (k7 : p ≠ ip ∧ p ≠ ig ∧ p ≠ mb ∧ mb ≠ ip ∧ mb ≠ ig) (v : Int) : HpM (w.setCell ⟨p, 3, none⟩ (.int .i64 v)) p ip ig fp mb n m ids D v := by
  have ho : ∀ j, 3 ≠ j → (w.setCell ⟨p, 3, none⟩ (.int .i64 v)).cell? ⟨p, j, none⟩ = w.cell? ⟨p, j, none⟩ := fun j hj => World.cell?_setCell_other w _ _ _ (fun e => hj (by injection e))
  have hb : ∀ b, p ≠ b → (w.setCell ⟨p, 3, none⟩ (.int .i64 v)).heap[b]? = w.heap[b]? := fun b hb => heap_setCell_other w _ b _ (fun e => hb e.symm)
  refine ⟨(ho 0 (by decide)).trans M.c0, (ho 1 (by decide)).trans M.c1, (ho 2 (by decide)).trans M.c2, World.cell?_setCell_same _ _ _ M.c3, fun j => (World.frozen?_setCell _ _ _ _).trans (M.fz j), ?_, ownsMap_block M.mp (hb mb k7.2.2.1)⟩
  exact ⟨(World.cell?_of_block (w := w) (a := ⟨ip, 0, none⟩) (hb ip k7.1)).trans M.ix.cell, (hb ig k7.2.1).trans M.ix.heap, M.ix.hlen, M.ix.ge, M.ix.geg, M.ix.ne, M.ix.small⟩
theorem HpM.setIx {ids' : List Int} (M : HpM w p ip ig fp mb n m ids D last) (k7 : p ≠ ip ∧ p ≠ ig ∧ p ≠ mb ∧ mb ≠ ip ∧ mb ≠ ig) (hg : w.grownBy w' (some ig)) (hx : Ix w' 0 ip ig n ids') : HpM w' p ip ig fp mb n m ids' D last := by
  obtain ⟨l1, l2, l3, l4⟩ := M.lts
  have hb := hg.block p l1 (fun e => k7.2.1 (by injection e))
  have hc : ∀ j, w'.cell? ⟨p, j, none⟩ = w.cell? ⟨p, j, none⟩ := fun j => World.cell?_of_block (w := w) (a := ⟨p, j, none⟩) hb
  exact ⟨(hc 0).trans M.c0, (hc 1).trans M.c1, (hc 2).trans M.c2, (hc 3).trans M.c3, fun j => (World.frozen?_of_block (w := w) (a := ⟨p, j, none⟩) hb).trans (M.fz j), hx, ownsMap_block M.mp (hg.block mb l4 (fun e => k7.2.2.2.2 (by injection e)))⟩
theorem HpM.put {m' : Nat} {D' : DataW Unit} (M : HpM w p ip ig fp mb n m ids D last) (k7 : p ≠ ip ∧ p ≠ ig ∧ p ≠ mb ∧ mb ≠ ip ∧ mb ≠ ig) (hg : w.grownBy w' (some mb)) (hm : w'.ownsMap Tryz.prog 3 spanR mb m' D') : HpM w' p ip ig fp mb n m' ids D' last := by
  obtain ⟨l1, l2, l3, l4⟩ := M.lts
  have hb := hg.block p l1 (fun e => k7.2.2.1 (by injection e))
  have hc : ∀ j, w'.cell? ⟨p, j, none⟩ = w.cell? ⟨p, j, none⟩ := fun j => World.cell?_of_block (w := w) (a := ⟨p, j, none⟩) hb
  refine ⟨(hc 0).trans M.c0, (hc 1).trans M.c1, (hc 2).trans M.c2, (hc 3).trans M.c3, fun j => (World.frozen?_of_block (w := w) (a := ⟨p, j, none⟩) hb).trans (M.fz j), ?_, hm⟩
  exact M.ix.grown hg (fun e => k7.2.2.2.1 e.symm) (fun e => k7.2.2.2.2 e.symm)
theorem HpM.keptF (M : HpM w p ip ig fp mb n m ids D last) (hK : Kept Sf w w') (k6 : ¬ Sf p ∧ ¬ Sf ip ∧ ¬ Sf ig ∧ ¬ Sf mb) : HpM w' p ip ig fp mb n m ids D last := by
  obtain ⟨l1, l2, l3, l4⟩ := M.lts
  refine M.keep fun b hb => ?_
  rcases hb with rfl | rfl | rfl | rfl
  · exact hK.block _ l1 k6.1
  · exact hK.block _ l2 k6.2.1
  · exact hK.block _ l3 k6.2.2.1
  · exact hK.block _ l4 k6.2.2.2
end
theorem Hp.more_ {w w' : World} {S : Nat → Prop} {p : Nat} {h : HeapV} (k : Hp w S p h) (hb : Below w.heap.size w w') : Hp w' (more S w w') p h := by
  obtain ⟨ip, ig, fp, mb, n, m, ids, D, Sf, k1, k2, k3, k4, k5, k6, k7⟩ := k.below hb
  have hm : ∀ b, S b → more S w w' b := fun b hb' => ⟨Or.inl hb', k5 b hb'⟩
  exact ⟨ip, ig, fp, mb, n, m, ids, D, Sf, k1, k2, ⟨hm _ k3.1, hm _ k3.2.1, hm _ k3.2.2.1, hm _ k3.2.2.2⟩, fun b hb' => hm b (k4 b hb'), fun b hb' => hb'.2, k6, k7⟩
/-- A span is put in the map. -/
theorem IsMap_of {w : World} {mb m : Nat} {D : DataW Unit} (h : w.ownsMap Tryz.prog 3 spanR mb m D) : Maps.IsMap D := by
  obtain ⟨_, _, _, _, _, rfl⟩ := h
  exact ⟨_, rfl⟩

/-- What is fixed while Make goes on. -/
structure Sides (w w1 w2 : World) (S Sf : Nat → Prop) (p ip ig mb : Nat) : Prop where
  k3 : S p ∧ S ip ∧ S ig ∧ S mb
  k4 : ∀ b, Sf b → S b
  k5 : ∀ b, S b → b < w.heap.size
  k6 : ¬ Sf p ∧ ¬ Sf ip ∧ ¬ Sf ig ∧ ¬ Sf mb
  k7 : p ≠ ip ∧ p ≠ ig ∧ p ≠ mb ∧ mb ≠ ip ∧ mb ≠ ig
  h1 : w.heap.size < w1.heap.size
  h2 : w1.heap.size ≤ w2.heap.size
/-- The heap's own four blocks. -/
def Four (p ip ig mb b : Nat) : Prop := b = p ∨ b = ip ∨ b = ig ∨ b = mb
/-- The state behind Take. -/
structure MkSt (w w1 w2 W : World) (S Sf : Nat → Prop) (p ip ig fp mb n m : Nat) (ids : List Int) (D : DataW Unit) (last : Int) (g : List Bool) : Prop where
  M : HpM W p ip ig fp mb n m ids D last
  F : Fr W (more Sf w1 w2) fp g
  K : Kept S w W
  R : W.heap[w.heap.size]? = some (.cells #[.int .i64 0, .int .i64 0, .int .i64 0, .int .i64 0] 43 (0, 0))
  le : w2.heap.size ≤ W.heap.size
section
variable {w w1 w2 W W' : World} {S Sf : Nat → Prop} {p ip ig fp mb n m m' : Nat} {ids ids' : List Int} {D D' : DataW Unit} {last last' : Int} {g : List Bool} {h : HeapV}
theorem Sides.four (s : Sides w w1 w2 S Sf p ip ig mb) : ∀ b, Four p ip ig mb b → S b ∧ ¬ Sf b := fun b hb => by
  rcases hb with rfl | rfl | rfl | rfl
  · exact ⟨s.k3.1, s.k6.1⟩
  · exact ⟨s.k3.2.1, s.k6.2.1⟩
  · exact ⟨s.k3.2.2.1, s.k6.2.2.1⟩
  · exact ⟨s.k3.2.2.2, s.k6.2.2.2⟩
theorem MkSt.step (s : Sides w w1 w2 S Sf p ip ig mb) (h : MkSt w w1 w2 W S Sf p ip ig fp mb n m ids D last g) (hK : Kept (Four p ip ig mb) W W') (M' : HpM W' p ip ig fp mb n m' ids' D' last') : MkSt w w1 w2 W' S Sf p ip ig fp mb n m' ids' D' last' g := by
  have hlt : w.heap.size < W.heap.size := (Array.getElem?_eq_some_iff.1 h.R).1
  refine ⟨M', h.F.keep hK fun b hb c => ?_, h.K.trans hK (fun b _ hb => (s.four b hb).1), (hK.block _ hlt fun c => ?_).trans h.R, Nat.le_trans h.le hK.size⟩
  · have h1 := s.four b c
    have h2 := s.k5 b h1.1
    have h3 := s.h1
    exact h1.2 (more_old (by omega) hb)
  · have := s.k5 _ (s.four _ c).1
    omega
theorem MkSt.below (s : Sides w w1 w2 S Sf p ip ig mb) (h : MkSt w w1 w2 W S Sf p ip ig fp mb n m ids D last g) (hb : Below W.heap.size W W') : MkSt w w1 w2 W' S Sf p ip ig fp mb n m ids D last g :=
  h.step s (Kept.of_below hb _) (h.M.below hb)
theorem MkSt.made (s : Sides w w1 w2 S Sf p ip ig mb) (h : MkSt w w1 w2 W S Sf p ip ig fp mb n m ids D last g) (v : Int) : MkSt w w1 w2 (W.setCell ⟨p, 3, none⟩ (.int .i64 v)) S Sf p ip ig fp mb n m ids D v g :=
  h.step s ((Kept.refl _ W).set (a := ⟨p, 3, none⟩) (Or.inl (Or.inl rfl)) _) (h.M.made s.k7 v)
theorem MkSt.setIx (s : Sides w w1 w2 S Sf p ip ig mb) (h : MkSt w w1 w2 W S Sf p ip ig fp mb n m ids D last g) (hg : W.grownBy W' (some ig)) (hx : Ix W' 0 ip ig n ids') : MkSt w w1 w2 W' S Sf p ip ig fp mb n m ids' D last g :=
  h.step s ((Kept.refl _ W).grown hg fun k e => by injection e with e; exact Or.inl (Or.inr (Or.inr (Or.inl e.symm)))) (h.M.setIx s.k7 hg hx)
theorem MkSt.put (s : Sides w w1 w2 S Sf p ip ig mb) (h : MkSt w w1 w2 W S Sf p ip ig fp mb n m ids D last g) (hg : W.grownBy W' (some mb)) (hm : W'.ownsMap Tryz.prog 3 spanR mb m' D') : MkSt w w1 w2 W' S Sf p ip ig fp mb n m' ids D' last g :=
  h.step s ((Kept.refl _ W).grown hg fun k e => by injection e with e; exact Or.inl (Or.inr (Or.inr (Or.inr e.symm)))) (h.M.put s.k7 hg hm)
theorem MkSt.end_ (s : Sides w w1 w2 S Sf p ip ig mb) (h' : MkSt w w1 w2 W S Sf p ip ig fp mb n m ids D h.last h.free) (K : HpK m ids D h) (hk : Kept (fun b => b = w.heap.size) W W') : Hp W' (more S w W') p h ∧ Kept S w W' := by
  have h1 := s.h1
  have h2 := s.h2
  have h3 := hk.size
  have h4 := h'.le
  have hF : Fr W' (more Sf w1 w2) fp h.free := h'.F.keep hk fun b hb e => by
    have e2 : b = w.heap.size := e
    have := s.k5 b (s.k4 b (more_old (by omega) hb))
    omega
  have hl := h'.M.lts
  have hne : ∀ b, Four p ip ig mb b → ¬ b = w.heap.size := fun b hb e => by
    have := s.k5 b (s.four b hb).1
    omega
  refine ⟨Hp.intro (h'.M.keep fun b hb' => hk.block b ?_ (hne b hb')) K hF s.k3 s.k4 s.k5 s.k6 s.k7 (by omega) h2 (by omega), ?_⟩
  · rcases hb' with rfl | rfl | rfl | rfl <;> omega
  · exact ⟨hk.os.trans h'.K.os, hk.tape.trans h'.K.tape, hk.output.trans h'.K.output, Nat.le_trans h'.K.size h3, fun b hb hn => (hk.block b (by omega) (show ¬ b = w.heap.size by omega)).trans (h'.K.block b hb hn)⟩
theorem kept_set4 {q : Nat} (u0 u1 u2 u3 : Value) : Kept (fun b => b = q) W ((((W.setCell ⟨q, 0, none⟩ u0).setCell ⟨q, 1, none⟩ u1).setCell ⟨q, 2, none⟩ u2).setCell ⟨q, 3, none⟩ u3) :=
  ((((Kept.refl (fun b => b = q) W).set (a := ⟨q, 0, none⟩) (Or.inl rfl) u0).set (a := ⟨q, 1, none⟩) (Or.inl rfl) u1).set (a := ⟨q, 2, none⟩) (Or.inl rfl) u2).set (a := ⟨q, 3, none⟩) (Or.inl rfl) u3
end

theorem RnOne.plain_ (w : World) (s l : Int) (e : TypeId) : Rn (w.alloc (.cells #[.int .i64 s, .int .i64 l] e)) (w.alloc (.cells #[.int .i64 s, .int .i64 l] e)).heap.size (some ⟨w.heap.size, 0, none⟩) 1 [(s, l)] := by
  refine ⟨rfl, fun _ => ⟨w.heap.size, 0, rfl, by simp, fun j r hj => ?_⟩⟩
  match j, hj with
  | 0, hj =>
    obtain rfl : (s, l) = r := by simpa using hj
    exact ⟨World.cell?_alloc_at _ _ _ 0 (by simp), World.cell?_alloc_at _ _ _ 1 (by simp)⟩
  | j + 1, hj => simp at hj
theorem RnOne.drew_ (w : World) (s l : Int) (e : TypeId) : Rn ((w.alloc (.cells #[.int .i64 s, .int .i64 l] e)).drew) ((w.alloc (.cells #[.int .i64 s, .int .i64 l] e)).drew).heap.size (some ⟨w.heap.size, 0, none⟩) 1 [(s, l)] := by
  refine ⟨rfl, fun _ => ⟨w.heap.size, 0, rfl, by simp, fun j r hj => ?_⟩⟩
  match j, hj with
  | 0, hj =>
    obtain rfl : (s, l) = r := by simpa using hj
    exact ⟨World.cell?_alloc_at _ _ _ 0 (by simp), World.cell?_alloc_at _ _ _ 1 (by simp)⟩
  | j + 1, hj => simp at hj
/-- What Make answers, and leaves. -/
def MadeHp (w : World) (S : Nat → Prop) (p : Nat) (r : HeapV × (Int × Int × Int × Int) × Int) (e : Ending) (w' : World) : Prop :=
  e = .returned (.tuple #[spv r.2.1, .int .i64 r.2.2]) ∧ Hp w' (more S w w') p r.1 ∧ Kept S w w'

set_option maxHeartbeats 2000000 in
theorem code_hmake_yes {w : World} {S : Nat → Prop} {p : Nat} {h : HeapV} (k : Hp w S p h) (kn o : Int) (h0 : in64 kn) (h1 : in64 o) (hok : ¬ (kn < 1 ∨ o < -1 ∨ 3 < o)) (hlb : h.last + 1 ≤ 1000000000) (r : Int × Int) (hb : fBest h.free kn = some r) :
    Calls Tryz.prog 11 #[.pointer (some ⟨p, 0, none⟩), .int .i64 kn, .int .i64 o] w (MadeHp w S p (hMake h kn o)) := by
  obtain ⟨ip, ig, fp, mb, n, m, ids, D, Sf, k1, k2, k3, k4, k5, k6, k7⟩ := k
  obtain ⟨g, e1, e2, e3, e4, e5⟩ := hMake_yes k1.ok hok hb
  obtain ⟨ids', e6, e7⟩ := paint_make (o := o) k1.ok k1.pt hb (by omega) g e2 e3
  have hft : fTake h.free kn = g := by unfold fTake; rw [hb]; simp only; rw [e1]
  have hD := IsMap_of k1.mp
  obtain ⟨L, hL⟩ : ∃ L, h.last = L := ⟨_, rfl⟩
  have hL0 : 0 ≤ L := by rw [← hL]; exact k1.ok.la
  have hL1 : L + 1 ≤ 1000000000 := by rw [← hL]; exact hlb
  obtain ⟨x, hx⟩ : ∃ x, r.1 = x := ⟨_, rfl⟩
  have hx64 : in64 x := by
    obtain ⟨a1, a2, a3⟩ := (fMay_iff _).1 e2
    simp only at a1 a2 a3
    exact ⟨by omega, by omega⟩
  have ct : ∀ W, Fr W Sf fp h.free → Calls Tryz.prog 33 #[.pointer (some ⟨fp, 0, none⟩), .int .i64 kn] W fun e w' => e = .returned (.tuple #[.agg #[.int .i64 x, .int .i64 kn], .bool true]) ∧ Fr w' (more Sf W w') fp g ∧ Kept Sf W w' := fun W hF => by
    have := code_rtake hF kn h0
    rw [hft, hb] at this
    simp only [Option.map_some] at this
    unfold TookFr at this
    rw [← hx]
    exact this
  rw [hL, hx] at e6 e7
  have HKE : Hid (HpK (m + 1) ids' (D.put (.int .i64 (L + 1)) (encS (L + 1, x, kn, o))) ⟨h.pages, g, h.l ++ [(L + 1, x, kn, o)], L + 1⟩) := hidb ⟨by
      have := k1.mis.put hD (s := (L + 1, x, kn, o)) (fun t ht => by have := k1.ok.idr t ht; show t.1 ≠ L + 1; omega) ⟨by show _ ≤ L + 1; omega, by show L + 1 ≤ _; omega⟩
      exact this, e7, by rw [hL, hx] at e5; exact e5, by have := k1.la; show ((m + 1 : Nat) : Int) ≤ L + 1; omega, hL1⟩
  have hm63 : m < maxLen := by have := k1.la; have := k1.lb; unfold maxLen; omega
  have cset : ∀ W A, HpM W p ip ig fp mb n m ids D (L + 1) → Rn W W.heap.size (some ⟨A, 0, none⟩) 1 [(x, kn)] → A ≠ ig → Calls Tryz.prog 34 #[.pointer (some ⟨ip, 0, none⟩), .int .i64 (L + 1), .slice (some ⟨A, 0, none⟩) 1 1] W fun e w' => e = .returned (.int .i64 0) ∧ Ix w' 0 ip ig n ids' ∧ W.grownBy w' (some ig) := fun W A hM hR hne => by
    have := code_xset (L + 1) (some ⟨A, 0, none⟩) 1 1 [(x, kn)] W hM.ix (fun b off _ e => by injection e with e; injection e with e; rw [← e]; exact hne) hR (by omega) (fun r hr => by obtain rfl := List.mem_singleton.1 hr; exact ⟨hx64, h0⟩) ⟨by omega, by omega⟩
    rw [e6] at this
    exact this
  rw [e4, hL, hx]
  have cp := code_hparts p _ _ _ _ _ (alloc_old (.cells #[.int .i64 0, .int .i64 0, .int .i64 0, .int .i64 0] 43) k1.c0) (alloc_old _ k1.c1) (alloc_old _ k1.c2) (alloc_old _ k1.c3)
  have ff := field_fr
  rw [hL] at cp
  have hk1 : ¬ kn < 1 := fun c => hok (Or.inl c)
  have hk2 : ¬ o < -1 := fun c => hok (Or.inr (Or.inl c))
  have hk3 : ¬ 4 ≤ o := fun c => hok (Or.inr (Or.inr (by omega)))
  have HB0 : Hid (Below w.heap.size w (w.alloc (.cells #[.int .i64 0, .int .i64 0, .int .i64 0, .int .i64 0] 43))) := hidb ((Below.refl _ _).alloc (Nat.le_refl _) _)
  have hzz : w.heap.size < (w.alloc (.cells #[.int .i64 0, .int .i64 0, .int .i64 0, .int .i64 0] 43)).heap.size := by simp
  have HF1 : Hid (∀ W, Below w.heap.size w W → Fr W Sf fp h.free) := hidb (fun W hb => k2.below hb)
  have HST : Hid (∀ w1 w2, Below (w.alloc (.cells #[.int .i64 0, .int .i64 0, .int .i64 0, .int .i64 0] 43)).heap.size (w.alloc (.cells #[.int .i64 0, .int .i64 0, .int .i64 0, .int .i64 0] 43)) w1 → Kept Sf w1 w2 → Fr w2 (more Sf w1 w2) fp g → Sides w w1 w2 S Sf p ip ig mb ∧ MkSt w w1 w2 w2 S Sf p ip ig fp mb n m ids D L g) := hidb (fun w1 w2 hb1 hK hF => by
    have hb2 := HB0.out.trans (hb1.mono (Nat.le_of_lt hzz))
    have hs1 : w.heap.size < w1.heap.size := Nat.lt_of_lt_of_le hzz hb1.size
    have s : Sides w w1 w2 S Sf p ip ig mb := ⟨k3, k4, k5, k6, k7, hs1, hK.size⟩
    refine ⟨s, (hL ▸ k1.toHpM.below hb2).keptF hK k6, hF, (Kept.of_below hb2 S).trans hK (fun b _ hb => k4 b hb), ?_, Nat.le_refl _⟩
    rw [hK.block _ hs1 (fun c => by have := k5 _ (k4 _ c); omega), hb1.block _ hzz]
    show (w.heap.push _)[w.heap.size]? = _
    simp)
  clear k1 k2 k3 k4 k5 k6 k7 hok hb hft hL e1 e2 e3 e4 e5 e6 e7 h0 hx hD
  go_enter Tryz.func11, Tryz.ntmps11
  go_wp2_with (first
    | (go_at_call 26; (with_reducible refine cp.mono ?_); rintro e w1 ⟨rfl, hb1⟩; have hb2 := HB0.out.trans (hb1.mono (Nat.le_of_lt hzz)); have HFR1 := hidb (HF1.out _ hb2))
    | (go_at_call 33; (with_reducible refine (ct _ HFR1.out).mono ?_); rintro e w2 ⟨rfl, F2, hK2⟩; obtain ⟨sd, st⟩ := HST.out w1 w2 hb1 hK2 F2; have c3 := st.M.c3; have z3 := st.M.fz 3; have hlp := st.M.lts.1; have SD := hidb sd; have ST := hidb st; clear sd st F2 hK2))
  have ST3 := hidb ((ST.out.made SD.out (L + 1)).below SD.out (((Below.refl _ (w2.setCell ⟨p, 3, none⟩ (.int .i64 (L + 1)))).alloc (Nat.le_refl _) (.cells #[.int .i64 x, .int .i64 kn] 41))))
  have y0 : ((w2.setCell ⟨p, 3, none⟩ (.int .i64 (L + 1))).alloc (.cells #[.int .i64 x, .int .i64 kn] 41)).cell? ⟨w2.heap.size, 0, none⟩ = some (.int .i64 x) := World.cell?_alloc_at _ _ _ 0 (by simp)
  have y1 : ((w2.setCell ⟨p, 3, none⟩ (.int .i64 (L + 1))).alloc (.cells #[.int .i64 x, .int .i64 kn] 41)).cell? ⟨w2.heap.size, 1, none⟩ = some (.int .i64 kn) := World.cell?_alloc_at _ _ _ 1 (by simp)
  clear cp ct c3 z3 hb1 hb2 HFR1 HF1 HST HB0 ST hlp
  generalize hW3 : (w2.setCell ⟨p, 3, none⟩ (.int .i64 (L + 1))).alloc (.cells #[.int .i64 x, .int .i64 kn] 41) = W3 at ST3 y0 y1 ⊢
  clear hW3
  have c3 := ST3.out.M.c3
  have t0 := World.new_ne W3 _ c3
  have t1 := World.new_ne W3 _ y0
  have t2 := World.new_ne W3 _ y1
  go_region_held3 (fun w' => w'.cell? ⟨p, 3, none⟩ = some (.int .i64 (L + 1)) ∧ w'.cell? ⟨w2.heap.size, 0, none⟩ = some (.int .i64 x) ∧ w'.cell? ⟨w2.heap.size, 1, none⟩ = some (.int .i64 kn)) (go_keep) (fail)
  clear y0 y1 t0 t1 t2 c3
  have ST4 := hidb (ST3.out.below SD.out (((Below.refl _ W3).alloc (Nat.le_refl _) (.cells #[.int .i64 (L + 1), .int .i64 x, .int .i64 kn, .int .i64 o] 43)).drew))
  have hq4 : ((W3.alloc (.cells #[.int .i64 (L + 1), .int .i64 x, .int .i64 kn, .int .i64 o] 43)).drew).heap[W3.heap.size]? = some (.cells #[.int .i64 (L + 1), .int .i64 x, .int .i64 kn, .int .i64 o] 43 (0, 0)) := by
    show (W3.heap.push _)[W3.heap.size]? = _
    simp
  have hle3 := ST3.out.le
  obtain ⟨q, hq⟩ : ∃ q, W3.heap.size = q := ⟨_, rfl⟩
  rw [hq] at hq4 hle3
  rw [hq]
  clear ST3
  generalize hW4 : (W3.alloc (.cells #[.int .i64 (L + 1), .int .i64 x, .int .i64 kn, .int .i64 o] 43)).drew = W4 at ST4 hq4 ⊢
  clear hW4 hq
  have HQ4 := hidb hq4
  obtain ⟨y0, y1, y2, y3, _⟩ := cells4 hq4
  have c0 := ST4.out.M.c0
  have t0 := World.new_ne W4 _ c0
  have t1 := World.new_ne W4 _ y0
  have t2 := World.new_ne W4 _ y1
  have t3 := World.new_ne W4 _ y2
  clear hq4 y3
  have HS5 : Hid (MkSt w w1 w2 ((W4.alloc (.cells #[.int .i64 x, .int .i64 kn] 41)).drew) S Sf p ip ig fp mb n m ids D (L + 1) g) := hidb (ST4.out.below SD.out (((Below.refl _ W4).alloc (Nat.le_refl _) _).drew))
  have hR : Rn ((W4.alloc (.cells #[.int .i64 x, .int .i64 kn] 41)).drew) ((W4.alloc (.cells #[.int .i64 x, .int .i64 kn] 41)).drew).heap.size (some ⟨W4.heap.size, 0, none⟩) 1 [(x, kn)] := RnOne.drew_ W4 x kn _
  have hlig := ST4.out.M.lts.2.2.1
  have cs := cset _ W4.heap.size HS5.out.M hR (by omega)
  have HQ5 : Hid (∀ w5, (W4.alloc (.cells #[.int .i64 x, .int .i64 kn] 41)).drew.grownBy w5 (some ig) → w5.heap[q]? = some (.cells #[.int .i64 (L + 1), .int .i64 x, .int .i64 kn, .int .i64 o] 43 (0, 0))) := hidb (fun w5 hg => by
    have hlq : q < W4.heap.size := (Array.getElem?_eq_some_iff.1 HQ4.out).1
    have hsig := SD.out.k5 _ SD.out.k3.2.2.1
    have hh1 := SD.out.h1
    have hh2 := SD.out.h2
    rw [hg.block q (by show q < (W4.heap.push _).size; simp; omega) (fun e => by injection e with e; omega)]
    show (W4.heap.push _)[q]? = _
    rw [Array.getElem?_push_lt hlq, ← Array.getElem?_eq_getElem hlq]
    exact HQ4.out)
  clear cset hR
  go_wp2
  go_region_held3 (fun w' => w'.cell? ⟨p, 0, none⟩ = some (.pointer (some ⟨ip, 0, none⟩)) ∧ w'.cell? ⟨q, 0, none⟩ = some (.int .i64 (L + 1)) ∧ w'.cell? ⟨q, 1, none⟩ = some (.int .i64 x) ∧ w'.cell? ⟨q, 2, none⟩ = some (.int .i64 kn)) (go_keep)
    (first | (go_at_call 34; (with_reducible refine cs.mono ?_); rintro e w5 ⟨rfl, hx5, hg5⟩; have ST5 := hidb (HS5.out.setIx SD.out hg5 hx5); have hq5 := HQ5.out _ hg5; clear hx5 hg5; have HQ6 := hidb hq5; obtain ⟨y0', y1', y2', y3', _⟩ := cells4 hq5; have c0' := ST5.out.M.c0; clear hq5))
  have c2 := ST5.out.M.c2
  obtain ⟨w6, hrun, hown6, hg6⟩ := World.ownsMap.update (P := Tryz.prog) (w := w5.drew) (val := .agg #[.int .i64 (L + 1), .int .i64 x, .int .i64 kn, .int .i64 o]) ST5.out.M.mp keyed Tryz.underlying63 hm63 (key_of (i := L + 1) ⟨by omega, by omega⟩) (spanR_mk (L + 1, x, kn, o))
  have ST6 := hidb ((ST5.out.below SD.out (Below.refl _ w5).drew).put SD.out hg6 hown6)
  have hq6 : w6.heap[q]? = some (.cells #[.int .i64 (L + 1), .int .i64 x, .int .i64 kn, .int .i64 o] 43 (0, 0)) := by
    have hlq : q < w5.heap.size := (Array.getElem?_eq_some_iff.1 HQ6.out).1
    have hsig := SD.out.k5 _ SD.out.k3.2.2.2
    have hh1 := SD.out.h1
    have hh2 := SD.out.h2
    rw [hg6.block q hlq (fun e => by injection e with e; omega)]
    exact HQ6.out
  have S6 : Hid (w6.cell? ⟨p, 2, none⟩ = some (.map (some mb)) ∧ w6.cell? ⟨q, 0, none⟩ = some (.int .i64 (L + 1)) ∧ w6.cell? ⟨q, 1, none⟩ = some (.int .i64 x) ∧ w6.cell? ⟨q, 2, none⟩ = some (.int .i64 kn) ∧ w6.cell? ⟨q, 3, none⟩ = some (.int .i64 o)) := hidb (by
    obtain ⟨a0, a1, a2, a3, _⟩ := cells4 hq6
    exact ⟨ST6.out.M.c2, a0, a1, a2, a3⟩)
  clear hown6 hg6 HQ6 HQ5 HS5 cs
  go_wp2
  go_region_held3 (fun w' => w'.cell? ⟨p, 2, none⟩ = some (.map (some mb)) ∧ w'.cell? ⟨q, 0, none⟩ = some (.int .i64 (L + 1)) ∧ w'.cell? ⟨q, 1, none⟩ = some (.int .i64 x) ∧ w'.cell? ⟨q, 2, none⟩ = some (.int .i64 kn) ∧ w'.cell? ⟨q, 3, none⟩ = some (.int .i64 o)) (first | exact S6.out | (go_keep; done)) (fail)
  clear hrun S6 ST5 ST4 HQ4 y0 y1 y2 t0 t1 t2 t3 c0 y0' y1' y2' y3' c0' c2
  obtain ⟨y0, y1, y2, y3, z0, z1, z2, z3⟩ := cells4 hq6
  obtain ⟨r0, r1, r2, r3, f0, f1, f2, f3⟩ := cells4 ST6.out.R
  go_wp2
  obtain ⟨x0, x1, x2, x3⟩ := four_cellsH w6 w.heap.size (.int .i64 (L + 1)) (.int .i64 x) (.int .i64 kn) (.int .i64 o) _ _ _ _ r0 r1 r2 r3
  refine bodyPost_ret (v := .tuple #[.agg #[.int .i64 (L + 1), .int .i64 x, .int .i64 kn, .int .i64 o], .int .i64 0]) (by simp [results, Tryz.results11, go_sem, x0, x1, x2, x3]) rfl ?_
  exact ⟨rfl, ST6.out.end_ SD.out HKE.out (kept_set4 _ _ _ _)⟩

/-- Make of what may not be. -/
def NoSpan (w : World) (no : Int) (e : Ending) (w' : World) : Prop := e = .returned (.tuple #[spv spanNone, .int .i64 no]) ∧ Below w.heap.size w w'
theorem code_hmake_arg (a : Option Addr) (kn o : Int) (w : World) (hbad : kn < 1 ∨ o < -1 ∨ 3 < o) :
    Calls Tryz.prog 11 #[.pointer a, .int .i64 kn, .int .i64 o] w (NoSpan w 1) := by
  by_cases c1 : kn < 1
  · clear hbad
    go_enter Tryz.func11, Tryz.ntmps11
    go_wp2
    refine bodyPost_ret (v := .tuple #[.agg #[.int .i64 0, .int .i64 0, .int .i64 0, .int .i64 0], .int .i64 1]) (by simp [results, Tryz.results11, go_sem]) rfl ?_
    exact ⟨rfl, (Below.refl _ _).alloc (Nat.le_refl _) _⟩
  by_cases c2 : o < -1
  · clear hbad
    go_enter Tryz.func11, Tryz.ntmps11
    go_wp2
    refine bodyPost_ret (v := .tuple #[.agg #[.int .i64 0, .int .i64 0, .int .i64 0, .int .i64 0], .int .i64 1]) (by simp [results, Tryz.results11, go_sem]) rfl ?_
    exact ⟨rfl, (Below.refl _ _).alloc (Nat.le_refl _) _⟩
  · have c3 : 4 ≤ o := by omega
    clear hbad
    go_enter Tryz.func11, Tryz.ntmps11
    go_wp2
    refine bodyPost_ret (v := .tuple #[.agg #[.int .i64 0, .int .i64 0, .int .i64 0, .int .i64 0], .int .i64 1]) (by simp [results, Tryz.results11, go_sem]) rfl ?_
    exact ⟨rfl, (Below.refl _ _).alloc (Nat.le_refl _) _⟩
/-- Make where no run is long enough. -/
theorem code_hmake_full {w : World} {S : Nat → Prop} {p : Nat} {h : HeapV} (k : Hp w S p h) (kn o : Int) (h0 : in64 kn) (hok : ¬ (kn < 1 ∨ o < -1 ∨ 3 < o)) (hb : fBest h.free kn = none) :
    Calls Tryz.prog 11 #[.pointer (some ⟨p, 0, none⟩), .int .i64 kn, .int .i64 o] w (MadeHp w S p (hMake h kn o)) := by
  rw [hMake_full hok hb]
  obtain ⟨ip, ig, fp, mb, n, m, ids, D, Sf, k1, k2, k3, k4, k5, k6, k7⟩ := k
  have hft : fTake h.free kn = h.free := by unfold fTake; rw [hb]
  have ct : ∀ W, Fr W Sf fp h.free → Calls Tryz.prog 33 #[.pointer (some ⟨fp, 0, none⟩), .int .i64 kn] W fun e w' => e = .returned (.tuple #[.agg #[.int .i64 0, .int .i64 0], .bool false]) ∧ Fr w' (more Sf W w') fp h.free ∧ Kept Sf W w' := fun W hF => by
    have := code_rtake hF kn h0
    rw [hft, hb] at this
    exact this
  have cp := code_hparts p _ _ _ _ _ (alloc_old (.cells #[.int .i64 0, .int .i64 0, .int .i64 0, .int .i64 0] 43) k1.c0) (alloc_old _ k1.c1) (alloc_old _ k1.c2) (alloc_old _ k1.c3)
  have ff := field_fr
  have hk1 : ¬ kn < 1 := fun c => hok (Or.inl c)
  have hk2 : ¬ o < -1 := fun c => hok (Or.inr (Or.inl c))
  have hk3 : ¬ 4 ≤ o := fun c => hok (Or.inr (Or.inr (by omega)))
  have HB0 : Hid (Below w.heap.size w (w.alloc (.cells #[.int .i64 0, .int .i64 0, .int .i64 0, .int .i64 0] 43))) := hidb ((Below.refl _ _).alloc (Nat.le_refl _) _)
  have hzz : w.heap.size < (w.alloc (.cells #[.int .i64 0, .int .i64 0, .int .i64 0, .int .i64 0] 43)).heap.size := by simp
  have HF1 : Hid (∀ W, Below w.heap.size w W → Fr W Sf fp h.free) := hidb (fun W hb => k2.below hb)
  obtain ⟨g, hg⟩ : ∃ g, h.free = g := ⟨_, rfl⟩
  have HK := hidb k1.toHpK
  have HST : Hid (∀ w1 w2, Below (w.alloc (.cells #[.int .i64 0, .int .i64 0, .int .i64 0, .int .i64 0] 43)).heap.size (w.alloc (.cells #[.int .i64 0, .int .i64 0, .int .i64 0, .int .i64 0] 43)) w1 → Kept Sf w1 w2 → Fr w2 (more Sf w1 w2) fp h.free → Sides w w1 w2 S Sf p ip ig mb ∧ MkSt w w1 w2 w2 S Sf p ip ig fp mb n m ids D h.last h.free) := hidb (fun w1 w2 hb1 hK hF => by
    have hb2 := HB0.out.trans (hb1.mono (Nat.le_of_lt hzz))
    have hs1 : w.heap.size < w1.heap.size := Nat.lt_of_lt_of_le hzz hb1.size
    have s : Sides w w1 w2 S Sf p ip ig mb := ⟨k3, k4, k5, k6, k7, hs1, hK.size⟩
    refine ⟨s, (k1.toHpM.below hb2).keptF hK k6, hF, (Kept.of_below hb2 S).trans hK (fun b _ hb => k4 b hb), ?_, Nat.le_refl _⟩
    rw [hK.block _ hs1 (fun c => by have := k5 _ (k4 _ c); omega), hb1.block _ hzz]
    show (w.heap.push _)[w.heap.size]? = _
    simp)
  clear k1 k2 k3 k4 k5 k6 k7 hok hb hft h0 hg
  go_enter Tryz.func11, Tryz.ntmps11
  go_wp2_with (first
    | (go_at_call 26; (with_reducible refine cp.mono ?_); rintro e w1 ⟨rfl, hb1⟩; have hb2 := HB0.out.trans (hb1.mono (Nat.le_of_lt hzz)); have HFR1 := hidb (HF1.out _ hb2))
    | (go_at_call 33; (with_reducible refine (ct _ HFR1.out).mono ?_); rintro e w2 ⟨rfl, F2, hK2⟩; obtain ⟨sd, st⟩ := HST.out w1 w2 hb1 hK2 F2; have SD := hidb sd; have ST := hidb st; clear sd st F2 hK2; obtain ⟨r0, r1, r2, r3, f0, f1, f2, f3⟩ := cells4 ST.out.R; have hlt1 : w.heap.size < w2.heap.size := lt_of_cell r0))
  obtain ⟨y0, y1, y2, y3⟩ := four_cellsH w2 w.heap.size (.int .i64 0) (.int .i64 0) (.int .i64 0) (.int .i64 0) _ _ _ _ r0 r1 r2 r3
  have x0 := alloc_old (.cells #[.int .i64 0, .int .i64 0] 41) y0
  have x1 := alloc_old (.cells #[.int .i64 0, .int .i64 0] 41) y1
  have x2 := alloc_old (.cells #[.int .i64 0, .int .i64 0] 41) y2
  have x3 := alloc_old (.cells #[.int .i64 0, .int .i64 0] 41) y3
  refine bodyPost_ret (v := .tuple #[.agg #[.int .i64 0, .int .i64 0, .int .i64 0, .int .i64 0], .int .i64 3]) (by simp [results, Tryz.results11, go_sem, x0, x1, x2, x3]) rfl ?_
  refine ⟨rfl, ST.out.end_ SD.out HK.out ((kept_set4 _ _ _ _).trans (Kept.of_below ((Below.refl _ _).alloc (Nat.le_refl _) _) _) (fun _ _ h => h))⟩
/-- Make of a nil heap. -/
theorem code_hmake_nil (kn o : Int) (h0 : in64 kn) (hok : ¬ (kn < 1 ∨ o < -1 ∨ 3 < o)) (w : World) :
    Calls Tryz.prog 11 #[.pointer none, .int .i64 kn, .int .i64 o] w (NoSpan w 3) := by
  have ct := fun W => code_rtake_nil W kn h0
  have cp := code_hparts_nil (w.alloc (.cells #[.int .i64 0, .int .i64 0, .int .i64 0, .int .i64 0] 43))
  have ff := field_fr
  have hk1 : ¬ kn < 1 := fun c => hok (Or.inl c)
  have hk2 : ¬ o < -1 := fun c => hok (Or.inr (Or.inl c))
  have hk3 : ¬ 4 ≤ o := fun c => hok (Or.inr (Or.inr (by omega)))
  have HB0 : Hid (Below w.heap.size w (w.alloc (.cells #[.int .i64 0, .int .i64 0, .int .i64 0, .int .i64 0] 43))) := hidb ((Below.refl _ _).alloc (Nat.le_refl _) _)
  have hzz : w.heap.size < (w.alloc (.cells #[.int .i64 0, .int .i64 0, .int .i64 0, .int .i64 0] 43)).heap.size := by simp
  have HC : Hid (∀ W, Below (w.alloc (.cells #[.int .i64 0, .int .i64 0, .int .i64 0, .int .i64 0] 43)).heap.size (w.alloc (.cells #[.int .i64 0, .int .i64 0, .int .i64 0, .int .i64 0] 43)) W → W.heap[w.heap.size]? = some (.cells #[.int .i64 0, .int .i64 0, .int .i64 0, .int .i64 0] 43 (0, 0))) := hidb (fun W hb => (hb.block _ hzz).trans (by show (w.heap.push _)[w.heap.size]? = _; simp))
  clear hok h0
  go_enter Tryz.func11, Tryz.ntmps11
  go_wp2_with (first
    | (go_at_call 26; (with_reducible refine cp.mono ?_); rintro e w1 ⟨rfl, hb1⟩; have hb2 := HB0.out.trans (hb1.mono (Nat.le_of_lt hzz)))
    | (go_at_call 33; (with_reducible refine (ct _).mono ?_); rintro e w2 ⟨rfl, hb3⟩; obtain ⟨r0, r1, r2, r3, f0, f1, f2, f3⟩ := cells4 (HC.out _ (hb1.trans (hb3.mono hb1.size))); have hlt1 : w.heap.size < w2.heap.size := lt_of_cell r0))
  obtain ⟨y0, y1, y2, y3⟩ := four_cellsH w2 w.heap.size (.int .i64 0) (.int .i64 0) (.int .i64 0) (.int .i64 0) _ _ _ _ r0 r1 r2 r3
  have x0 := alloc_old (.cells #[.int .i64 0, .int .i64 0] 41) y0
  have x1 := alloc_old (.cells #[.int .i64 0, .int .i64 0] 41) y1
  have x2 := alloc_old (.cells #[.int .i64 0, .int .i64 0] 41) y2
  have x3 := alloc_old (.cells #[.int .i64 0, .int .i64 0] 41) y3
  refine bodyPost_ret (v := .tuple #[.agg #[.int .i64 0, .int .i64 0, .int .i64 0, .int .i64 0], .int .i64 3]) (by simp [results, Tryz.results11, go_sem, x0, x1, x2, x3]) rfl ?_
  have hb4 := below_set4H (hb2.trans (hb3.mono hb2.size)) (Nat.le_refl _) (.int .i64 0) (.int .i64 0) (.int .i64 0) (.int .i64 0)
  exact ⟨rfl, hb4.alloc hb4.size _⟩
/-- Make. -/
theorem code_hmake {w : World} {S : Nat → Prop} {p : Nat} {h : HeapV} (k : Hp w S p h) (kn o : Int) (h0 : in64 kn) (h1 : in64 o) (hlb : h.last + 1 ≤ 1000000000) :
    Calls Tryz.prog 11 #[.pointer (some ⟨p, 0, none⟩), .int .i64 kn, .int .i64 o] w (MadeHp w S p (hMake h kn o)) := by
  by_cases c : kn < 1 ∨ o < -1 ∨ 3 < o
  · refine (code_hmake_arg _ kn o w c).mono ?_
    rintro e w' ⟨rfl, hb⟩
    rw [hMake_arg c]
    exact ⟨rfl, k.more_ hb, Kept.of_below hb S⟩
  · cases hb : fBest h.free kn with
    | none => exact code_hmake_full k kn o h0 c hb
    | some r => exact code_hmake_yes k kn o h0 h1 c hlb r hb

end Go.Proofs.YtcngcibiibchiaaGreat
