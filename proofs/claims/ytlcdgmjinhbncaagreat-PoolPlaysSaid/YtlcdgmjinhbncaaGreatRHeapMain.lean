import Derived.Test.YtlcdgmjinhbncaaGreatRShelf
import Derived.Test.YtlcdgmjinhbncaaGreatRRunsMain
import Derived.Deep.RegionHeld3
import Derived.Deep.RegionWith
import Derived.Lib.SlMapFilter
import Derived.WalkKit
import Derived.Deep.LoopGhost
import Derived.Laws.IdiomRangeMap
import Derived.Maps.OwnSet
namespace Go.Proofs.YtlcdgmjinhbncaaGreat
open Go.RowKit Go.Maps
set_option linter.unusedVariables false
section
variable {w w1 w2 w' : World} {S Sf : Nat -> Prop} {p ip ig fp mb n m : Nat} {ids : List Int} {D : DataW Unit} {h : HeapV} {last : Int}
theorem Hp.intro (M : HpM w' p ip ig fp mb n m ids D h.last) (K : HpK m ids D h) (F : Fr w' (more Sf w1 w2) fp h.free) (k3 : S p /\ S ip /\ S ig /\ S mb) (k4 : ∀ b,Sf b -> S b) (k5 : ∀ b,S b -> b < w.heap.size)
  (k6 : ¬ Sf p /\ ¬ Sf ip /\ ¬ Sf ig /\ ¬ Sf mb) (k7 : p ≠ ip /\ p ≠ ig /\ p ≠ mb /\ mb ≠ ip /\ mb ≠ ig) (h1 : w.heap.size <= w1.heap.size) (h2 : w1.heap.size <= w2.heap.size) (h3 : w2.heap.size <= w'.heap.size) : Hp w' (more S w w') p h := by
 have hm : ∀ b,S b -> more S w w' b := fun b hb => ⟨Or.inl hb,by have := k5 b hb;omega⟩
 have hn : ∀ b,S b -> ¬ Sf b -> ¬ more Sf w1 w2 b := fun b hb hnb c => hnb (xjl (by have := k5 b hb;omega) c)
 refine ⟨ip,ig,fp,mb,n,m,ids,D,more Sf w1 w2,⟨M,K⟩,F,⟨hm _ k3.1,hm _ k3.2.1,hm _ k3.2.2.1,hm _ k3.2.2.2⟩,fun b hb => ?_,fun b hb => hb.2,⟨hn _ k3.1 k6.1,hn _ k3.2.1 k6.2.1,hn _ k3.2.2.1 k6.2.2.1,hn _ k3.2.2.2 k6.2.2.2⟩,k7⟩
 have h4 := hb.2
 rcases hb.1 with c | c
 ·exact ⟨Or.inl (k4 b c),by omega⟩
 ·exact ⟨Or.inr (by omega),by omega⟩
theorem HpM.made (M : HpM w p ip ig fp mb n m ids D last) (k7 : p ≠ ip /\ p ≠ ig /\ p ≠ mb /\ mb ≠ ip /\ mb ≠ ig) (v : Int) : HpM (w.setCell ⟨p,3,none⟩ (.int .i64 v)) p ip ig fp mb n m ids D v := by
 have ho : ∀ j,3 ≠ j -> (w.setCell ⟨p,3,none⟩ (.int .i64 v)).cell? ⟨p,j,none⟩ = w.cell? ⟨p,j,none⟩ := fun j hj => World.cell?_setCell_other w _ _ _ (fun e => hj (by injection e))
 have hb : ∀ b,p ≠ b -> (w.setCell ⟨p,3,none⟩ (.int .i64 v)).heap[b]? = w.heap[b]? := fun b hb => heap_setCell_other w _ b _ (fun e => hb e.symm)
 refine ⟨(ho 0 (by decide)).trans M.c0,(ho 1 (by decide)).trans M.c1,(ho 2 (by decide)).trans M.c2,World.cell?_setCell_same _ _ _ M.c3,fun j => (World.frozen?_setCell _ _ _ _).trans (M.fz j),?_,xq2 M.mp (hb mb k7.2.2.1)⟩
 exact ⟨(World.cell?_of_block (w := w) (a := ⟨ip,0,none⟩) (hb ip k7.1)).trans M.ix.cell,(hb ig k7.2.1).trans M.ix.heap,M.ix.hlen,M.ix.ge,M.ix.geg,M.ix.ne,M.ix.small⟩
theorem HpM.setIx {ids' : List Int} (M : HpM w p ip ig fp mb n m ids D last) (k7 : p ≠ ip /\ p ≠ ig /\ p ≠ mb /\ mb ≠ ip /\ mb ≠ ig) (hg : w.grownBy w' (some ig)) (hx : Ix w' 0 ip ig n ids') : HpM w' p ip ig fp mb n m ids' D last := by
 obtain ⟨l1,l2,l3,l4⟩ := M.lts
 have hb := hg.block p l1 (fun e => k7.2.1 (by injection e))
 have hc : ∀ j,w'.cell? ⟨p,j,none⟩ = w.cell? ⟨p,j,none⟩ := fun j => World.cell?_of_block (w := w) (a := ⟨p,j,none⟩) hb
 exact ⟨(hc 0).trans M.c0,(hc 1).trans M.c1,(hc 2).trans M.c2,(hc 3).trans M.c3,fun j => (World.frozen?_of_block (w := w) (a := ⟨p,j,none⟩) hb).trans (M.fz j),hx,xq2 M.mp (hg.block mb l4 (fun e => k7.2.2.2.2 (by injection e)))⟩
theorem HpM.put {m' : Nat} {D' : DataW Unit} (M : HpM w p ip ig fp mb n m ids D last) (k7 : p ≠ ip /\ p ≠ ig /\ p ≠ mb /\ mb ≠ ip /\ mb ≠ ig) (hg : w.grownBy w' (some mb)) (hm : w'.ownsMap Tryz.prog 3 spanR mb m' D') : HpM w' p ip ig fp mb n m' ids D' last := by
 obtain ⟨l1,l2,l3,l4⟩ := M.lts
 have hb := hg.block p l1 (fun e => k7.2.2.1 (by injection e))
 have hc : ∀ j,w'.cell? ⟨p,j,none⟩ = w.cell? ⟨p,j,none⟩ := fun j => World.cell?_of_block (w := w) (a := ⟨p,j,none⟩) hb
 refine ⟨(hc 0).trans M.c0,(hc 1).trans M.c1,(hc 2).trans M.c2,(hc 3).trans M.c3,fun j => (World.frozen?_of_block (w := w) (a := ⟨p,j,none⟩) hb).trans (M.fz j),?_,hm⟩
 exact M.ix.grown hg (fun e => k7.2.2.2.1 e.symm) (fun e => k7.2.2.2.2 e.symm)
theorem HpM.keptF (M : HpM w p ip ig fp mb n m ids D last) (hK : Kept Sf w w') (k6 : ¬ Sf p /\ ¬ Sf ip /\ ¬ Sf ig /\ ¬ Sf mb) : HpM w' p ip ig fp mb n m ids D last := by
 obtain ⟨l1,l2,l3,l4⟩ := M.lts
 refine M.keep fun b hb => ?_
 rcases hb with rfl | rfl | rfl | rfl
 ·exact hK.block _ l1 k6.1
 ·exact hK.block _ l2 k6.2.1
 ·exact hK.block _ l3 k6.2.2.1
 ·exact hK.block _ l4 k6.2.2.2
end
theorem Hp.more_ {w w' : World} {S : Nat -> Prop} {p : Nat} {h : HeapV} (k : Hp w S p h) (hb : Below w.heap.size w w') : Hp w' (more S w w') p h := by
 obtain ⟨ip,ig,fp,mb,n,m,ids,D,Sf,k1,k2,k3,k4,k5,k6,k7⟩ := k.below hb
 have hm : ∀ b,S b -> more S w w' b := fun b hb' => ⟨Or.inl hb',k5 b hb'⟩
 exact ⟨ip,ig,fp,mb,n,m,ids,D,Sf,k1,k2,⟨hm _ k3.1,hm _ k3.2.1,hm _ k3.2.2.1,hm _ k3.2.2.2⟩,fun b hb' => hm b (k4 b hb'),fun b hb' => hb'.2,k6,k7⟩
theorem yqh {w : World} {mb m : Nat} {D : DataW Unit} (h : w.ownsMap Tryz.prog 3 spanR mb m D) : Maps.IsMap D := by
 obtain ⟨_,_,_,_,_,rfl⟩ := h
 exact ⟨_,rfl⟩
structure Sides (w w1 w2 : World) (S Sf : Nat -> Prop) (p ip ig mb : Nat) : Prop where
 k3 : S p /\ S ip /\ S ig /\ S mb
 k4 : ∀ b,Sf b -> S b
 k5 : ∀ b,S b -> b < w.heap.size
 k6 : ¬ Sf p /\ ¬ Sf ip /\ ¬ Sf ig /\ ¬ Sf mb
 k7 : p ≠ ip /\ p ≠ ig /\ p ≠ mb /\ mb ≠ ip /\ mb ≠ ig
 h1 : w.heap.size < w1.heap.size
 h2 : w1.heap.size <= w2.heap.size
def Four (p ip ig mb b : Nat) : Prop := b = p \/ b = ip \/ b = ig \/ b = mb
structure MkSt (w w1 w2 W : World) (S Sf : Nat -> Prop) (p ip ig fp mb n m : Nat) (ids : List Int) (D : DataW Unit) (last : Int) (g : List Bool) : Prop where
 M : HpM W p ip ig fp mb n m ids D last
 F : Fr W (more Sf w1 w2) fp g
 K : Kept S w W
 R : W.heap[w.heap.size]? = some (.cells #[.int .i64 0,.int .i64 0,.int .i64 0,.int .i64 0] 49 (0,0))
 le : w2.heap.size <= W.heap.size
section
variable {w w1 w2 W W' : World} {S Sf : Nat -> Prop} {p ip ig fp mb n m m' : Nat} {ids ids' : List Int} {D D' : DataW Unit} {last last' : Int} {g : List Bool} {h : HeapV}
theorem Sides.four (s : Sides w w1 w2 S Sf p ip ig mb) : ∀ b,Four p ip ig mb b -> S b /\ ¬ Sf b := fun b hb => by
 rcases hb with rfl | rfl | rfl | rfl
 ·exact ⟨s.k3.1,s.k6.1⟩
 ·exact ⟨s.k3.2.1,s.k6.2.1⟩
 ·exact ⟨s.k3.2.2.1,s.k6.2.2.1⟩
 ·exact ⟨s.k3.2.2.2,s.k6.2.2.2⟩
theorem MkSt.step (s : Sides w w1 w2 S Sf p ip ig mb) (h : MkSt w w1 w2 W S Sf p ip ig fp mb n m ids D last g) (hK : Kept (Four p ip ig mb) W W') (M' : HpM W' p ip ig fp mb n m' ids' D' last') : MkSt w w1 w2 W' S Sf p ip ig fp mb n m' ids' D' last' g := by
 have hlt : w.heap.size < W.heap.size := (Array.getElem?_eq_some_iff.1 h.R).1
 refine ⟨M',h.F.keep hK fun b hb c => ?_,h.K.trans hK (fun b _ hb => (s.four b hb).1),(hK.block _ hlt fun c => ?_).trans h.R,Nat.le_trans h.le hK.size⟩
 ·have h1 := s.four b c
  have h2 := s.k5 b h1.1
  have h3 := s.h1
  exact h1.2 (xjl (by omega) hb)
 ·have := s.k5 _ (s.four _ c).1
  omega
theorem MkSt.below (s : Sides w w1 w2 S Sf p ip ig mb) (h : MkSt w w1 w2 W S Sf p ip ig fp mb n m ids D last g) (hb : Below W.heap.size W W') : MkSt w w1 w2 W' S Sf p ip ig fp mb n m ids D last g :=
 h.step s (Kept.of_below hb _) (h.M.below hb)
theorem MkSt.made (s : Sides w w1 w2 S Sf p ip ig mb) (h : MkSt w w1 w2 W S Sf p ip ig fp mb n m ids D last g) (v : Int) : MkSt w w1 w2 (W.setCell ⟨p,3,none⟩ (.int .i64 v)) S Sf p ip ig fp mb n m ids D v g :=
 h.step s ((Kept.refl _ W).set (a := ⟨p,3,none⟩) (Or.inl (Or.inl rfl)) _) (h.M.made s.k7 v)
theorem MkSt.setIx (s : Sides w w1 w2 S Sf p ip ig mb) (h : MkSt w w1 w2 W S Sf p ip ig fp mb n m ids D last g) (hg : W.grownBy W' (some ig)) (hx : Ix W' 0 ip ig n ids') : MkSt w w1 w2 W' S Sf p ip ig fp mb n m ids' D last g :=
 h.step s ((Kept.refl _ W).grown hg fun k e => by injection e with e;exact Or.inl (Or.inr (Or.inr (Or.inl e.symm)))) (h.M.setIx s.k7 hg hx)
theorem MkSt.put (s : Sides w w1 w2 S Sf p ip ig mb) (h : MkSt w w1 w2 W S Sf p ip ig fp mb n m ids D last g) (hg : W.grownBy W' (some mb)) (hm : W'.ownsMap Tryz.prog 3 spanR mb m' D') : MkSt w w1 w2 W' S Sf p ip ig fp mb n m' ids D' last g :=
 h.step s ((Kept.refl _ W).grown hg fun k e => by injection e with e;exact Or.inl (Or.inr (Or.inr (Or.inr e.symm)))) (h.M.put s.k7 hg hm)
theorem MkSt.end_ (s : Sides w w1 w2 S Sf p ip ig mb) (h' : MkSt w w1 w2 W S Sf p ip ig fp mb n m ids D h.last h.free) (K : HpK m ids D h) (hk : Kept (fun b => b = w.heap.size) W W') : Hp W' (more S w W') p h /\ Kept S w W' := by
 have h1 := s.h1
 have h2 := s.h2
 have h3 := hk.size
 have h4 := h'.le
 have hF : Fr W' (more Sf w1 w2) fp h.free := h'.F.keep hk fun b hb e => by
  have e2 : b = w.heap.size := e
  have := s.k5 b (s.k4 b (xjl (by omega) hb))
  omega
 have hl := h'.M.lts
 have hne : ∀ b,Four p ip ig mb b -> ¬ b = w.heap.size := fun b hb e => by
  have := s.k5 b (s.four b hb).1
  omega
 refine ⟨Hp.intro (h'.M.keep fun b hb' => hk.block b ?_ (hne b hb')) K hF s.k3 s.k4 s.k5 s.k6 s.k7 (by omega) h2 (by omega),?_⟩
 ·rcases hb' with rfl | rfl | rfl | rfl <;> omega
 ·exact ⟨hk.os.trans h'.K.os,hk.tape.trans h'.K.tape,hk.output.trans h'.K.output,Nat.le_trans h'.K.size h3,fun b hb hn => (hk.block b (by omega) (show ¬ b = w.heap.size by omega)).trans (h'.K.block b hb hn)⟩
theorem xK8 {q : Nat} (u0 u1 u2 u3 : Value) : Kept (fun b => b = q) W ((((W.setCell ⟨q,0,none⟩ u0).setCell ⟨q,1,none⟩ u1).setCell ⟨q,2,none⟩ u2).setCell ⟨q,3,none⟩ u3) :=
 ((((Kept.refl (fun b => b = q) W).set (a := ⟨q,0,none⟩) (Or.inl rfl) u0).set (a := ⟨q,1,none⟩) (Or.inl rfl) u1).set (a := ⟨q,2,none⟩) (Or.inl rfl) u2).set (a := ⟨q,3,none⟩) (Or.inl rfl) u3
end
theorem RnOne.plain_ (w : World) (s l : Int) (e : TypeId) : Rn (w.alloc (.cells #[.int .i64 s,.int .i64 l] e)) (w.alloc (.cells #[.int .i64 s,.int .i64 l] e)).heap.size (some ⟨w.heap.size,0,none⟩) 1 [(s,l)] := by
 refine ⟨rfl,fun _ => ⟨w.heap.size,0,rfl,by simp,fun j r hj => ?_⟩⟩
 match j,hj with
 | 0,hj =>
  obtain rfl : (s,l) = r := by simpa using hj
  exact ⟨World.cell?_alloc_at _ _ _ 0 (by simp),World.cell?_alloc_at _ _ _ 1 (by simp)⟩
 | j + 1,hj => simp at hj
theorem RnOne.drew_ (w : World) (s l : Int) (e : TypeId) : Rn ((w.alloc (.cells #[.int .i64 s,.int .i64 l] e)).drew) ((w.alloc (.cells #[.int .i64 s,.int .i64 l] e)).drew).heap.size (some ⟨w.heap.size,0,none⟩) 1 [(s,l)] := by
 refine ⟨rfl,fun _ => ⟨w.heap.size,0,rfl,by simp,fun j r hj => ?_⟩⟩
 match j,hj with
 | 0,hj =>
  obtain rfl : (s,l) = r := by simpa using hj
  exact ⟨World.cell?_alloc_at _ _ _ 0 (by simp),World.cell?_alloc_at _ _ _ 1 (by simp)⟩
 | j + 1,hj => simp at hj
def MadeHp (w : World) (S : Nat -> Prop) (p : Nat) (r : HeapV × (Int × Int × Int × Int) × Int) (e : Ending) (w' : World) : Prop :=
 e = .returned (.tuple #[spv r.2.1,.int .i64 r.2.2]) /\ Hp w' (more S w w') p r.1 /\ Kept S w w'
set_option maxHeartbeats 2000000 in
theorem xQn {w : World} {S : Nat -> Prop} {p : Nat} {h : HeapV} (k : Hp w S p h) (kn o : Int) (h0 : in64 kn) (h1 : in64 o) (hok : ¬ (kn < 1 \/ o < -1 \/ 3 < o)) (hlb : h.last + 1 <= 1000000000) (r : Int × Int) (hb : fBest h.free kn = some r) :
  Calls Tryz.prog 72 #[.pointer (some ⟨p,0,none⟩),.int .i64 kn,.int .i64 o] w (MadeHp w S p (hMake h kn o)) := by
 obtain ⟨ip,ig,fp,mb,n,m,ids,D,Sf,k1,k2,k3,k4,k5,k6,k7⟩ := k
 obtain ⟨g,e1,e2,e3,e4,e5⟩ := xzk k1.ok hok hb
 obtain ⟨ids',e6,e7⟩ := yx3 (o := o) k1.ok k1.pt hb (by omega) g e2 e3
 have hft : fTake h.free kn = g := by unfold fTake;rw [hb];simp only;rw [e1]
 have hD := yqh k1.mp
 obtain ⟨L,hL⟩ : ∃ L,h.last = L := ⟨_,rfl⟩
 have hL0 : 0 <= L := by rw [<- hL];exact k1.ok.la
 have hL1 : L + 1 <= 1000000000 := by rw [<- hL];exact hlb
 obtain ⟨x,hx⟩ : ∃ x,r.1 = x := ⟨_,rfl⟩
 have hx64 : in64 x := by
  obtain ⟨a1,a2,a3⟩ := (xqd _).1 e2
  simp only at a1 a2 a3
  exact ⟨by omega,by omega⟩
 have ct : ∀ W,Fr W Sf fp h.free -> Calls Tryz.prog 146 #[.pointer (some ⟨fp,0,none⟩),.int .i64 kn] W fun e w' => e = .returned (.tuple #[.agg #[.int .i64 x,.int .i64 kn],.bool true]) /\ Fr w' (more Sf W w') fp g /\ Kept Sf W w' := fun W hF => by
  have := xXe hF kn h0
  rw [hft,hb] at this
  simp only [Option.map_some] at this
  unfold TookFr at this
  rw [<- hx]
  exact this
 rw [hL,hx] at e6 e7
 have HKE : Hid (HpK (m + 1) ids' (D.put (.int .i64 (L + 1)) (encS (L + 1,x,kn,o))) ⟨h.pages,g,h.l ++ [(L + 1,x,kn,o)],L + 1⟩) := hidb ⟨by
   have := k1.mis.put hD (s := (L + 1,x,kn,o)) (fun t ht => by have := k1.ok.idr t ht;show t.1 ≠ L + 1;omega) ⟨by show _ <= L + 1;omega,by show L + 1 <= _;omega⟩
   exact this,e7,by rw [hL,hx] at e5;exact e5,by have := k1.la;show ((m + 1 : Nat) : Int) <= L + 1;omega,hL1⟩
 have hm63 : m < maxLen := by have := k1.la;have := k1.lb;unfold maxLen;omega
 have cset : ∀ W A,HpM W p ip ig fp mb n m ids D (L + 1) -> Rn W W.heap.size (some ⟨A,0,none⟩) 1 [(x,kn)] -> A ≠ ig -> Calls Tryz.prog 147 #[.pointer (some ⟨ip,0,none⟩),.int .i64 (L + 1),.slice (some ⟨A,0,none⟩) 1 1] W fun e w' => e = .returned (.int .i64 0) /\ Ix w' 0 ip ig n ids' /\ W.grownBy w' (some ig) := fun W A hM hR hne => by
  have := yju (L + 1) (some ⟨A,0,none⟩) 1 1 [(x,kn)] W hM.ix (fun b off _ e => by injection e with e;injection e with e;rw [<- e];exact hne) hR (by omega) (fun r hr => by obtain rfl := List.mem_singleton.1 hr;exact ⟨hx64,h0⟩) ⟨by omega,by omega⟩
  rw [e6] at this
  exact this
 rw [e4,hL,hx]
 have cp := xqv p _ _ _ _ _ (xq1 (.cells #[.int .i64 0,.int .i64 0,.int .i64 0,.int .i64 0] 49) k1.c0) (xq1 _ k1.c1) (xq1 _ k1.c2) (xq1 _ k1.c3)
 have ff := xZs
 rw [hL] at cp
 have hk1 : ¬ kn < 1 := fun c => hok (Or.inl c)
 have hk2 : ¬ o < -1 := fun c => hok (Or.inr (Or.inl c))
 have hk3 : ¬ 4 <= o := fun c => hok (Or.inr (Or.inr (by omega)))
 have HB0 : Hid (Below w.heap.size w (w.alloc (.cells #[.int .i64 0,.int .i64 0,.int .i64 0,.int .i64 0] 49))) := hidb ((Below.refl _ _).alloc (Nat.le_refl _) _)
 have hzz : w.heap.size < (w.alloc (.cells #[.int .i64 0,.int .i64 0,.int .i64 0,.int .i64 0] 49)).heap.size := by simp
 have HF1 : Hid (∀ W,Below w.heap.size w W -> Fr W Sf fp h.free) := hidb (fun W hb => k2.below hb)
 have HST : Hid (∀ w1 w2,Below (w.alloc (.cells #[.int .i64 0,.int .i64 0,.int .i64 0,.int .i64 0] 49)).heap.size (w.alloc (.cells #[.int .i64 0,.int .i64 0,.int .i64 0,.int .i64 0] 49)) w1 -> Kept Sf w1 w2 -> Fr w2 (more Sf w1 w2) fp g -> Sides w w1 w2 S Sf p ip ig mb /\ MkSt w w1 w2 w2 S Sf p ip ig fp mb n m ids D L g) := hidb (fun w1 w2 hb1 hK hF => by
  have hb2 := HB0.out.trans (hb1.mono (Nat.le_of_lt hzz))
  have hs1 : w.heap.size < w1.heap.size := Nat.lt_of_lt_of_le hzz hb1.size
  have s : Sides w w1 w2 S Sf p ip ig mb := ⟨k3,k4,k5,k6,k7,hs1,hK.size⟩
  refine ⟨s,(hL ▸ k1.toHpM.below hb2).keptF hK k6,hF,(Kept.of_below hb2 S).trans hK (fun b _ hb => k4 b hb),?_,Nat.le_refl _⟩
  rw [hK.block _ hs1 (fun c => by have := k5 _ (k4 _ c);omega),hb1.block _ hzz]
  show (w.heap.push _)[w.heap.size]? = _
  simp)
 clear k1 k2 k3 k4 k5 k6 k7 hok hb hft hL e1 e2 e3 e4 e5 e6 e7 h0 hx hD
 go_enter Tryz.func72,Tryz.ntmps72
 go_wp2_with (first
  | (go_at_call 87;(with_reducible refine cp.mono ?_);rintro e w1 ⟨rfl,hb1⟩;have hb2 := HB0.out.trans (hb1.mono (Nat.le_of_lt hzz));have HFR1 := hidb (HF1.out _ hb2))
  | (go_at_call 146;(with_reducible refine (ct _ HFR1.out).mono ?_);rintro e w2 ⟨rfl,F2,hK2⟩;obtain ⟨sd,st⟩ := HST.out w1 w2 hb1 hK2 F2;have c3 := st.M.c3;have z3 := st.M.fz 3;have hlp := st.M.lts.1;have SD := hidb sd;have ST := hidb st;clear sd st F2 hK2))
 have ST3 := hidb ((ST.out.made SD.out (L + 1)).below SD.out (((Below.refl _ (w2.setCell ⟨p,3,none⟩ (.int .i64 (L + 1)))).alloc (Nat.le_refl _) (.cells #[.int .i64 x,.int .i64 kn] 47))))
 have y0 : ((w2.setCell ⟨p,3,none⟩ (.int .i64 (L + 1))).alloc (.cells #[.int .i64 x,.int .i64 kn] 47)).cell? ⟨w2.heap.size,0,none⟩ = some (.int .i64 x) := World.cell?_alloc_at _ _ _ 0 (by simp)
 have y1 : ((w2.setCell ⟨p,3,none⟩ (.int .i64 (L + 1))).alloc (.cells #[.int .i64 x,.int .i64 kn] 47)).cell? ⟨w2.heap.size,1,none⟩ = some (.int .i64 kn) := World.cell?_alloc_at _ _ _ 1 (by simp)
 clear cp ct c3 z3 hb1 hb2 HFR1 HF1 HST HB0 ST hlp
 generalize hW3 : (w2.setCell ⟨p,3,none⟩ (.int .i64 (L + 1))).alloc (.cells #[.int .i64 x,.int .i64 kn] 47) = W3 at ST3 y0 y1 ⊢
 clear hW3
 have c3 := ST3.out.M.c3
 have t0 := World.new_ne W3 _ c3
 have t1 := World.new_ne W3 _ y0
 have t2 := World.new_ne W3 _ y1
 go_region_held3 (fun w' => w'.cell? ⟨p,3,none⟩ = some (.int .i64 (L + 1)) /\ w'.cell? ⟨w2.heap.size,0,none⟩ = some (.int .i64 x) /\ w'.cell? ⟨w2.heap.size,1,none⟩ = some (.int .i64 kn)) (go_keep) (fail)
 clear y0 y1 t0 t1 t2 c3
 have ST4 := hidb (ST3.out.below SD.out (((Below.refl _ W3).alloc (Nat.le_refl _) (.cells #[.int .i64 (L + 1),.int .i64 x,.int .i64 kn,.int .i64 o] 49)).drew))
 have hq4 : ((W3.alloc (.cells #[.int .i64 (L + 1),.int .i64 x,.int .i64 kn,.int .i64 o] 49)).drew).heap[W3.heap.size]? = some (.cells #[.int .i64 (L + 1),.int .i64 x,.int .i64 kn,.int .i64 o] 49 (0,0)) := by
  show (W3.heap.push _)[W3.heap.size]? = _
  simp
 have hle3 := ST3.out.le
 obtain ⟨q,hq⟩ : ∃ q,W3.heap.size = q := ⟨_,rfl⟩
 rw [hq] at hq4 hle3
 rw [hq]
 clear ST3
 generalize hW4 : (W3.alloc (.cells #[.int .i64 (L + 1),.int .i64 x,.int .i64 kn,.int .i64 o] 49)).drew = W4 at ST4 hq4 ⊢
 clear hW4 hq
 have HQ4 := hidb hq4
 obtain ⟨y0,y1,y2,y3,_⟩ := cells4 hq4
 have c0 := ST4.out.M.c0
 have t0 := World.new_ne W4 _ c0
 have t1 := World.new_ne W4 _ y0
 have t2 := World.new_ne W4 _ y1
 have t3 := World.new_ne W4 _ y2
 clear hq4 y3
 have HS5 : Hid (MkSt w w1 w2 ((W4.alloc (.cells #[.int .i64 x,.int .i64 kn] 47)).drew) S Sf p ip ig fp mb n m ids D (L + 1) g) := hidb (ST4.out.below SD.out (((Below.refl _ W4).alloc (Nat.le_refl _) _).drew))
 have hR : Rn ((W4.alloc (.cells #[.int .i64 x,.int .i64 kn] 47)).drew) ((W4.alloc (.cells #[.int .i64 x,.int .i64 kn] 47)).drew).heap.size (some ⟨W4.heap.size,0,none⟩) 1 [(x,kn)] := RnOne.drew_ W4 x kn _
 have hlig := ST4.out.M.lts.2.2.1
 have cs := cset _ W4.heap.size HS5.out.M hR (by omega)
 have HQ5 : Hid (∀ w5,(W4.alloc (.cells #[.int .i64 x,.int .i64 kn] 47)).drew.grownBy w5 (some ig) -> w5.heap[q]? = some (.cells #[.int .i64 (L + 1),.int .i64 x,.int .i64 kn,.int .i64 o] 49 (0,0))) := hidb (fun w5 hg => by
  have hlq : q < W4.heap.size := (Array.getElem?_eq_some_iff.1 HQ4.out).1
  have hsig := SD.out.k5 _ SD.out.k3.2.2.1
  have hh1 := SD.out.h1
  have hh2 := SD.out.h2
  rw [hg.block q (by show q < (W4.heap.push _).size;simp;omega) (fun e => by injection e with e;omega)]
  show (W4.heap.push _)[q]? = _
  rw [Array.getElem?_push_lt hlq,<- Array.getElem?_eq_getElem hlq]
  exact HQ4.out)
 clear cset hR
 go_wp2
 go_region_held3 (fun w' => w'.cell? ⟨p,0,none⟩ = some (.pointer (some ⟨ip,0,none⟩)) /\ w'.cell? ⟨q,0,none⟩ = some (.int .i64 (L + 1)) /\ w'.cell? ⟨q,1,none⟩ = some (.int .i64 x) /\ w'.cell? ⟨q,2,none⟩ = some (.int .i64 kn)) (go_keep)
  (first | (go_at_call 147;(with_reducible refine cs.mono ?_);rintro e w5 ⟨rfl,hx5,hg5⟩;have ST5 := hidb (HS5.out.setIx SD.out hg5 hx5);have hq5 := HQ5.out _ hg5;clear hx5 hg5;have HQ6 := hidb hq5;obtain ⟨y0',y1',y2',y3',_⟩ := cells4 hq5;have c0' := ST5.out.M.c0;clear hq5))
 have c2 := ST5.out.M.c2
 obtain ⟨w6,hrun,hown6,hg6⟩ := World.ownsMap.update (P := Tryz.prog) (w := w5.drew) (val := .agg #[.int .i64 (L + 1),.int .i64 x,.int .i64 kn,.int .i64 o]) ST5.out.M.mp keyed Tryz.underlying152 hm63 (xzp (i := L + 1) ⟨by omega,by omega⟩) (xw7 (L + 1,x,kn,o))
 have ST6 := hidb ((ST5.out.below SD.out (Below.refl _ w5).drew).put SD.out hg6 hown6)
 have hq6 : w6.heap[q]? = some (.cells #[.int .i64 (L + 1),.int .i64 x,.int .i64 kn,.int .i64 o] 49 (0,0)) := by
  have hlq : q < w5.heap.size := (Array.getElem?_eq_some_iff.1 HQ6.out).1
  have hsig := SD.out.k5 _ SD.out.k3.2.2.2
  have hh1 := SD.out.h1
  have hh2 := SD.out.h2
  rw [hg6.block q hlq (fun e => by injection e with e;omega)]
  exact HQ6.out
 have S6 : Hid (w6.cell? ⟨p,2,none⟩ = some (.map (some mb)) /\ w6.cell? ⟨q,0,none⟩ = some (.int .i64 (L + 1)) /\ w6.cell? ⟨q,1,none⟩ = some (.int .i64 x) /\ w6.cell? ⟨q,2,none⟩ = some (.int .i64 kn) /\ w6.cell? ⟨q,3,none⟩ = some (.int .i64 o)) := hidb (by
  obtain ⟨a0,a1,a2,a3,_⟩ := cells4 hq6
  exact ⟨ST6.out.M.c2,a0,a1,a2,a3⟩)
 clear hown6 hg6 HQ6 HQ5 HS5 cs
 go_wp2
 go_region_held3 (fun w' => w'.cell? ⟨p,2,none⟩ = some (.map (some mb)) /\ w'.cell? ⟨q,0,none⟩ = some (.int .i64 (L + 1)) /\ w'.cell? ⟨q,1,none⟩ = some (.int .i64 x) /\ w'.cell? ⟨q,2,none⟩ = some (.int .i64 kn) /\ w'.cell? ⟨q,3,none⟩ = some (.int .i64 o)) (first | exact S6.out | (go_keep;done)) (fail)
 clear hrun S6 ST5 ST4 HQ4 y0 y1 y2 t0 t1 t2 t3 c0 y0' y1' y2' y3' c0' c2
 obtain ⟨y0,y1,y2,y3,z0,z1,z2,z3⟩ := cells4 hq6
 obtain ⟨r0,r1,r2,r3,f0,f1,f2,f3⟩ := cells4 ST6.out.R
 go_wp2
 obtain ⟨x0,x1,x2,x3⟩ := xzz w6 w.heap.size (.int .i64 (L + 1)) (.int .i64 x) (.int .i64 kn) (.int .i64 o) _ _ _ _ r0 r1 r2 r3
 refine bodyPost_ret (v := .tuple #[.agg #[.int .i64 (L + 1),.int .i64 x,.int .i64 kn,.int .i64 o],.int .i64 0]) (by simp [results,Tryz.results72,go_sem,x0,x1,x2,x3]) rfl ?_
 exact ⟨rfl,ST6.out.end_ SD.out HKE.out (xK8 _ _ _ _)⟩
def NoSpan (w : World) (no : Int) (e : Ending) (w' : World) : Prop := e = .returned (.tuple #[spv spanNone,.int .i64 no]) /\ Below w.heap.size w w'
theorem xQo (a : Option Addr) (kn o : Int) (w : World) (hbad : kn < 1 \/ o < -1 \/ 3 < o) :
  Calls Tryz.prog 72 #[.pointer a,.int .i64 kn,.int .i64 o] w (NoSpan w 1) := by
 by_cases c1 : kn < 1
 ·clear hbad
  go_enter Tryz.func72,Tryz.ntmps72
  go_wp2
  refine bodyPost_ret (v := .tuple #[.agg #[.int .i64 0,.int .i64 0,.int .i64 0,.int .i64 0],.int .i64 1]) (by simp [results,Tryz.results72,go_sem]) rfl ?_
  exact ⟨rfl,(Below.refl _ _).alloc (Nat.le_refl _) _⟩
 by_cases c2 : o < -1
 ·clear hbad
  go_enter Tryz.func72,Tryz.ntmps72
  go_wp2
  refine bodyPost_ret (v := .tuple #[.agg #[.int .i64 0,.int .i64 0,.int .i64 0,.int .i64 0],.int .i64 1]) (by simp [results,Tryz.results72,go_sem]) rfl ?_
  exact ⟨rfl,(Below.refl _ _).alloc (Nat.le_refl _) _⟩
 ·have c3 : 4 <= o := by omega
  clear hbad
  go_enter Tryz.func72,Tryz.ntmps72
  go_wp2
  refine bodyPost_ret (v := .tuple #[.agg #[.int .i64 0,.int .i64 0,.int .i64 0,.int .i64 0],.int .i64 1]) (by simp [results,Tryz.results72,go_sem]) rfl ?_
  exact ⟨rfl,(Below.refl _ _).alloc (Nat.le_refl _) _⟩
theorem xQ6 {w : World} {S : Nat -> Prop} {p : Nat} {h : HeapV} (k : Hp w S p h) (kn o : Int) (h0 : in64 kn) (hok : ¬ (kn < 1 \/ o < -1 \/ 3 < o)) (hb : fBest h.free kn = none) :
  Calls Tryz.prog 72 #[.pointer (some ⟨p,0,none⟩),.int .i64 kn,.int .i64 o] w (MadeHp w S p (hMake h kn o)) := by
 rw [xzj hok hb]
 obtain ⟨ip,ig,fp,mb,n,m,ids,D,Sf,k1,k2,k3,k4,k5,k6,k7⟩ := k
 have hft : fTake h.free kn = h.free := by unfold fTake;rw [hb]
 have ct : ∀ W,Fr W Sf fp h.free -> Calls Tryz.prog 146 #[.pointer (some ⟨fp,0,none⟩),.int .i64 kn] W fun e w' => e = .returned (.tuple #[.agg #[.int .i64 0,.int .i64 0],.bool false]) /\ Fr w' (more Sf W w') fp h.free /\ Kept Sf W w' := fun W hF => by
  have := xXe hF kn h0
  rw [hft,hb] at this
  exact this
 have cp := xqv p _ _ _ _ _ (xq1 (.cells #[.int .i64 0,.int .i64 0,.int .i64 0,.int .i64 0] 49) k1.c0) (xq1 _ k1.c1) (xq1 _ k1.c2) (xq1 _ k1.c3)
 have ff := xZs
 have hk1 : ¬ kn < 1 := fun c => hok (Or.inl c)
 have hk2 : ¬ o < -1 := fun c => hok (Or.inr (Or.inl c))
 have hk3 : ¬ 4 <= o := fun c => hok (Or.inr (Or.inr (by omega)))
 have HB0 : Hid (Below w.heap.size w (w.alloc (.cells #[.int .i64 0,.int .i64 0,.int .i64 0,.int .i64 0] 49))) := hidb ((Below.refl _ _).alloc (Nat.le_refl _) _)
 have hzz : w.heap.size < (w.alloc (.cells #[.int .i64 0,.int .i64 0,.int .i64 0,.int .i64 0] 49)).heap.size := by simp
 have HF1 : Hid (∀ W,Below w.heap.size w W -> Fr W Sf fp h.free) := hidb (fun W hb => k2.below hb)
 obtain ⟨g,hg⟩ : ∃ g,h.free = g := ⟨_,rfl⟩
 have HK := hidb k1.toHpK
 have HST : Hid (∀ w1 w2,Below (w.alloc (.cells #[.int .i64 0,.int .i64 0,.int .i64 0,.int .i64 0] 49)).heap.size (w.alloc (.cells #[.int .i64 0,.int .i64 0,.int .i64 0,.int .i64 0] 49)) w1 -> Kept Sf w1 w2 -> Fr w2 (more Sf w1 w2) fp h.free -> Sides w w1 w2 S Sf p ip ig mb /\ MkSt w w1 w2 w2 S Sf p ip ig fp mb n m ids D h.last h.free) := hidb (fun w1 w2 hb1 hK hF => by
  have hb2 := HB0.out.trans (hb1.mono (Nat.le_of_lt hzz))
  have hs1 : w.heap.size < w1.heap.size := Nat.lt_of_lt_of_le hzz hb1.size
  have s : Sides w w1 w2 S Sf p ip ig mb := ⟨k3,k4,k5,k6,k7,hs1,hK.size⟩
  refine ⟨s,(k1.toHpM.below hb2).keptF hK k6,hF,(Kept.of_below hb2 S).trans hK (fun b _ hb => k4 b hb),?_,Nat.le_refl _⟩
  rw [hK.block _ hs1 (fun c => by have := k5 _ (k4 _ c);omega),hb1.block _ hzz]
  show (w.heap.push _)[w.heap.size]? = _
  simp)
 clear k1 k2 k3 k4 k5 k6 k7 hok hb hft h0 hg
 go_enter Tryz.func72,Tryz.ntmps72
 go_wp2_with (first
  | (go_at_call 87;(with_reducible refine cp.mono ?_);rintro e w1 ⟨rfl,hb1⟩;have hb2 := HB0.out.trans (hb1.mono (Nat.le_of_lt hzz));have HFR1 := hidb (HF1.out _ hb2))
  | (go_at_call 146;(with_reducible refine (ct _ HFR1.out).mono ?_);rintro e w2 ⟨rfl,F2,hK2⟩;obtain ⟨sd,st⟩ := HST.out w1 w2 hb1 hK2 F2;have SD := hidb sd;have ST := hidb st;clear sd st F2 hK2;obtain ⟨r0,r1,r2,r3,f0,f1,f2,f3⟩ := cells4 ST.out.R;have hlt1 : w.heap.size < w2.heap.size := xq0 r0))
 obtain ⟨y0,y1,y2,y3⟩ := xzz w2 w.heap.size (.int .i64 0) (.int .i64 0) (.int .i64 0) (.int .i64 0) _ _ _ _ r0 r1 r2 r3
 have x0 := xq1 (.cells #[.int .i64 0,.int .i64 0] 47) y0
 have x1 := xq1 (.cells #[.int .i64 0,.int .i64 0] 47) y1
 have x2 := xq1 (.cells #[.int .i64 0,.int .i64 0] 47) y2
 have x3 := xq1 (.cells #[.int .i64 0,.int .i64 0] 47) y3
 refine bodyPost_ret (v := .tuple #[.agg #[.int .i64 0,.int .i64 0,.int .i64 0,.int .i64 0],.int .i64 3]) (by simp [results,Tryz.results72,go_sem,x0,x1,x2,x3]) rfl ?_
 refine ⟨rfl,ST.out.end_ SD.out HK.out ((xK8 _ _ _ _).trans (Kept.of_below ((Below.refl _ _).alloc (Nat.le_refl _) _) _) (fun _ _ h => h))⟩
theorem xXf {w : World} {S : Nat -> Prop} {p : Nat} {h : HeapV} (k : Hp w S p h) (kn o : Int) (h0 : in64 kn) (h1 : in64 o) (hlb : h.last + 1 <= 1000000000) :
  Calls Tryz.prog 72 #[.pointer (some ⟨p,0,none⟩),.int .i64 kn,.int .i64 o] w (MadeHp w S p (hMake h kn o)) := by
 by_cases c : kn < 1 \/ o < -1 \/ 3 < o
 ·refine (xQo _ kn o w c).mono ?_
  rintro e w' ⟨rfl,hb⟩
  rw [xJr c]
  exact ⟨rfl,k.more_ hb,Kept.of_below hb S⟩
 ·cases hb : fBest h.free kn with
  | none => exact xQ6 k kn o h0 c hb
  | some r => exact xQn k kn o h0 h1 c hlb r hb
theorem xK9 (pages : Int) (w : World) (hbad : pages < 4 \/ 1024 < pages) :
  Calls Tryz.prog 61 #[.int .i64 pages] w fun e w' => e = .returned (.tuple #[.pointer none,.int .i64 1]) /\ w = w' := by
 by_cases c : pages < 4
 ·clear hbad
  go_enter Tryz.func61,Tryz.ntmps61
  go_wp2
  go_ret2
  exact ⟨rfl,rfl⟩
 ·have c2 : 1024 < pages := by omega
  clear hbad
  go_enter Tryz.func61,Tryz.ntmps61
  go_wp2
  go_ret2
  exact ⟨rfl,rfl⟩
theorem rnew_yes {w0 : World} {A : Option Addr} {m d : Nat} {rs : List (Int × Int)} (hs : Rn w0 w0.heap.size A m rs) (hm : m <= 60000) (hr : ∀ r ∈ rs,in64 r.1 /\ in64 r.2) {F : List Bool} (hP : fPut (List.replicate 1024 false) rs true = (F,0)) :
  Calls Tryz.prog 133 #[.slice A m d] w0 fun e w' => ∃ p S,e = .returned (.tuple #[.pointer (some ⟨p,0,none⟩),.int .i64 0]) /\ Fr w' S p F /\ (∀ b,S b -> w0.heap.size <= b) /\ Below w0.heap.size w0 w' := by
 refine (yk1 A m d rs w0 hs hm hr F 0 hP).mono ?_
 rintro e w' ⟨hb,⟨_,p,S,rfl,h1,h2⟩ | ⟨h,_⟩⟩
 ·exact ⟨p,S,rfl,h1,h2,hb⟩
 ·exact absurd rfl h
def NewHp (w : World) (pages : Int) (F : List Bool) (e : Ending) (w' : World) : Prop :=
 Below w.heap.size w w' /\ ∃ p S,e = .returned (.tuple #[.pointer (some ⟨p,0,none⟩),.int .i64 0]) /\ Hp w' S p ⟨pages,F,[],0⟩ /\ ∀ b,S b -> w.heap.size <= b
theorem yk4 (pages : Int) (w : World) (h0 : 4 <= pages) (h1 : pages <= 1024) (F : List Bool) (hN : hNew pages = (⟨pages,F,[],0⟩,0)) :
  Calls Tryz.prog 61 #[.int .i64 pages] w (NewHp w pages F) := by
 obtain ⟨F',e1,hP,hOk⟩ := xVg h0 h1
 obtain rfl : F' = F := by rw [e1] at hN;injection hN with hN _;injection hN
 clear e1 hN
 obtain ⟨n,rfl⟩ : ∃ n : Nat,pages = (n : Int) := ⟨pages.toNat,by omega⟩
 have cn : ∀ W A,Rn W W.heap.size (some ⟨A,0,none⟩) 1 [(0,(n : Int))] -> Calls Tryz.prog 133 #[.slice (some ⟨A,0,none⟩) 1 1] W fun e w' => ∃ p S,e = .returned (.tuple #[.pointer (some ⟨p,0,none⟩),.int .i64 0]) /\ Fr w' S p F' /\ (∀ b,S b -> W.heap.size <= b) /\ Below W.heap.size W w' := fun W A hR =>
  rnew_yes (d := 1) hR (by omega) (fun r hr => by obtain rfl := List.mem_singleton.1 hr;exact ⟨⟨by show _ <= (0 : Int);omega,by show (0 : Int) <= _;omega⟩,⟨by show _ <= (n : Int);omega,by show (n : Int) <= _;omega⟩⟩) hP
 have cx : ∀ W,Calls Tryz.prog 134 #[.int .i64 (n : Int)] W (ResIx W n (xNew n)) := fun W => by
  have := yjq (n : Int) W ⟨by omega,by omega⟩
  rwa [show (max 0 (min (n : Int) 1024)).toNat = n by omega] at this
 have hx : xNew (n : Int) = List.replicate n 0 := by unfold xNew;rw [show (max 0 (min (n : Int) 1024)).toNat = n by omega]
 have HOK := hidb hOk
 have h2 : ¬ (n : Int) < 4 := by omega
 have h3 : ¬ 1024 < (n : Int) := by omega
 have hmk := @run_makeMap Tryz.prog
 clear hOk hP h0 h1
 go_enter Tryz.func61,Tryz.ntmps61
 go_wp2_with (first
  | (go_at_call 133;(with_reducible refine (cn _ _ (RnOne.plain_ _ _ _ _)).mono ?_);rintro e w1 ⟨fp,Sf,rfl,hF,hlow,hb1⟩)
  | (go_at_call 134;(with_reducible refine (cx _).mono ?_);rintro e w2 ⟨ip,ig,rfl,hix,hb2⟩))
 have hs1 := hb1.size
 have hs2 := hb2.size
 have hz0 : (w.alloc (.cells #[.int .i64 0,.int .i64 (n : Int)] 47)).heap.size = w.heap.size + 1 := by simp
 rw [hz0] at hs1 hlow
 have hmap : ((w2.alloc (.map #[] 0)).alloc (.cells #[.pointer (some ⟨ip,0,none⟩),.pointer (some ⟨fp,0,none⟩),.map (some w2.heap.size),.int .i64 0] 156)).ownsMap Tryz.prog 3 spanR w2.heap.size 0 (.map []) :=
  (World.ownsMap_made w2 Tryz.prog 3 spanR).alloc _
 obtain ⟨W,hW⟩ : ∃ W,(w2.alloc (.map #[] 0)).alloc (.cells #[.pointer (some ⟨ip,0,none⟩),.pointer (some ⟨fp,0,none⟩),.map (some w2.heap.size),.int .i64 0] 156) = W := ⟨_,rfl⟩
 have hbW : Below w2.heap.size w2 W := by rw [<- hW];exact ((Below.refl _ _).alloc (Nat.le_refl _) _).alloc (by simp) _
 have hzW : W.heap.size = w2.heap.size + 2 := by rw [<- hW];simp
 have hcell : W.heap[w2.heap.size + 1]? = some (.cells #[.pointer (some ⟨ip,0,none⟩),.pointer (some ⟨fp,0,none⟩),.map (some w2.heap.size),.int .i64 0] 156 (0,0)) := by
  rw [<- hW]
  show ((w2.heap.push _).push _)[w2.heap.size + 1]? = _
  rw [show w2.heap.size + 1 = (w2.heap.push (.map #[] 0)).size by simp,Array.getElem?_push_size]
 rw [hW] at hmap ⊢
 rw [hx] at hix
 have hp1 : w1.heap.size <= ip := hix.ge
 have hp2 : w1.heap.size <= ig := hix.geg
 have hp3 := hix.ltp
 have hp4 := hix.lt
 have hlt1 := hF.lt
 have hB : Below w.heap.size w W := ((Below.refl _ _).alloc (Nat.le_refl _) _).trans ((hb1.mono (by omega)).trans ((hb2.mono (by omega)).trans (hbW.mono (by omega))))
 clear hW
 go_ret2
 obtain ⟨a0,a1,a2,a3,_⟩ := cells4 hcell
 refine ⟨hB,w2.heap.size + 1,fun b => w.heap.size <= b /\ b < W.heap.size,rfl,⟨ip,ig,fp,w2.heap.size,n,0,List.replicate n 0,.map [],Sf,⟨⟨a0,a1,a2,a3,fun j => by simp [World.frozen?,hcell],(hix.more (Nat.zero_le _)).below hbW (Nat.le_refl _),hmap⟩,⟨mis_nil,yjb n F' 0,HOK.out,Int.le_refl _,by show (0 : Int) <= 1000000000;omega⟩⟩,?_,⟨⟨by omega,by omega⟩,⟨by omega,by omega⟩,⟨by omega,by omega⟩,⟨by omega,by omega⟩⟩,fun b hb => ⟨by have := hlow b hb;omega,by have := hlt1 b hb;omega⟩,fun b hb => hb.2,⟨fun c => ?_,fun c => ?_,fun c => ?_,fun c => ?_⟩,?_⟩,fun b hb => hb.1⟩
 ·exact (hF.below hb2).below hbW
 ·have := hlt1 _ c;omega
 ·have := hlt1 _ c;omega
 ·have := hlt1 _ c;omega
 ·have := hlt1 _ c;omega
 ·exact ⟨by omega,by omega,by omega,by omega,by omega⟩
theorem xKa {w : World} {nb n : Nat} {D : DataW Unit} {J : List Int} (hown : w.ownsMap Tryz.prog 3 boolR nb n D) (hn : NIs D J) (i : Int) (hi : in64 i) :
  (Instr.lookup 213 (.map (some nb)) (.int .i64 i) false).run Tryz.prog w = .ok (.bool (J.contains i)) w := xZo hown hn i hi _ Tryz.underlying213
theorem xW1 {w : World} {tb nb n : Nat} {D : DataW Unit} {J : List Int} (hc : w.cell? ⟨tb,0,none⟩ = some (.map (some nb))) (hown : w.ownsMap Tryz.prog 3 boolR nb n D) (hn : NIs D J) (i : Int) (hi : in64 i) (s1 s2 s3 s4 : Int) :
  Calls Tryz.prog 255 #[.int .i64 i,.agg #[.int .i64 s1,.int .i64 s2,.int .i64 s3,.int .i64 s4],.pointer (some ⟨tb,0,none⟩)] w fun e w' => e = .returned (.bool (J.contains i)) /\ w.grownBy w' none := by
 have hrun := xKa (hown.alloc (.cells #[.int .i64 s1,.int .i64 s2,.int .i64 s3,.int .i64 s4] 49)) hn i hi
 obtain ⟨b,hb⟩ : ∃ b,J.contains i = b := ⟨_,rfl⟩
 rw [hb] at hrun ⊢
 have hc1 := xq1 (.cells #[.int .i64 s1,.int .i64 s2,.int .i64 s3,.int .i64 s4] 49) hc
 clear hown hn hb hi hc
 go_enter Tryz.func255,Tryz.ntmps255
 go_wp2
 go_ret
 exact ⟨rfl,World.grownBy_alloc _ _ _⟩
def pdJ (J : List Int) (k : Lit) (_ : DataW Unit) : Bool := match k with | .int _ x => J.contains x | _ => false
theorem MIs.drop {D : DataW Unit} {l : List (Int × Int × Int × Int)} (h : MIs D l) (hD : Maps.IsMap D) (J : List Int) : MIs (Lib.deleteFuncD (pdJ J) D) (hLeft l J) := by
 obtain ⟨es,rfl⟩ := hD
 have hk : ∀ (id : Int) (p : Lit × DataW Unit),J.contains id = false -> p.1.sameKey (.int .i64 id) = true -> (!pdJ J p.1 p.2) = true := fun id p hj hp => by
  rw [WideAt.sameKey_eq hp]
  show (!J.contains id) = true
  rw [hj];rfl
 refine ⟨fun id => ?_,fun s hs z => ?_⟩
 ·show (es.filter fun p => !pdJ J p.1 p.2).any (fun p => p.1.sameKey (.int .i64 id)) = _
  have h1 := h.has id
  rw [Maps.has_eq] at h1
  cases hj : J.contains id with
  | false =>
   rw [Maps.any_filter_keep (fun p hp => hk id p hj hp),h1]
   unfold hLeft
   rw [List.any_filter]
   congr 1
   funext s
   by_cases c : s.1 = id
   ·subst c;simpa using hj
   ·simp [c]
  | true =>
   have e1 : (es.filter fun p => !pdJ J p.1 p.2).any (fun p => p.1.sameKey (.int .i64 id)) = false := by
    rw [List.any_eq_false]
    intro p hp c
    have h2 := (List.mem_filter.1 hp).2
    rw [WideAt.sameKey_eq c] at h2
    have h3 : (!J.contains id) = true := h2
    rw [hj] at h3;cases h3
   rw [e1]
   symm
   rw [List.any_eq_false]
   intro s hs c
   have h2 := ((xzn s).1 hs).2
   have h3 : s.1 = id := by simpa using c
   exact h2 (by rw [h3];simpa using hj)
 ·obtain ⟨h2,h3⟩ := (xzn s).1 hs
  have h1 := h.at_ s h2 z
  have hj : J.contains s.1 = false := by simpa using h3
  unfold Lib.deleteFuncD DataW.atKey at *
  simp only at h1 ⊢
  rw [Maps.find_filter_keep (fun p hp => hk s.1 p hj hp)]
  exact h1
set_option maxHeartbeats 4000000 in
set_option maxRecDepth 100000 in
theorem xW2 (pd : Lit -> DataW Unit -> Bool) (g : Nat) (cb : Array Value) (b n : Nat) (D : DataW Unit) (w : World) (eg : ∀ args w,(callFunc g args).run Tryz.prog w = .ok (.enter g args) w) (hown : w.ownsMap Tryz.prog 3 spanR b n D)
  (hdel : ∀ (W : World) (i s1 s2 s3 s4 : Int),w.grownBy W (some b) -> in64 i -> Calls Tryz.prog g (#[.int .i64 i,.agg #[.int .i64 s1,.int .i64 s2,.int .i64 s3,.int .i64 s4]] ++ cb) W fun e w' => e = .returned (.bool (pd (.int .i64 i) (encS (s1,s2,s3,s4)))) /\ W.grownBy w' none) :
  Calls Tryz.prog 254 #[.map (some b),.func (.func g) #[] cb] w fun e w' => e = .returned (.tuple #[]) /\ w'.ownsMap Tryz.prog 3 spanR b n (Lib.deleteFuncD pd D) /\ w.grownBy w' (some b) := by
 obtain ⟨es0,rfl,hap,hkeys⟩ := hown.entries keyed
 have HD : Hid _ := hidb hdel
 clear hdel
 go_enter Tryz.func254,Tryz.ntmps254
 go_wp2_with (first
  | (at_range;refine wpList_range_own _ rfl _ 152 rfl 3 49 keyed Tryz.underlying152 spanR b n _ rfl hown ?_;intro w0 hrg0 hg0 hs0)
  | go_in)
 go_frame
 go_loopw [8] (fun _ wr => ∃ (left : Lit -> Bool) (cnt : Nat),wr.ranges Tryz.prog 3 spanR b w.heap.size n (Fk pd es0 left) left cnt /\ w.grownBy wr (some b))
  (fun _ wr => wr.rangeLeft b w.heap.size)
 case atStart => exact ⟨_,_,by rw [Fk_start hkeys];exact hrg0,hg0.but _⟩
 case round =>
  obtain ⟨left,cnt,hrg,hgw⟩ := hrel
  go_wp2_with (first
   | (at_next;refine wpList_next_ranges _ rfl _ rfl 3 keyed spanR (Value.int .i64) spv (fun key kl hk => by obtain ⟨x,hx,_⟩ := Maps.keyOf_int_inv Tryz.underlying3 hk;exact ⟨x,hx⟩) (fun v y hv => by obtain ⟨s,hs,_⟩ := xQ3 hv;exact ⟨s,hs⟩) b w.heap.size n _ _ _ rfl hrg ?_ ?_)
   | go_in)
  ·intro _ hl0
   go_wp2
   go_end0
   exact ⟨rfl,by rw [<- Fk_end hl0];exact hrg.owns,hgw⟩
  ·intro x s1 s2 s3 s4 kl yd yp w1 cnt1 hkey hlx hv hat hrg1 hlt hg1 hs1 hen
   obtain ⟨x',ex,rfl,hwx⟩ := Maps.keyOf_int_inv Tryz.underlying3 hkey
   cases ex
   rw [xw7] at hv
   obtain ⟨rfl,rfl⟩ := Prod.mk.inj (Option.some.inj hv)
   have hgw1 := hgw.andThen hg1 (fun j hj => by cases hj;exact Or.inl (Nat.le_refl _))
   have hc := HD.out (w1.alloc (.cells #[.int .i64 s1,.int .i64 s2,.int .i64 s3,.int .i64 s4] 49)) x s1 s2 s3 s4 (xk7 hgw1 _) (xwe hwx)
   have hbl := hrg1.owns.lt
   have hrl := hrg1.lt
   have hkl : WideAt.IsKeyLit (.int .i64 x) := keyed.key hkey
   have HGA : Hid (∀ w2,(w1.alloc (.cells #[.int .i64 s1,.int .i64 s2,.int .i64 s3,.int .i64 s4] 49)).grownBy w2 none -> w1.grownBy w2 none) := hidb (fun w2 hg2 => xq4 (World.grownBy_alloc w1 _ none) hg2)
   simp only [spv] at hen ⊢
   clear hs1
   cases hp : pd (.int .i64 x) (encS (s1,s2,s3,s4)) <;> rw [hp] at hc
   ·go_wp2_with (first
     | (go_at_fn g;(with_reducible refine hc.mono ?_);rintro e w2 ⟨rfl,hg2'⟩;have hg2 := HGA.out _ hg2')
     | go_in)
    have hrg2 := hrg1.kept hg2 (by simp) (by simp)
    go_roundw
    case rel => exact ⟨_,cnt1,by rw [<- Fk_stays hap hkl hlx hp hat];exact hrg2,hgw1.andThen hg2 (fun j hj => by cases hj)⟩
    case measure => rw [hrg2.left_eq,hrg.left_eq];exact hlt
   ·go_wp2_with (first
     | (go_at_fn g;(with_reducible refine hc.mono ?_);rintro e w2 ⟨rfl,hg2'⟩;have hg2 := HGA.out _ hg2';have hrg2 := hrg1.kept hg2 (by simp) (by simp))
     | (at_delete;refine wpList_delete_ranges _ rfl _ _ 152 3 rfl 49 keyed Tryz.underlying152 spanR b w.heap.size n _ _ _ rfl hrg2 _ _ rfl hkey ?_;intro w3 cnt3 hrg3 hle hturn;go_frame)
     | go_in)
    rw [strike_twice] at hrg3
    go_roundw
    case rel => exact ⟨_,cnt3,by rw [<- Fk_struck hap hkl hlx hp hat];exact hrg3,(hgw1.andThen hg2 (fun j hj => by cases hj)).andThen hturn.grown (fun j hj => by cases hj;exact Or.inr rfl)⟩
    case measure => rw [hrg3.left_eq,hrg.left_eq];omega
def Good (h : HeapV) (J : List Int) : Prop := J.Nodup /\ ∀ i ∈ J,∃ s ∈ h.l,s.1 = i
structure FreeSt (w W : World) (h : HeapV) (J : List Int) (j : Nat) (A : Option Addr) (c : Nat) (Dn : DataW Unit) : Prop where
 good : Good h J
 row : W.ownsRow (w.heap.size + 1 + 1) 47 2 (.slice A j c) j (rcells (runsOf h.l J))
 nm : W.ownsMap Tryz.prog 3 boolR w.heap.size j Dn
 ni : NIs Dn J
 box : W.cell? ⟨w.heap.size + 1,0,none⟩ = some (.map (some w.heap.size))
 bel : Below w.heap.size w W
 le : w.heap.size + 1 + 1 <= W.heap.size
 jl : J.length = j
section
variable {w W W' w3 w4 : World} {h : HeapV} {J : List Int} {j c : Nat} {A : Option Addr} {Dn : DataW Unit}
theorem FreeSt.below (k : FreeSt w W h J j A c Dn) (hb : Below W.heap.size W W') : FreeSt w W' h J j A c Dn :=
 ⟨k.good,xqk k.row hb,xq2 k.nm (hb.block _ k.nm.lt),k.ni,(hb.cell (xq0 k.box)).trans k.box,k.bel.trans (hb.mono k.bel.size),Nat.le_trans k.le hb.size,k.jl⟩
theorem FreeSt.row3 (k : FreeSt w W h J j A c Dn) (hg3 : W.grownBy w3 (some w.heap.size)) (o : Obj) : (w3.alloc o).ownsRow (w.heap.size + 1 + 1) 47 2 (.slice A j c) j (rcells (runsOf h.l J)) :=
 (xZp k.row (by omega) hg3).alloc _
theorem FreeSt.push {A' : Option Addr} {c' : Nat} {i s l : Int} {o : Obj} (k : FreeSt w W h J j A c Dn) (hi : in64 i) (hnew : J.contains i = false) (hth : ∃ t ∈ h.l,t.1 = i) (hr : rnOf (spanOf h.l i) = (s,l))
  (hg3 : W.grownBy w3 (some w.heap.size)) (hm3 : w3.ownsMap Tryz.prog 3 boolR w.heap.size (j + 1) (Dn.put (.int .i64 i) (.lit (.bool true)))) (hg4 : (w3.alloc o).grownBy w4 (Value.slice A j c).ownBlock)
  (hr4 : w4.ownsRow (w.heap.size + 1 + 1) 47 2 (.slice A' (j + 1) c') (j + 1) (rcells (runsOf h.l J) ++ [iv s,iv l])) : FreeSt w w4 h (J ++ [i]) (j + 1) A' c' (Dn.put (.int .i64 i) (.lit (.bool true))) := by
 have hs := hg3.size
 have hk := k.le
 have hne : ∀ b,b < w.heap.size + 1 + 1 -> some b ≠ (Value.slice A j c).ownBlock := fun b hb e => by
  have := (k.row.lt b e.symm).1
  omega
 have hb4 : ∀ b,b < w3.heap.size -> b < w.heap.size + 1 + 1 -> w4.heap[b]? = w3.heap[b]? := fun b hb hb2 => (hg4.block b (by simp;omega) (hne b hb2)).trans (Below.heap_alloc _ _ _ hb)
 refine ⟨⟨?_,?_⟩,?_,xq2 hm3 (hb4 _ hm3.lt (by omega)),k.ni.put (xkr k.nm) hi,?_,?_,?_,by rw [List.length_append,k.jl];rfl⟩
 ·refine List.nodup_append.2 ⟨k.good.1,by simp,fun a ha b hb e => ?_⟩
  obtain rfl := List.mem_singleton.1 hb
  subst e
  have : J.contains a = true := by simpa using ha
  rw [hnew] at this;cases this
 ·intro x hx
  rcases List.mem_append.1 hx with hx | hx
  ·exact k.good.2 x hx
  ·obtain rfl := List.mem_singleton.1 hx;exact hth
 ·unfold runsOf at hr4 ⊢
  rw [List.map_append,xqb]
  rw [List.map_cons,List.map_nil,hr]
  exact hr4
 ·have h1 : w3.heap[w.heap.size + 1]? = W.heap[w.heap.size + 1]? := hg3.block _ (by omega) (fun e => by injection e with e;omega)
  exact (World.cell?_of_block (w := w3) (a := ⟨w.heap.size + 1,0,none⟩) (hb4 (w.heap.size + 1) (by omega) (by omega))).trans ((World.cell?_of_block (w := W) (a := ⟨w.heap.size + 1,0,none⟩) h1).trans k.box)
 ·have h1 : Below w.heap.size w w3 := k.bel.grown hg3 k.bel.size (fun b e => by injection e with e;omega)
  exact (h1.alloc h1.size o).grown hg4 (by have := h1.size;simp;omega) (fun b e => by have := (k.row.lt b e).1;omega)
 ·have := hg4.size
  simp at this
  omega
end
structure FreeTop (w W : World) (rs : List (Int × Int)) (J : List Int) (j : Nat) (A : Option Addr) (c : Nat) (Dn : DataW Unit) : Prop where
 row : W.ownsRow (w.heap.size + 1 + 1) 47 2 (.slice A j c) j (rcells rs)
 nm : W.ownsMap Tryz.prog 3 boolR w.heap.size j Dn
 ni : NIs Dn J
 box : W.cell? ⟨w.heap.size + 1,0,none⟩ = some (.map (some w.heap.size))
 le : w.heap.size + 1 + 1 <= W.heap.size
theorem FreeSt.top {w W : World} {h : HeapV} {J : List Int} {j c : Nat} {A : Option Addr} {Dn : DataW Unit} (k : FreeSt w W h J j A c Dn) : FreeTop w W (runsOf h.l J) J j A c Dn := ⟨k.row,k.nm,k.ni,k.box,k.le⟩
theorem FreeTop.kept {w W W' : World} {rs : List (Int × Int)} {J : List Int} {j c : Nat} {A : Option Addr} {Dn : DataW Unit} {S' : Nat -> Prop} (k : FreeTop w W rs J j A c Dn) (hK : Kept S' W W') (hS : ∀ b,S' b -> b < w.heap.size) : FreeTop w W' rs J j A c Dn := by
 have hl := k.le
 refine ⟨xjm k.row hK (fun b hb c => by have := (k.row.lt b hb).1;have := hS b c;omega),xq2 k.nm (hK.block _ k.nm.lt (fun c => by have := hS _ c;omega)),k.ni,?_,Nat.le_trans hl hK.size⟩
 exact (hK.cell (a := ⟨w.heap.size + 1,0,none⟩) (by show w.heap.size + 1 < _;omega) (fun c => by have : w.heap.size + 1 < w.heap.size := hS _ c;omega)).trans k.box
theorem FreeTop.rn {w W : World} {rs : List (Int × Int)} {J : List Int} {j c : Nat} {A : Option Addr} {Dn : DataW Unit} (k : FreeTop w W rs J j A c Dn) (hl : rs.length = j) : Rn W W.heap.size A j rs := Rn.of_own k.row hl
theorem HpM.freed {w w2 w3 w4 w5 : World} {S Sf : Nat -> Prop} {p ip ig fp mb n m : Nat} {ids ids' : List Int} {D D' : DataW Unit} {last : Int} {f g : List Bool} {h' : HeapV} (M : HpM w p ip ig fp mb n m ids D last) (F : Fr w Sf fp f) (k3 : S p /\ S ip /\ S ig /\ S mb) (k4 : ∀ b,Sf b -> S b) (k5 : ∀ b,S b -> b < w.heap.size)
  (k6 : ¬ Sf p /\ ¬ Sf ip /\ ¬ Sf ig /\ ¬ Sf mb) (k7 : p ≠ ip /\ p ≠ ig /\ p ≠ mb /\ mb ≠ ip /\ mb ≠ ig) (hb2 : Below w.heap.size w w2) (hg3 : w2.grownBy w3 (some ig)) (hx3 : Ix w3 0 ip ig n ids') (hF4 : Fr w4 (more Sf w3 w4) fp g) (hK4 : Kept Sf w3 w4)
  (hg5 : w4.grownBy w5 (some mb)) (hm5 : w5.ownsMap Tryz.prog 3 spanR mb m D') (K : HpK m ids' D' h') (hl : h'.last = last) (hf : h'.free = g) : Hp w5 (more S w w5) p h' /\ Kept S w w5 := by
 have s2 := hb2.size
 have s3 := hg3.size
 have s4 := hK4.size
 have s5 := hg5.size
 have M5 : HpM w5 p ip ig fp mb n m ids' D' h'.last := by rw [hl];exact ((((M.below hb2).setIx k7 hg3 hx3).keptF hK4 k6).put k7 hg5 hm5)
 have F5 : Fr w5 (more Sf w3 w4) fp h'.free := by
  rw [hf]
  refine hF4.keep (S' := fun b => b = mb) ((Kept.refl _ w4).grown hg5 fun k e => by injection e with e;exact Or.inl e.symm) fun b hb e => ?_
  have e2 : b = mb := e
  subst e2
  have := k5 _ k3.2.2.2
  exact k6.2.2.2 (xjl (by omega) hb)
 refine ⟨Hp.intro M5 K F5 k3 k4 k5 k6 k7 (by omega) (by omega) (by omega),?_⟩
 have K3 : Kept S w w3 := (Kept.of_below hb2 S).grown hg3 fun k e => by injection e with e;subst e;exact Or.inl k3.2.2.1
 exact (K3.trans hK4 fun b _ hb => k4 b hb).grown hg5 fun k e => by injection e with e;subst e;exact Or.inl k3.2.2.2
theorem FreeBox {w2 w3 : World} {b : Nat} {v1 v2 v3 v4 : Value} {t : TypeId} (hb : b < w2.heap.size) (hg : (w2.alloc (.cells #[v1,v2,v3,v4] t)).grownBy w3 (some b)) : w3.cell? ⟨w2.heap.size,1,none⟩ = some v2 /\ w3.cell? ⟨w2.heap.size,2,none⟩ = some v3 := by
 have h1 : w3.heap[w2.heap.size]? = some (.cells #[v1,v2,v3,v4] t (0,0)) := by
  rw [hg.block _ (by simp) (fun e => by injection e with e;omega)]
  show (w2.heap.push _)[w2.heap.size]? = _
  simp
 obtain ⟨_,a,b,_⟩ := cells4 h1
 exact ⟨a,b⟩
theorem FreeNil {a : Addr} : some a = none -> 1 = 0 /\ 1 = 0 := fun h => by cases h
theorem FreeOne {a b : Int} : ∀ u ∈ [Value.int .i64 a,.int .i64 b],u.oneCell' = true := fun u hu => by
 rcases List.mem_cons.1 hu with rfl | hu
 ·rfl
 ·obtain rfl := List.mem_singleton.1 hu;rfl
def FreedHp (w : World) (S : Nat -> Prop) (p : Nat) (r : HeapV × Int) (e : Ending) (w' : World) : Prop := e = .returned (.int .i64 r.2) /\ Hp w' (more S w w') p r.1 /\ Kept S w w'
set_option maxHeartbeats 4000000 in
set_option maxRecDepth 100000 in
theorem yxw {w : World} {S : Nat -> Prop} {p : Nat} {h : HeapV} (k : Hp w S p h) (AI : Option Addr) (m cI : Nat) (ids : List Int) (hs : Sl w w.heap.size AI m (ids.map iv)) (hm : m <= 60000) (hid : ∀ i ∈ ids,in64 i) :
  Calls Tryz.prog 205 #[.pointer (some ⟨p,0,none⟩),.slice AI m cI] w (FreedHp w S p (hDrop h ids)) := by
 obtain ⟨i0,hi,hz0,hz1,hz2⟩ := info_parts xxt
 have hli : ids.length = m := by have := hs.1;simpa using this
 have HLI := hidb hli
 have HSI := hidb hs
 have HK := hidb k
 have HID := hidb hid
 have hmk := @run_makeMap Tryz.prog
 have HSP : Hid (∀ W,Below w.heap.size w W -> ∀ i,in64 i -> Calls Tryz.prog 183 #[.pointer (some ⟨p,0,none⟩),.int .i64 i] W (SpanIs W (spanOf h.l i) (h.l.any fun s => s.1 == i))) := hidb (fun W hb i hi => xXd (k.below hb) i hi)
 have HNO : Hid (∀ j W,¬ Good h (ids.take j) -> Below w.heap.size w W -> FreedHp w S p (hDrop h ids) (.returned (.int .i64 6)) W) := hidb (fun j W hn hb => by
  rw [xw6 k.ok (fun c => hn ⟨(List.take_sublist j ids).nodup c.1,fun i hi => c.2 i (List.mem_of_mem_take hi)⟩)]
  exact ⟨rfl,k.more_ hb,Kept.of_below hb S⟩)
 clear hs hid k
 go_enter Tryz.func205,Tryz.ntmps205
 go_wp2
 go_loopw [6,15] (fun v k wr => ∃ (j c : Nat) (A : Option Addr) (Dn : DataW Unit),j <= m /\ k = .int .i64 j /\ v = .slice A j c /\ Hid (FreeSt w wr h (ids.take j) j A c Dn)) (fun _ k _ => (m - intOf k).toNat)
 case atStart =>
  refine ⟨0,0,none,.map [],Nat.zero_le _,rfl,rfl,hidb ⟨⟨List.nodup_nil,fun i hi => by cases hi⟩,World.ownsRow_nil _ _ _ _,(World.ownsMap_made w Tryz.prog 3 boolR).alloc _,xZn,?_,((Below.refl _ _).alloc (Nat.le_refl _) _).alloc (by simp) _,by simp,rfl⟩⟩
  exact World.cell?_alloc_at _ _ _ 0 (by simp)
 case round =>
  obtain ⟨j,c,A,Dn,hj,rfl,rfl,HF⟩ := hrel
  by_cases hlt : j < m
  ·obtain ⟨b,off,z,rfl,hbz,hx,hc⟩ := HSI.out.at_ hlt
   rw [List.getElem?_map] at hx
   obtain ⟨id,hid⟩ : ∃ id,ids[j]? = some id := ⟨_,List.getElem?_eq_getElem (by omega)⟩
   rw [hid] at hx
   obtain rfl : iv id = z := by simpa using hx
   have hcz : wr.cell? ⟨b,off + j,none⟩ = some (.int .i64 id) := (HF.out.bel.cell (p := ⟨b,off + j,none⟩) hbz).trans hc
   have hid64 := HID.out id (List.mem_of_getElem? hid)
   have HI := hidb hid
   have hi0 : (0 : Int) <= (j : Int) := by omega
   have hi1 : (j : Int) < (m : Int) := by omega
   have cs := HSP.out wr HF.out.bel id hid64
   obtain ⟨⟨s1,s2,s3,s4⟩,hsp⟩ : ∃ s,spanOf h.l id = s := ⟨_,rfl⟩
   obtain ⟨ok,hok⟩ : ∃ ok,(h.l.any fun s => s.1 == id) = ok := ⟨_,rfl⟩
   rw [hsp,hok] at cs
   replace cs : Calls Tryz.prog 183 #[.pointer (some ⟨p,0,none⟩),.int .i64 id] wr fun e w' => e = .returned (.tuple #[.agg #[.int .i64 s1,.int .i64 s2,.int .i64 s3,.int .i64 s4],.bool ok]) /\ Below wr.heap.size wr w' := cs
   have HSPN := hidb hsp
   have htk : ids.take (j + 1) = ids.take j ++ [id] := by rw [List.take_add_one,hid];rfl
   have HTK := hidb htk
   obtain ⟨nm,hnm⟩ : ∃ nm,(ids.take j).contains id = nm := ⟨_,rfl⟩
   have HLK : Hid (∀ w2,Below wr.heap.size wr w2 -> (Instr.lookup 213 (.map (some w.heap.size)) (.int .i64 id) false).run Tryz.prog (w2.alloc (.cells #[.int .i64 s1,.int .i64 s2,.int .i64 s3,.int .i64 s4] 49)) = .ok (.bool nm) (w2.alloc (.cells #[.int .i64 s1,.int .i64 s2,.int .i64 s3,.int .i64 s4] 49))) := hidb (fun w2 hb2 => by
    have h1 := (HF.out.below hb2).below ((Below.refl _ w2).alloc (Nat.le_refl _) (.cells #[.int .i64 s1,.int .i64 s2,.int .i64 s3,.int .i64 s4] 49))
    rw [<- hnm]
    exact xKa h1.nm h1.ni id hid64)
   have HBX : Hid (∀ w2,Below wr.heap.size wr w2 -> (w2.alloc (.cells #[.int .i64 s1,.int .i64 s2,.int .i64 s3,.int .i64 s4] 49)).cell? ⟨w.heap.size + 1,0,none⟩ = some (.map (some w.heap.size))) := hidb (fun w2 hb2 => ((HF.out.below hb2).below ((Below.refl _ w2).alloc (Nat.le_refl _) (.cells #[.int .i64 s1,.int .i64 s2,.int .i64 s3,.int .i64 s4] 49))).box)
   have HBE : Hid (∀ w2,Below wr.heap.size wr w2 -> Below w.heap.size w (w2.alloc (.cells #[.int .i64 s1,.int .i64 s2,.int .i64 s3,.int .i64 s4] 49))) := hidb (fun w2 hb2 => ((HF.out.below hb2).below ((Below.refl _ w2).alloc (Nat.le_refl _) (.cells #[.int .i64 s1,.int .i64 s2,.int .i64 s3,.int .i64 s4] 49))).bel)
   clear hx hid hc hsp htk
   cases ok with
   | false =>
    have HG : Hid (¬ Good h (ids.take (j + 1))) := hidb (fun c => by
     rw [HTK.out] at c
     have := (MIs.any_iff id).2 (c.2 id (by simp))
     rw [hok] at this;cases this)
    clear hok hnm
    go_wp2_with (first
     | (go_at_call 183;(with_reducible refine cs.mono ?_);rintro e w2 ⟨rfl,hb2⟩;have hbx := HBX.out _ hb2))
    go_ret
    exact HNO.out (j + 1) _ HG.out (HBE.out _ hb2)
   | true =>
    cases nm with
    | true =>
     have HG : Hid (¬ Good h (ids.take (j + 1))) := hidb (fun c => by
      rw [HTK.out] at c
      have h1 := (List.nodup_append.1 c.1).2.2 id (by simpa using hnm) id (by simp)
      exact h1 rfl)
     clear hok hnm
     go_wp2_with (first
      | (go_at_call 183;(with_reducible refine cs.mono ?_);rintro e w2 ⟨rfl,hb2⟩;have hbx := HBX.out _ hb2;have hlk := HLK.out _ hb2))
     go_ret
     exact HNO.out (j + 1) _ HG.out (HBE.out _ hb2)
    | false =>
     have HTH : Hid (∃ t ∈ h.l,t.1 = id) := hidb ((MIs.any_iff id).1 hok)
     have HNM := hidb hnm
     clear hok hnm
     go_wp2_with (first
      | (go_at_call 183;(with_reducible refine cs.mono ?_);rintro e w2 ⟨rfl,hb2⟩;have hbx := HBX.out _ hb2;have hlk := HLK.out _ hb2;have HLT : Hid (w.heap.size < w2.heap.size) := hidb (by have := HF.out.le;have := hb2.size;omega);have HF2 := hidb ((HF.out.below hb2).below ((Below.refl _ w2).alloc (Nat.le_refl _) (.cells #[.int .i64 s1,.int .i64 s2,.int .i64 s3,.int .i64 s4] 49))))
      | (at_mapUpdate;refine wpList_mapUpdate_own _ rfl _ _ _ 213 rfl 3 4 keyed Tryz.underlying213 boolR w.heap.size j Dn rfl HF2.out.nm (by unfold maxLen;omega) _ _ _ rfl rfl (xzp hid64) _ [] (xkq true) ?_;intro w3 hm3 hg3;obtain ⟨x1,x2⟩ := FreeBox HLT.out hg3;have HG3 := hidb hg3;have HM3 := hidb hm3;have HR3 := hidb (HF2.out.row3 hg3 (.cells #[.int .i64 s2,.int .i64 s3] 47));have HCN := hidb (xxz w3 [.int .i64 s2,.int .i64 s3] 47);have HZ3 : Hid (w.heap.size + 1 + 1 <= (w3.alloc (.cells #[.int .i64 s2,.int .i64 s3] 47)).heap.size) := hidb (by have h1 := HF2.out.le;have h2 := hg3.size;simp only [World.size_alloc] at h1 h2 ⊢;omega);clear hm3 hg3)
      | (at_builtin;refine xqp _ rfl _ _ 57 rfl (w.heap.size + 1 + 1) 47 i0 (.agg #[.int .i64 0,.int .i64 0]) 2 16 Tryz.underlying57 hi hz0 hz1 hz2 rfl (by decide) (.slice A j c) j _ rfl HR3.out HZ3.out (some ⟨w3.heap.size,0,none⟩) 1 1 [.int .i64 s2,.int .i64 s3] rfl rfl FreeNil HCN.out FreeOne (by unfold maxLen;omega) (by omega) ?_;intro A' c' w4 hr4 hg4;have HR4 := hidb hr4;have HG4 := hidb hg4;clear hr4 hg4)
      | go_in)
     have HE := hidb (HF2.out.push (s := s2) (l := s3) hid64 HNM.out HTH.out (by rw [HSPN.out];rfl) HG3.out HM3.out HG4.out HR4.out)
     go_roundw
     case rel => exact ⟨j + 1,c',A',_,by omega,by go_num,by rfl,hidb (by rw [HTK.out];exact HE.out)⟩
     case measure => simp [intOf];omega
  ·obtain rfl : j = m := by omega
   rw [List.take_of_length_le (by omega)] at HF
   obtain ⟨ip,ig,fp,mb,n,m0,pids,D,Sf,k1,k2,k3,k4,k5,k6,k7⟩ := HK.out
   obtain ⟨g,e1,e2,e3⟩ := yjc k1.ok HF.out.good.1 HF.out.good.2
   obtain ⟨pids',e4,e5⟩ := yx5 k1.ok k1.pt HF.out.good.2 0 g
   have hD := yqh k1.mp
   have hlr : (runsOf h.l ids).length = j := by unfold runsOf;rw [List.length_map];exact hli
   have hr64 : ∀ r ∈ runsOf h.l ids,in64 r.1 /\ in64 r.2 := fun r hr => by
    obtain ⟨a1,a2,a3⟩ := (xqd _).1 (xv6 k1.ok HF.out.good.2 r hr)
    exact ⟨⟨by omega,by omega⟩,⟨by omega,by omega⟩⟩
   have hAb : ∀ b off,A = some ⟨b,off,none⟩ -> w.heap.size + 1 + 1 <= b := fun b off e => (HF.out.row.lt b (by rw [e];rfl)).1
   have hig := k5 _ k3.2.2.1
   have hmb := k5 _ k3.2.2.2
   have cp := xqv p _ _ _ _ wr ((HF.out.bel.cell (p := ⟨p,0,none⟩) k1.lts.1).trans k1.c0) ((HF.out.bel.cell (p := ⟨p,1,none⟩) k1.lts.1).trans k1.c1) ((HF.out.bel.cell (p := ⟨p,2,none⟩) k1.lts.1).trans k1.c2) ((HF.out.bel.cell (p := ⟨p,3,none⟩) k1.lts.1).trans k1.c3)
   have eg : ∀ args w,(callFunc 255 args).run Tryz.prog w = .ok (.enter 255 args) w := enters_of Tryz.func255 (by kernel_rfl) rfl
   obtain ⟨L,hL⟩ : ∃ L,h.last = L := ⟨_,rfl⟩
   have hbx : ∀ w1,Below wr.heap.size wr w1 -> Below wr.heap.size wr (w1.alloc (.cells #[.pointer (some ⟨ip,0,none⟩),.pointer (some ⟨fp,0,none⟩),.map (some mb),.int .i64 L] 156)) := fun w1 hb1 => hb1.alloc hb1.size _
   have hbw : ∀ w1,Below wr.heap.size wr w1 -> Below w.heap.size w (w1.alloc (.cells #[.pointer (some ⟨ip,0,none⟩),.pointer (some ⟨fp,0,none⟩),.map (some mb),.int .i64 L] 156)) := fun w1 hb1 => HF.out.bel.trans ((hbx w1 hb1).mono HF.out.bel.size)
   have hK3 : ∀ w2 w3,w2.grownBy w3 (some ig) -> Kept (fun b => b = ig) w2 w3 := fun w2 w3 hg => (Kept.refl _ w2).grown hg fun k e => by injection e with e;exact Or.inl e.symm
   have hT2 : ∀ w1,Below wr.heap.size wr w1 -> FreeTop w (w1.alloc (.cells #[.pointer (some ⟨ip,0,none⟩),.pointer (some ⟨fp,0,none⟩),.map (some mb),.int .i64 L] 156)) (runsOf h.l ids) ids j A c Dn := fun w1 hb1 => HF.out.top.kept (S' := fun _ => False) (Kept.of_below (hbx w1 hb1) _) (fun b hb => hb.elim)
   have hT3 : ∀ w1 w3,Below wr.heap.size wr w1 -> (w1.alloc (.cells #[.pointer (some ⟨ip,0,none⟩),.pointer (some ⟨fp,0,none⟩),.map (some mb),.int .i64 L] 156)).grownBy w3 (some ig) -> FreeTop w w3 (runsOf h.l ids) ids j A c Dn := fun w1 w3 hb1 hg3 => (hT2 w1 hb1).kept (hK3 _ _ hg3) (fun b hb => by have : b = ig := hb;omega)
   have HDR : Hid (∀ w1,Below wr.heap.size wr w1 -> Calls Tryz.prog 253 #[.pointer (some ⟨ip,0,none⟩),.slice A j c] (w1.alloc (.cells #[.pointer (some ⟨ip,0,none⟩),.pointer (some ⟨fp,0,none⟩),.map (some mb),.int .i64 L] 156)) fun e w' => e = .returned (.int .i64 0) /\ Ix w' 0 ip ig n pids' /\ (w1.alloc (.cells #[.pointer (some ⟨ip,0,none⟩),.pointer (some ⟨fp,0,none⟩),.map (some mb),.int .i64 L] 156)).grownBy w' (some ig)) := hidb (fun w1 hb1 => by
    have := yxr (B := 0) 0 A j c (runsOf h.l ids) (w1.alloc (.cells #[.pointer (some ⟨ip,0,none⟩),.pointer (some ⟨fp,0,none⟩),.map (some mb),.int .i64 L] 156)) (k1.toHpM.below (hbw w1 hb1)).ix (fun b off _ e => by have := hAb b off e;omega) ((hT2 w1 hb1).rn hlr) (by omega) hr64
    rw [e4] at this
    exact this)
   have HAD : Hid (∀ w1 w3,Below wr.heap.size wr w1 -> (w1.alloc (.cells #[.pointer (some ⟨ip,0,none⟩),.pointer (some ⟨fp,0,none⟩),.map (some mb),.int .i64 L] 156)).grownBy w3 (some ig) -> Calls Tryz.prog 196 #[.pointer (some ⟨fp,0,none⟩),.slice A j c] w3 fun e w' => e = .returned (.int .i64 0) /\ Fr w' (more Sf w3 w') fp g /\ Kept Sf w3 w') := hidb (fun w1 w3 hb1 hg3 => by
    have hF3 : Fr w3 Sf fp h.free := (k2.below (hbw w1 hb1)).keep (hK3 _ _ hg3) (fun b hb e => by have : b = ig := e;subst this;exact k6.2.2.1 hb)
    have := xK7 hF3 A j c (runsOf h.l ids) ((hT3 w1 w3 hb1 hg3).rn hlr) (by omega) hr64
    rw [e3] at this
    exact this)
   have HDF : Hid (∀ w1 w3 w4,Below wr.heap.size wr w1 -> (w1.alloc (.cells #[.pointer (some ⟨ip,0,none⟩),.pointer (some ⟨fp,0,none⟩),.map (some mb),.int .i64 L] 156)).grownBy w3 (some ig) -> Kept Sf w3 w4 -> Calls Tryz.prog 254 #[.map (some mb),.func (.func 255) #[] #[.pointer (some ⟨w.heap.size + 1,0,none⟩)]] w4 fun e w' => e = .returned (.tuple #[]) /\ w'.ownsMap Tryz.prog 3 spanR mb m0 (Lib.deleteFuncD (pdJ ids) D) /\ w4.grownBy w' (some mb)) := hidb (fun w1 w3 w4 hb1 hg3 hK4 => by
    have hT4 := (hT3 w1 w3 hb1 hg3).kept hK4 (fun b hb => k5 b (k4 b hb))
    have h3 := hg3.size
    have hm2 := (k1.toHpM.below (hbw w1 hb1)).mp
    have hlt2 := hm2.lt
    have hm4 : w4.ownsMap Tryz.prog 3 spanR mb m0 D := xq2 (xq2 hm2 (hg3.block mb hlt2 (fun e => k7.2.2.2.2 (by injection e)))) (hK4.block mb (by omega) k6.2.2.2)
    refine xW2 (pdJ ids) _ _ mb m0 D w4 eg hm4 fun W i s1 s2 s3 s4 hg hi => ?_
    have hTW := hT4.kept (S' := fun b => b = mb) ((Kept.refl _ w4).grown hg fun k e => by injection e with e;exact Or.inl e.symm) (fun b hb => by have : b = mb := hb;omega)
    exact xW1 hTW.box hTW.nm hTW.ni i hi s1 s2 s3 s4)
   have HQ3 : Hid (∀ w1 w3,Below wr.heap.size wr w1 -> (w1.alloc (.cells #[.pointer (some ⟨ip,0,none⟩),.pointer (some ⟨fp,0,none⟩),.map (some mb),.int .i64 L] 156)).grownBy w3 (some ig) -> w3.heap[w1.heap.size]? = some (.cells #[.pointer (some ⟨ip,0,none⟩),.pointer (some ⟨fp,0,none⟩),.map (some mb),.int .i64 L] 156 (0,0))) := hidb (fun w1 w3 hb1 hg3 => by
    have h1 := HF.out.le
    have h2 := hb1.size
    rw [hg3.block _ (by simp) (fun e => by injection e with e;omega)]
    show (w1.heap.push _)[w1.heap.size]? = _
    simp)
   have HQ4 : Hid (∀ w1 w3 w4,Below wr.heap.size wr w1 -> (w1.alloc (.cells #[.pointer (some ⟨ip,0,none⟩),.pointer (some ⟨fp,0,none⟩),.map (some mb),.int .i64 L] 156)).grownBy w3 (some ig) -> Kept Sf w3 w4 -> w4.heap[w1.heap.size]? = some (.cells #[.pointer (some ⟨ip,0,none⟩),.pointer (some ⟨fp,0,none⟩),.map (some mb),.int .i64 L] 156 (0,0))) := hidb (fun w1 w3 w4 hb1 hg3 hK4 => by
    have h1 := HF.out.le
    have h2 := hb1.size
    have h3 := hg3.size
    simp only [World.size_alloc] at h3
    rw [hK4.block _ (by omega) (fun c => by have := k5 _ (k4 _ c);omega)]
    exact HQ3.out w1 w3 hb1 hg3)
   have HE : Hid (∀ w1 w3 w4 w5,Below wr.heap.size wr w1 -> (w1.alloc (.cells #[.pointer (some ⟨ip,0,none⟩),.pointer (some ⟨fp,0,none⟩),.map (some mb),.int .i64 L] 156)).grownBy w3 (some ig) -> Ix w3 0 ip ig n pids' -> Fr w4 (more Sf w3 w4) fp g -> Kept Sf w3 w4 -> w5.ownsMap Tryz.prog 3 spanR mb m0 (Lib.deleteFuncD (pdJ ids) D) -> w4.grownBy w5 (some mb) -> FreedHp w S p (hDrop h ids) (.returned (.int .i64 0)) w5) := hidb (fun w1 w3 w4 w5 hb1 hg3 hx3 hF4 hK4 hm5 hg5 => by
    rw [e1]
    exact ⟨rfl,HpM.freed k1.toHpM k2 k3 k4 k5 k6 k7 (hbw w1 hb1) hg3 hx3 hF4 hK4 hg5 hm5 ⟨k1.mis.drop hD ids,e5,e2,k1.la,k1.lb⟩ rfl rfl⟩)
   rw [hL] at cp
   clear k1 k2 k3 k4 k5 k6 k7 e1 e2 e3 e4 e5 hD hlr hr64 hAb hig hmb hbx hbw hK3 hT2 hT3 hL eg hi hz0 hz1 hz2
   go_wp2_with (first
    | (go_at_call 87;(with_reducible refine cp.mono ?_);rintro e w1 ⟨rfl,hb1⟩)
    | (go_at_call 253;(with_reducible refine (HDR.out _ hb1).mono ?_);rintro e w3 ⟨rfl,hx3,hg3⟩;obtain ⟨_,q1,_⟩ := cells4 (HQ3.out _ _ hb1 hg3))
    | (go_at_call 196;(with_reducible refine (HAD.out _ _ hb1 hg3).mono ?_);rintro e w4 ⟨rfl,hF4,hK4⟩;obtain ⟨_,_,q2,_⟩ := cells4 (HQ4.out _ _ _ hb1 hg3 hK4))
    | (go_at_call 254;(with_reducible refine (HDF.out _ _ _ hb1 hg3 hK4).mono ?_);rintro e w5 ⟨rfl,hm5,hg5⟩))
   go_ret
   exact HE.out _ _ _ _ hb1 hg3 hx3 hF4 hK4 hm5 hg5
end Go.Proofs.YtlcdgmjinhbncaaGreat
