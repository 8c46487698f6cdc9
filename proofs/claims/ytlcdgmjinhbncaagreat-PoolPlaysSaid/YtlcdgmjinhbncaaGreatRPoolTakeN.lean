import Derived.Test.YtlcdgmjinhbncaaGreatRPoolGiveR0
import Derived.Test.YtlcdgmjinhbncaaGreatRAppendAt
import Derived.Deep.RegionHeld3
import Derived.Deep.Cut
import Derived.Deep.CutRange
namespace Go.Proofs.YtlcdgmjinhbncaaGreat
open Go.RowKit
set_option linter.unusedVariables false
theorem yvh {h : HeapV} (k : HOk h) {o : Int} (ho : 0 <= o /\ o <= 3) {g : HeapV} {s : Int × Int × Int × Int} (e : hMake h 4 o = (g,s,0)) : SpanOk s /\ s.2.2.1 = 4 /\ s.2.2.2 = o := by
 have c : ¬ ((4 : Int) < 1 \/ o < -1 \/ 3 < o) := by omega
 cases hb : fBest h.free 4 with
 | none =>
  rw [xzj c hb] at e
  injection e with _ e
  injection e with _ e
  cases e
 | some r =>
  obtain ⟨g',_,_,_,e2,hk⟩ := xzk k c hb
  rw [e2] at e
  injection e with e3 e
  injection e with e4 _
  subst e3 e4
  have h1 := hk.start (s := (h.last + 1,r.1,4,o)) (List.mem_append_right _ (List.mem_singleton.2 rfl))
  have h2 := hk.p1
  refine ⟨⟨h1.1,by show (1 : Int) <= 4;omega,?_,by show -1 <= o;omega,by show o <= 3;omega⟩,rfl,rfl⟩
  have h3 := h1.2.2
  show r.1 + 4 <= 1024
  simp only at h3
  have h4 : h.pages <= 1024 := h2
  omega
theorem xv2 {w : World} {base base' s s' n n' : Nat} {e e' : TypeId} {v v' : Value} {xs xs' : List Value} (h : w.ownsRow base e s v n xs) (h' : w.ownsRow base' e' s' v' n' xs') (hne : e ≠ e') : ∀ b,v.ownBlock = some b -> v'.ownBlock ≠ some b := fun b hb hb' => by
 rcases h.2 with ⟨rfl,_⟩ | ⟨g,cap,cur,rfl,_,hg,_⟩
 ·cases hb
 ·rcases h'.2 with ⟨rfl,_⟩ | ⟨g',cap',cur',rfl,_,hg',_⟩
  ·cases hb'
  ·have e1 : g = b := Option.some.inj hb
   have e2 : g' = b := Option.some.inj hb'
   subst e1 e2
   rw [hg] at hg'
   injection hg' with hg'
   injection hg' with _ h3 _
   exact hne h3
theorem xqn {w w' : World} {base s n : Nat} {e : TypeId} {v : Value} {xs : List Value} {r : Option Nat} (h : w.ownsRow base e s v n xs) (hg : w.grownBy w' r) (hr : ∀ b,v.ownBlock = some b -> r ≠ some b) : w'.ownsRow base e s v n xs := by
 refine ⟨h.1,?_⟩
 rcases h.2 with h2 | ⟨g,cap,cur,hv,hb,hc,rest⟩
 ·exact Or.inl h2
 ·have hlt : g < w.heap.size := (h.lt g (by rw [hv];rfl)).2
  exact Or.inr ⟨g,cap,cur,hv,hb,(hg.block g hlt (fun e => hr g (by rw [hv];rfl) e.symm)).trans hc,rest⟩
theorem xWu (y : CV) : ∀ u ∈ ccells y,u.oneCell' = true := fun u hu => by
 have := xvo [y]
 exact this u (by unfold cellsAll;simpa using hu)
set_option maxRecDepth 100000 in
set_option maxHeartbeats 8000000 in
theorem xQt (P : Nat -> Prop) (q : PoolV) (v : Value) (order : Int) (w : World) (hP : ∀ b,w.heap.size <= b -> P b) (o : POk q) (hv : PoIs w P q v) (h0 : 0 <= order /\ order <= 3) (hn : q.l.length <= 60000) (hl : q.heap.l.length <= 60000) (hla0 : q.heap.last <= 1000000000) (hf : pFirst q.l order 0 true = none) :
  Calls Tryz.prog 66 #[v,.int .i64 order] w (PoolRet3 w P (pTake q order)) := by
 obtain ⟨A,n,c,A2,n2,c2,A3,n3,c3,ys,hv',h1,h2,h3,h4,h5,h6⟩ := hv
 have l3 : ys.length = n3 := h2.row.1
 have lq : q.l.length = n3 := by rw [<- h3,List.length_map,l3]
 rw [lq] at hn
 obtain ⟨P',hP'⟩ : ∃ P' : Nat -> Prop,P' = fun x => P x /\ x ≠ w.heap.size /\ x ≠ w.heap.size + 1 := ⟨_,rfl⟩
 have hPP : ∀ b,w.heap.size + 2 <= b -> P' b := fun b h => by rw [hP'];exact ⟨hP b (by omega),by omega,by omega⟩
 have hPL : ∀ b,P b -> b < w.heap.size -> P' b := fun b h h2 => by rw [hP'];exact ⟨h,by omega,by omega⟩
 have h1' : HIs w P' q.heap (hval q.heap.pages A n c A2 n2 c2 q.heap.last) := (h1.apart (by rw [o.hok.fl];omega)).weaken fun b h => hPL b h.1 h.2
 have h2' : Cn w P' A3 n3 ys := ⟨h2.row,fun z hz => by
  obtain ⟨k1,k2,k3,k4,k5,k6⟩ := h2.lists z hz
  exact ⟨k1,k2,k3,k4,fun x hx => hPL _ (k5 x hx) (h6 z hz x hx),k6⟩,fun x hx => hPL _ (h2.inp x hx) (h5 x hx),h2.ok⟩
 obtain ⟨W0,hW0⟩ : ∃ W0,W0 = (w.alloc (.cells #[.int .i64 q.heap.pages,.slice A n c,.slice A2 n2 c2,.int .i64 q.heap.last,.slice A3 n3 c3,.bool q.held] 35)).alloc (.cells #[.int .i64 0,.slice none 0 0,.slice none 0 0,.int .i64 0,.slice none 0 0,.bool false] 35) := ⟨_,rfl⟩
 have hz : W0.heap.size = w.heap.size + 2 := by rw [hW0];simp
 have hB : Below w.heap.size w W0 := by rw [hW0];exact ((Below.refl _ _).alloc (Nat.le_refl _) _).alloc (by simp) _
 have BX : Hid (∀ W,Below W0.heap.size W0 W -> (W.cell? ⟨w.heap.size,0,none⟩ = some (.int .i64 q.heap.pages) /\ W.cell? ⟨w.heap.size,1,none⟩ = some (.slice A n c) /\ W.cell? ⟨w.heap.size,2,none⟩ = some (.slice A2 n2 c2) /\ W.cell? ⟨w.heap.size,3,none⟩ = some (.int .i64 q.heap.last) /\ W.cell? ⟨w.heap.size,4,none⟩ = some (.slice A3 n3 c3) /\ W.cell? ⟨w.heap.size,5,none⟩ = some (.bool q.held)) /\
   (W.cell? ⟨w.heap.size + 1,0,none⟩ = some (.int .i64 0) /\ W.cell? ⟨w.heap.size + 1,1,none⟩ = some (.slice none 0 0) /\ W.cell? ⟨w.heap.size + 1,2,none⟩ = some (.slice none 0 0) /\ W.cell? ⟨w.heap.size + 1,3,none⟩ = some (.int .i64 0) /\ W.cell? ⟨w.heap.size + 1,4,none⟩ = some (.slice none 0 0) /\ W.cell? ⟨w.heap.size + 1,5,none⟩ = some (.bool false)) /\ (∀ j,W.frozen? ⟨w.heap.size,j,none⟩ = false /\ W.frozen? ⟨w.heap.size + 1,j,none⟩ = false) /\ Below w.heap.size w W /\ w.heap.size + 2 <= W.heap.size) := hidb (fun W hb => by
  have hbw := hB.trans (hb.mono (by omega))
  have hbz := hb.size
  have q0 : ∀ j,W.cell? ⟨w.heap.size,j,none⟩ = W0.cell? ⟨w.heap.size,j,none⟩ := fun j => hb.cell (p := ⟨w.heap.size,j,none⟩) (by show w.heap.size < _;omega)
  have q1 : ∀ j,W.cell? ⟨w.heap.size + 1,j,none⟩ = W0.cell? ⟨w.heap.size + 1,j,none⟩ := fun j => hb.cell (p := ⟨w.heap.size + 1,j,none⟩) (by show w.heap.size + 1 < _;omega)
  have qf : ∀ j,W.frozen? ⟨w.heap.size + 1,j,none⟩ = W0.frozen? ⟨w.heap.size + 1,j,none⟩ := fun j => hb.frozen (p := ⟨w.heap.size + 1,j,none⟩) (by show w.heap.size + 1 < _;omega)
  have qf0 : ∀ j,W.frozen? ⟨w.heap.size,j,none⟩ = W0.frozen? ⟨w.heap.size,j,none⟩ := fun j => hb.frozen (p := ⟨w.heap.size,j,none⟩) (by show w.heap.size < _;omega)
  refine ⟨?_,?_,fun j => ⟨?_,?_⟩,hbw,by omega⟩
  ·rw [q0,q0,q0,q0,q0,q0,hW0];simp [go_sem]
  ·rw [q1,q1,q1,q1,q1,q1,hW0];simp [go_sem]
  ·rw [qf0,hW0];simp [go_sem]
  ·rw [qf,hW0];simp [go_sem])
 have cf := xvn P q.heap.pages q.heap.last A A2 A3 n c n2 c2 n3 c3 q.held ys order 0 true W0 (h2.below hB) (by omega) ⟨by omega,by omega⟩ ⟨by omega,by omega⟩
 rw [h3,hf,show idxInt none = (-1 : Int) from rfl] at cf
 obtain ⟨⟨g,⟨s1,s2,s3,s4⟩,no⟩,hg⟩ : ∃ g,hMake q.heap 4 order = g := ⟨_,rfl⟩
 obtain ⟨pg,hpg⟩ : ∃ x,q.heap.pages = x := ⟨_,rfl⟩
 obtain ⟨la,hla⟩ : ∃ x,q.heap.last = x := ⟨_,rfl⟩
 obtain ⟨hd,hhd⟩ : ∃ x,q.held = x := ⟨_,rfl⟩
 obtain ⟨pg',hpg'⟩ : ∃ x,g.pages = x := ⟨_,rfl⟩
 obtain ⟨la',hla'⟩ : ∃ x,g.last = x := ⟨_,rfl⟩
 have CM : Hid (∀ W,Below W0.heap.size W0 W -> Calls Tryz.prog 71 #[.agg #[.int .i64 pg,.slice A n c,.slice A2 n2 c2,.int .i64 la],.int .i64 4,.int .i64 order] W fun e w3 => ∃ B j1 d1 B2 j2 d2,e = .returned (.tuple #[.agg #[.int .i64 pg',.slice B j1 d1,.slice B2 j2 d2,.int .i64 la'],.agg #[.int .i64 s1,.int .i64 s2,.int .i64 s3,.int .i64 s4],.int .i64 no]) /\ Hid (HIs w3 P' g (hval pg' B j1 d1 B2 j2 d2 la')) /\ Hid (Below W0.heap.size W0 w3)) := hidb (fun W hb => by
  have hbw := (BX.out W hb).2.2.2
  have := xV3 P' q.heap _ 4 order W (fun b hb => hPP b (by omega)) (h1'.below hbw.1) ⟨by omega,by omega⟩ ⟨by omega,by omega⟩ o.hok.fl (by omega) ⟨o.hok.la,hla0⟩
  unfold hval at this
  rw [hg,hpg,hla] at this
  refine this.mono ?_
  rintro e w3 ⟨⟨v',rfl,hv'⟩,hb3⟩
  obtain ⟨B,d1,B2,d2,ev,hrest⟩ := hv'
  refine ⟨B,g.free.length,d1,B2,g.l.length,d2,?_,hidb ⟨B,d1,B2,d2,?_,hrest⟩,hidb (hb.trans (hb3.mono hb.size))⟩
  ·rw [ev,<- hpg',<- hla'];rfl
  ·rw [<- hpg',<- hla'];rfl)
 rw [hpg,hla,hhd] at BX cf hv' hW0
 have HW0 := hidb hW0
 have HZ := hidb hz
 unfold pval at hv' cf
 subst hv'
 have hno1 : decide (order < 0) = false := decide_eq_false (by omega)
 have hno2 : decide (3 < order) = false := decide_eq_false (by omega)
 by_cases hno : no = 0
 ·subst hno
  obtain ⟨hso,hs3,hs4⟩ := yvh o.hok h0 hg
  simp only at hs3 hs4
  have hT := xQ9 h0 hf hg
  have HS := hidb (RowOf.below (B := w.heap.size) h2.row (Below.refl _ _))
  have HC3 := hidb h4
  have HC6 := hidb (⟨h5,h6⟩ : _ /\ _)
  have HKP := hidb (⟨hP,hP',hPP,h2',h3,hpg',hla',hhd,hT,hso,l3,hs3,hs4⟩ : _ /\ _ /\ _ /\ _ /\ _ /\ _ /\ _ /\ _ /\ _ /\ _ /\ _ /\ _ /\ _)
  clear hW0 hz hB hpg hla hhd h1 h2 h3 h4 h5 h6 h1' h2' hP' hPP hPL hT hf hg hpg' hla' o lq hP hl hla0 l3 hs3 hs4
  go_enter Tryz.func66,Tryz.ntmps66
  go_wp2_with (first
   | (go_at_call 75;go_loud (rw [<- HW0.out]);(with_reducible refine cf.mono ?_);rintro e w2 ⟨rfl,hb2⟩;have HB2 := hidb hb2;clear hb2;obtain ⟨⟨j0,j1',j2',j3,j4,j5⟩,_,_,_,_⟩ := BX.out w2 HB2.out)
   | (go_at_call 71;(with_reducible refine (CM.out _ HB2.out).mono ?_);rintro e w3 ⟨B,j1,d1,B2,j2,d2,rfl,HH3,HB3⟩;clear j0 j1' j2' j3 j4 j5;obtain ⟨⟨j0,j1',j2',j3,j4,j5⟩,_,jf,_,hz3⟩ := BX.out w3 HB3.out;have jf0 := (jf 0).1;have jf1 := (jf 1).1;have jf2 := (jf 2).1;have jf3 := (jf 3).1;have hlt3 : w.heap.size < w3.heap.size := (by omega);clear jf))
  obtain ⟨hP,hP',hPP,h2',h3,hpg',hla',hhd,hT,hso,l3,hs3,hs4⟩ := HKP.out
  obtain ⟨W4,hW4⟩ : ∃ W4,W4 = (((((w3.setCell ⟨w.heap.size,0,none⟩ (.int .i64 pg')).setCell ⟨w.heap.size,1,none⟩ (.slice B j1 d1)).setCell ⟨w.heap.size,2,none⟩ (.slice B2 j2 d2)).setCell ⟨w.heap.size,3,none⟩ (.int .i64 la')).alloc (.cells #[.int .i64 pg',.slice B j1 d1,.slice B2 j2 d2,.int .i64 la'] 32)).alloc (.cells #[.int .i64 s1,.int .i64 s2,.int .i64 s3,.int .i64 s4] 49) := ⟨_,rfl⟩
  rw [<- hW4]
  obtain ⟨⟨y0,y1,y2,y3,y4,y5⟩,⟨r0,r1,r2,r3,r4,r5⟩,hfz,hbw3,hsz3⟩ := BX.out w3 HB3.out
  obtain ⟨X3,hX3⟩ : ∃ X3,X3 = ((((w3.setCell ⟨w.heap.size,0,none⟩ (.int .i64 pg')).setCell ⟨w.heap.size,1,none⟩ (.slice B j1 d1)).setCell ⟨w.heap.size,2,none⟩ (.slice B2 j2 d2)).setCell ⟨w.heap.size,3,none⟩ (.int .i64 la')) := ⟨_,rfl⟩
  rw [<- hX3] at hW4
  have hzX : X3.heap.size = w3.heap.size := by rw [hX3];simp
  have hz4 : W4.heap.size = w3.heap.size + 2 := by rw [hW4];simp [hzX]
  have hb4 : Below X3.heap.size X3 W4 := by rw [hW4];exact ((Below.refl _ _).alloc (Nat.le_refl _) _).alloc (by simp) _
  obtain ⟨p0,p1,p2,p3⟩ := xqy w3 w.heap.size (.int .i64 pg') (.slice B j1 d1) (.slice B2 j2 d2) (.int .i64 la') _ _ _ _ y0 y1 y2 y3
  have hot : ∀ (b i : Nat),(b = w.heap.size -> 4 <= i) -> X3.cell? ⟨b,i,none⟩ = w3.cell? ⟨b,i,none⟩ := fun b i h => by
   rw [hX3,World.cell?_setCell_other _ _ _ _ (fun e => by injection e with e1 e2;have := h e1.symm;omega),World.cell?_setCell_other _ _ _ _ (fun e => by injection e with e1 e2;have := h e1.symm;omega),World.cell?_setCell_other _ _ _ _ (fun e => by injection e with e1 e2;have := h e1.symm;omega),World.cell?_setCell_other _ _ _ _ (fun e => by injection e with e1 e2;have := h e1.symm;omega)]
  have hfr : ∀ (b i : Nat),X3.frozen? ⟨b,i,none⟩ = w3.frozen? ⟨b,i,none⟩ := fun b i => by rw [hX3];simp
  have BY : Hid (∀ W,Below W4.heap.size W4 W -> (W.cell? ⟨w.heap.size,0,none⟩ = some (.int .i64 pg') /\ W.cell? ⟨w.heap.size,1,none⟩ = some (.slice B j1 d1) /\ W.cell? ⟨w.heap.size,2,none⟩ = some (.slice B2 j2 d2) /\ W.cell? ⟨w.heap.size,3,none⟩ = some (.int .i64 la') /\ W.cell? ⟨w.heap.size,4,none⟩ = some (.slice A3 n3 c3) /\ W.cell? ⟨w.heap.size,5,none⟩ = some (.bool hd)) /\
    (W.cell? ⟨w.heap.size + 1,0,none⟩ = some (.int .i64 0) /\ W.cell? ⟨w.heap.size + 1,1,none⟩ = some (.slice none 0 0) /\ W.cell? ⟨w.heap.size + 1,2,none⟩ = some (.slice none 0 0) /\ W.cell? ⟨w.heap.size + 1,3,none⟩ = some (.int .i64 0) /\ W.cell? ⟨w.heap.size + 1,4,none⟩ = some (.slice none 0 0) /\ W.cell? ⟨w.heap.size + 1,5,none⟩ = some (.bool false)) /\ (∀ j,W.frozen? ⟨w.heap.size,j,none⟩ = false /\ W.frozen? ⟨w.heap.size + 1,j,none⟩ = false) /\ Below w.heap.size w W /\
    (W.cell? ⟨w3.heap.size + 1,0,none⟩ = some (.int .i64 s1) /\ W.cell? ⟨w3.heap.size + 1,1,none⟩ = some (.int .i64 s2) /\ W.cell? ⟨w3.heap.size + 1,2,none⟩ = some (.int .i64 s3) /\ W.cell? ⟨w3.heap.size + 1,3,none⟩ = some (.int .i64 s4))) := hidb (fun W hb => by
   have hbz := hb.size
   have hbx : Below X3.heap.size X3 W := hb4.trans (hb.mono (by omega))
   have q : ∀ (b i : Nat),b < w3.heap.size -> W.cell? ⟨b,i,none⟩ = X3.cell? ⟨b,i,none⟩ := fun b i h => hbx.cell (p := ⟨b,i,none⟩) (by rw [hzX];exact h)
   have qz : ∀ (b i : Nat),b < w3.heap.size -> W.frozen? ⟨b,i,none⟩ = w3.frozen? ⟨b,i,none⟩ := fun b i h => (hbx.frozen (p := ⟨b,i,none⟩) (by rw [hzX];exact h)).trans (hfr b i)
   have hbX : Below w.heap.size w X3 := by rw [hX3];exact xx9 hbw3 (Nat.le_refl _) _ _ _ _
   refine ⟨⟨?_,?_,?_,?_,?_,?_⟩,⟨?_,?_,?_,?_,?_,?_⟩,fun j => ⟨?_,?_⟩,hbX.trans (hbx.mono (by rw [hzX];omega)),?_⟩
   ·rw [q _ _ (by omega),hX3];exact p0
   ·rw [q _ _ (by omega),hX3];exact p1
   ·rw [q _ _ (by omega),hX3];exact p2
   ·rw [q _ _ (by omega),hX3];exact p3
   ·rw [q _ _ (by omega),hot _ _ (fun _ => by omega)];exact y4
   ·rw [q _ _ (by omega),hot _ _ (fun _ => by omega)];exact y5
   ·rw [q _ _ (by omega),hot _ _ (fun e => by omega)];exact r0
   ·rw [q _ _ (by omega),hot _ _ (fun e => by omega)];exact r1
   ·rw [q _ _ (by omega),hot _ _ (fun e => by omega)];exact r2
   ·rw [q _ _ (by omega),hot _ _ (fun e => by omega)];exact r3
   ·rw [q _ _ (by omega),hot _ _ (fun e => by omega)];exact r4
   ·rw [q _ _ (by omega),hot _ _ (fun e => by omega)];exact r5
   ·rw [qz _ _ (by omega)];exact (hfz j).1
   ·rw [qz _ _ (by omega)];exact (hfz j).2
   ·have z : ∀ j,W.cell? ⟨w3.heap.size + 1,j,none⟩ = W4.cell? ⟨w3.heap.size + 1,j,none⟩ := fun j => hb.cell (p := ⟨w3.heap.size + 1,j,none⟩) (by show w3.heap.size + 1 < W4.heap.size;omega)
    have e : (X3.alloc (.cells #[.int .i64 pg',.slice B j1 d1,.slice B2 j2 d2,.int .i64 la'] 32)).heap.size = w3.heap.size + 1 := by simp [hzX]
    rw [z,z,z,z,hW4,<- e]
    refine ⟨?_,?_,?_,?_⟩ <;> (rw [World.cell?_alloc_at _ _ _ _ (by simp)];rfl))
  obtain ⟨nb,hnb⟩ : ∃ x,(pBlocks (s1,s2,s3,s4)).length = x := ⟨_,rfl⟩
  have CB : Hid (∀ W,Below W4.heap.size W4 W -> Calls Tryz.prog 138 #[.agg #[.int .i64 s1,.int .i64 s2,.int .i64 s3,.int .i64 s4]] W fun e w6 => ∃ Ab cb,e = .returned (.slice Ab nb cb) /\ Below W.heap.size W w6 /\ Below W4.heap.size W4 w6 /\ Hid (w6.ownsRow W.heap.size 3 1 (.slice Ab nb cb) nb ((pBlocks (s1,s2,s3,s4)).map iv))) := hidb (fun W hb => by
   obtain ⟨q1,q2,q3,q4,q5⟩ := hso
   refine (xkc s1 s2 s3 s4 W q1 q2 q3 q4 q5).mono ?_
   rintro e w6 ⟨Ab,cb,rfl,ho,hb6⟩
   rw [hnb] at ho ⊢
   exact ⟨Ab,cb,rfl,hb6,hb.trans (hb6.mono hb.size),hidb ho⟩)
  have HG8 : Hid (∀ W,Below W4.heap.size W4 W -> CellsAt W A3 (cellsAll ccells ys)) := hidb (fun W hb => Cn.cellsAt (h2'.below (BY.out W hb).2.2.2.1))
  have HOne : Hid (∀ v ∈ cellsAll ccells ys,v.oneCell' = true) := hidb (xvo ys)
  have HLen : Hid ((cellsAll ccells ys).length = n3 * 5) := hidb (by rw [xq5 xxn,l3])
  have HA0 : Hid (A3 = none -> n3 = 0 /\ c3 = 0) := hidb (fun e => by
   have hn0 : n3 = 0 := by
    refine Nat.eq_zero_of_not_pos fun hp => ?_
    obtain ⟨b,off,e2,_⟩ := h2'.row.2 hp
    rw [e] at e2;cases e2
   exact ⟨hn0,HC3.out.2.2 e⟩)
  have HL2 : Hid (∀ W,Below W4.heap.size W4 W -> W.cell? ⟨w.heap.size,4,none⟩ = some (.slice A3 n3 c3) /\ W.frozen? ⟨w.heap.size,4,none⟩ = false) := hidb (fun W hb => ⟨(BY.out W hb).1.2.2.2.2.1,((BY.out W hb).2.2.1 4).1⟩)
  have HS4 : Hid (∀ W,Below W4.heap.size W4 W -> W.cell? ⟨w3.heap.size + 1,0,none⟩ = some (.int .i64 s1) /\ W.cell? ⟨w3.heap.size + 1,1,none⟩ = some (.int .i64 s2) /\ W.cell? ⟨w3.heap.size + 1,2,none⟩ = some (.int .i64 s3) /\ W.cell? ⟨w3.heap.size + 1,3,none⟩ = some (.int .i64 s4)) := hidb (fun W hb => (BY.out W hb).2.2.2.2)
  have HHI : Hid (∀ W,Below W4.heap.size W4 W -> HIs W P' g (hval pg' B j1 d1 B2 j2 d2 la')) := hidb (fun W hb => by
   have nb0 : ¬ P' w.heap.size := by rw [hP'];exact fun h => h.2.1 rfl
   have hx : HIs X3 P' g (hval pg' B j1 d1 B2 j2 d2 la') := by
    rw [hX3]
    exact (((HH3.out.aside nb0 0 (.int .i64 pg')).aside nb0 1 (.slice B j1 d1)).aside nb0 2 (.slice B2 j2 d2)).aside nb0 3 (.int .i64 la')
   exact (hx.below hb4).below hb)
  have HCN : Hid (∀ W,Below W4.heap.size W4 W -> Cn W P' A3 n3 ys) := hidb (fun W hb => h2'.below (BY.out W hb).2.2.2.1)
  obtain ⟨i0',hji,hjz0,hjz1,hjz2⟩ := info_parts yv7
  obtain ⟨l2,l2z⟩ := HL2.out W4 (Below.refl _ _)
  obtain ⟨m0',m1',m2',m3'⟩ := HS4.out W4 (Below.refl _ _)
  have hb0lt : w.heap.size < W4.heap.size := by omega
  have hw4s : w.heap.size + 2 <= W4.heap.size := by omega
  obtain ⟨tb,htb⟩ : ∃ tb,w3.heap.size + 1 = tb := ⟨_,rfl⟩
  have hbtlt : tb < W4.heap.size := by omega
  have hnb2 : nb <= 16 /\ 0 < nb := by
   have h16 := xx4 s4 (by omega) (by omega)
   rw [<- hnb,xq9]
   show pMany s3 s4 <= 16 /\ 0 < pMany s3 s4
   rw [hs3]
   exact ⟨h16.2.1,by omega⟩
  rw [htb] at HS4 m0' m1' m2' m3' ⊢
  obtain ⟨bl,hbl⟩ : ∃ bl,pBlocks (s1,s2,s3,s4) = bl := ⟨_,rfl⟩
  rw [hbl] at CB hnb
  have HBLK := hidb (⟨hbl,hnb⟩ : pBlocks (s1,s2,s3,s4) = bl /\ bl.length = nb)
  clear hP hP' hPP h2' h3 hpg' hla' hhd hT hso l3 hs3 hs4 hW4 hX3 hzX hz4 hb4 p0 p1 p2 p3 hot hfr y0 y1 y2 y3 y4 y5 r0 r1 r2 r3 r4 r5 hfz hbw3 hsz3 j0 j1' j2' j3 j4 j5 jf0 jf1 jf2 jf3 hlt3 hz3
  go_cut [48] from 38 to 48 (fun v wx => ∃ A' c' Ab cb w'',v = .pointer (some ⟨w.heap.size,4,none⟩) /\ wx = w''.setCell ⟨w.heap.size,4,none⟩ (.slice A' (n3 + 1) c') /\ Below W4.heap.size W4 w'' /\ w''.ownsRow W4.heap.size 51 5 (.slice A' (n3 + 1) c') (n3 + 1) (cellsAll ccells ys ++ ccells ⟨(s1,s2,s3,s4),Ab,nb,cb,bl⟩) /\ Hid (w''.ownsRow W4.heap.size 3 1 (.slice Ab nb cb) nb (bl.map iv)))
  case first =>
   clear HKP BX BY CM HB2 HB3 HZ HW0 HH3 HS HC3 HC6 HHI HCN HBLK cf hnb hbl htb
   have cb4 := CB.out
   clear CB
   go_region_law
    (first
     | (refine xqa rfl (.tmp 38) (.tmp 40) 33 rfl W4.heap.size 51 i0' (.agg #[.int .i64 0,.int .i64 0,.int .i64 0,.int .i64 0,.slice none 0 0]) 5 56 Tryz.underlying33 hji hjz0 hjz1 hjz2 rfl (by decide) _ 0 [] rfl (by first | exact (own_empty' _ _ _ _ _ (by first | rfl | simp) (by first | exact Nat.le_refl _ | simp)).drew | exact ((own_empty' _ _ _ _ _ (by first | rfl | simp) (by first | exact Nat.le_refl _ | simp)).alloc _).drew | exact xqk (own_empty' _ _ _ _ _ (by first | rfl | simp) (by first | exact Nat.le_refl _ | simp)).drew hbB | exact (xqk (own_empty' _ _ _ _ _ (by first | rfl | simp) (by first | exact Nat.le_refl _ | simp)).drew hbB).alloc _ | exact own_empty' _ _ _ _ _ (by first | rfl | simp) (by first | omega | simp) | exact (own_empty' _ _ _ _ _ (by first | rfl | simp) (by first | omega | simp)).alloc _) (by first | omega | (simp;done) | (simp;omega)) A3 n3 c3 (cellsAll ccells ys) rfl HLen.out HA0.out (HG8.out _ (by repeat (first | assumption | exact Below.refl _ _ | refine Below.drew ?_ | refine Below.alloc ?_ (by first | omega | (simp;done) | (simp;omega)) _))) HOne.out (by unfold maxLen;omega) (by omega) ?_;intro A5 c5 w5 hown5 hg5;have hg5k := (show World.grownBy _ w5 (some _) from hg5);have hB5 : Below W4.heap.size W4 w5 := Below.grown (by repeat (first | assumption | exact Below.refl _ _ | refine Below.drew ?_ | refine Below.alloc ?_ (by first | omega | (simp;done) | (simp;omega)) _)) hg5 (by first | omega | (simp;done) | (simp;omega)) (fun q hq => xJd hq (by first | omega | (simp;done) | (simp;omega)));have hz5 : W4.heap.size <= w5.heap.size := hB5.size;obtain ⟨v0,v1,v2,v3⟩ := HS4.out _ hB5;have vlt : tb < w5.heap.size := (by omega);rw [List.nil_append,Nat.zero_add] at hown5;have hown5' : w5.ownsRow W4.heap.size 51 5 (.slice A5 (0 + n3) c5) n3 (cellsAll ccells ys) := by rw [Nat.zero_add];exact hown5)
     | (go_simp;go_at_call 138;(with_reducible refine (cb4 _ (by repeat (first | assumption | exact Below.refl _ _ | refine Below.drew ?_ | refine Below.alloc ?_ (by first | omega | (simp;done) | (simp;omega)) _))).mono ?_);rintro e w6 ⟨Ab,cb,rfl,hbB,hB6',HOB⟩;have hz6' : W4.heap.size <= w6.heap.size := hB6'.size;obtain ⟨v0,v1,v2,v3⟩ := HS4.out _ hB6';have vlt6 : tb < w6.heap.size := (by omega);have hl26 := HL2.out _ hB6';have hlt6 : w.heap.size < w6.heap.size := (by omega);obtain ⟨hl26,hl26z⟩ := hl26)
     | (refine xqa rfl (.tmp 41) (.tmp 46) 33 rfl W4.heap.size 51 i0' (.agg #[.int .i64 0,.int .i64 0,.int .i64 0,.int .i64 0,.slice none 0 0]) 5 56 Tryz.underlying33 hji hjz0 hjz1 hjz2 rfl (by decide) _ n3 (cellsAll ccells ys) rfl (by first | exact hown5 | exact hown5.alloc _ | exact hown5' | exact hown5'.alloc _ | exact xqk hown5 hbB | exact (xqk hown5 hbB).alloc _ | exact xqk hown5' hbB | exact (xqk hown5' hbB).alloc _) (by first | omega | (simp;done) | (simp;omega)) (some ⟨_,0,none⟩) 1 1 (ccells ⟨(s1,s2,s3,s4),Ab,nb,cb,bl⟩) rfl rfl (fun h => by cases h) (by first | exact cells_new' _ _ _ _ (by first | rfl | simp) | (refine CellsAt.grown ?_ hg5 (yj0 (by first | omega | (simp;done)));first | exact cells_new' _ _ _ _ (by first | rfl | simp) | exact (cells_new' _ _ _ _ (by first | rfl | simp)).drew | exact ((cells_new' _ _ _ _ (by first | rfl | simp)).alloc _).drew | exact (cells_new' _ _ _ _ (by first | rfl | simp)).alloc _)) (xWu _) (by unfold maxLen;omega) (by omega) ?_;intro A6 c6 w7 hown6 hg6;have hB6 : Below W4.heap.size W4 w7 := Below.grown (by repeat (first | assumption | exact Below.refl _ _ | refine Below.drew ?_ | refine Below.alloc ?_ (by first | omega | (simp;done) | (simp;omega)) _)) hg6 (by first | omega | (simp;done) | (simp;omega)) (by first | exact fun q hq => (hown5.lt q hq).1 | exact fun q hq => (hown5'.lt q hq).1);have hz6 : W4.heap.size <= w7.heap.size := hB6.size;obtain ⟨m2,m2z⟩ := HL2.out _ hB6;have HO6 := hidb hown6;have HG6 : Hid (World.grownBy _ w7 (Value.slice A5 n3 c5).ownBlock) := hidb hg6;clear hown6 hg6))
   all_goals
    go_wp2_with fail
    go_meet
    have HFB : w7.ownsRow W4.heap.size 3 1 (.slice Ab nb cb) nb (bl.map iv) := by
     first
      | exact xxp (xqn HOB.out HG6.out (fun b hb e => by have h1 := HOB.out.lt b hb;have h2 := hown5.lt b e;(try simp at h1);omega)) (by first | exact Nat.le_refl _ | omega | (simp;done) | (simp;omega))
      | exact xxp (xqn (HOB.out.alloc _) HG6.out (fun b hb e => by have h1 := HOB.out.lt b hb;have h2 := hown5.lt b e;(try simp at h1);omega)) (by first | exact Nat.le_refl _ | omega | (simp;done) | (simp;omega))
      | (have H1 := xqn HOB.out hg5k (fun b hb e => by have h1 := HOB.out.lt b hb;injection e with e;(try simp at h1);omega);exact xxp (xqn H1 HG6.out (fun b hb e => xv2 hown5 H1 (by decide) b e hb)) (by first | exact Nat.le_refl _ | omega | (simp;done) | (simp;omega)))
      | (have H1 := xqn HOB.out hg5k (fun b hb e => by have h1 := HOB.out.lt b hb;injection e with e;(try simp at h1);omega);exact xxp (xqn (H1.alloc _) HG6.out (fun b hb e => xv2 hown5 H1 (by decide) b e hb)) (by first | exact Nat.le_refl _ | omega | (simp;done) | (simp;omega)))
      | (have H1 := xqn (HOB.out.alloc _) hg5k (fun b hb e => by have h1 := HOB.out.lt b hb;injection e with e;(try simp at h1);omega);exact xxp (xqn H1 HG6.out (fun b hb e => xv2 hown5 H1 (by decide) b e hb)) (by first | exact Nat.le_refl _ | omega | (simp;done) | (simp;omega)))
      | (have H1 := xqn (HOB.out.alloc _) hg5k (fun b hb e => by have h1 := HOB.out.lt b hb;injection e with e;(try simp at h1);omega);exact xxp (xqn (H1.alloc _) HG6.out (fun b hb e => xv2 hown5 H1 (by decide) b e hb)) (by first | exact Nat.le_refl _ | omega | (simp;done) | (simp;omega)))
    exact ⟨A6,c6,Ab,cb,w7,rfl,rfl,hB6,HO6.out,hidb HFB⟩
  case rest =>
   obtain ⟨A7,c7,Ab,cb,w7,e7,rfl,hB7,HO7,HOB⟩ := hcut
   subst e7
   obtain ⟨hP,hP',hPP,h2',h3,hpg',hla',hhd,hT,hso,l3,hs3,hs4⟩ := HKP.out
   obtain ⟨W5,hW5⟩ : ∃ W5,W5 = w7.setCell ⟨w.heap.size,4,none⟩ (.slice A7 (n3 + 1) c7) := ⟨_,rfl⟩
   rw [<- hW5]
   have hz7 := hB7.size
   have hz5 : W5.heap.size = w7.heap.size := by rw [hW5];simp
   have hob5 : W5.ownsRow W4.heap.size 3 1 (.slice Ab nb cb) nb (bl.map iv) := by rw [hW5];exact ownsRow_setCell_below HOB.out (a := ⟨w.heap.size,4,none⟩) hb0lt _
   have ho5 : W5.ownsRow W4.heap.size 51 5 (.slice A7 (n3 + 1) c7) (n3 + 1) (cellsAll ccells (ys ++ [⟨(s1,s2,s3,s4),Ab,nb,cb,bl⟩])) := by rw [hW5,xq7,xx6];exact ownsRow_setCell_below HO7 (a := ⟨w.heap.size,4,none⟩) hb0lt _
   have hslb : Sl W5 W5.heap.size Ab nb (bl.map iv) := by
    have := HBLK.out.2
    subst this
    exact Sl.of_own hob5
   obtain ⟨lb,lo,rfl,hlb,hlc⟩ := hslb.2 hnb2.2
   have hlbw : W4.heap.size <= lb := (hob5.lt lb rfl).1
   obtain ⟨a,r,rfl⟩ : ∃ a r,bl = a :: r := by
    cases bl with
    | nil => have h := HBLK.out.2;have h2 := hnb2.2;simp at h;omega
    | cons a r => exact ⟨a,r,rfl⟩
   have hB7w : Below w.heap.size w w7 := (BY.out w7 hB7).2.2.2.1
   have hB5 : Below w.heap.size w W5 := by rw [hW5];exact hB7w.setCell (p := ⟨w.heap.size,4,none⟩) (Nat.le_refl _) _
   have nb0 : ¬ P' w.heap.size := by rw [hP'];exact fun h => h.2.1 rfl
   have hI5 : HIs W5 P' g (hval pg' B j1 d1 B2 j2 d2 la') := by rw [hW5];exact (HHI.out w7 hB7).aside nb0 4 _
   have hlen5 : (ys ++ [(⟨(s1,s2,s3,s4),some ⟨lb,lo,none⟩,nb,cb,a :: r⟩ : CV)]).length = n3 + 1 := by rw [List.length_append,l3];rfl
   have hC5 : Cn W5 P' A7 (n3 + 1) (ys ++ [⟨(s1,s2,s3,s4),some ⟨lb,lo,none⟩,nb,cb,a :: r⟩]) := by
    refine ⟨RowOf.of_own xxn ho5 hlen5,fun z hz => ?_,fun x hx => hPP _ (by have := (ho5.lt x.block (by rw [hx];rfl)).1;omega),fun z hz => ?_⟩
    ·rcases List.mem_append.1 hz with hz | hz
     ·obtain ⟨z1,z2,z3,z4,z5,z6⟩ := (HCN.out w7 hB7).lists z hz
      refine ⟨?_,z2,z3,z4,z5,z6⟩
      rw [hW5]
      exact (z1.aside (p := ⟨w.heap.size,4,none⟩) (fun x hx e => nb0 (by have := z5 x hx;have e2 : x.block = w.heap.size := e;rw [e2] at this;exact this)) _).more (by simp)
     ·obtain rfl := List.mem_singleton.1 hz
      obtain ⟨q1,q2,q3⟩ := xw3 hob5
      exact ⟨hslb,q1,q2,q3,fun x hx => hPP _ (by injection hx with hx;rw [<- hx];show _ <= lb;omega),by show nb <= _;omega⟩
    ·rcases List.mem_append.1 hz with hz | hz
     ·exact h2'.ok z hz
     ·obtain rfl := List.mem_singleton.1 hz
      exact hso
   obtain ⟨b7,o7,y7,e7,hy7,_,d0,d1',d2',d3',d4⟩ := hC5.at_ (j := n3) (by omega)
   have hyn : (ys ++ [(⟨(s1,s2,s3,s4),some ⟨lb,lo,none⟩,nb,cb,a :: r⟩ : CV)])[n3]? = some ⟨(s1,s2,s3,s4),some ⟨lb,lo,none⟩,nb,cb,a :: r⟩ := by rw [<- l3];simp
   rw [hyn] at hy7
   obtain rfl := Option.some.inj hy7
   subst e7
   simp only at d0 d1' d2' d3' d4
   have hzz : w.heap.size + 2 <= W5.heap.size := by omega
   have CW := yvb (W5 := W5) (c3 := c7) (hd := hd) hP' hP hB5 hzz hI5 hC5 (l := q.l ++ [((s1,s2,s3,s4),a :: r)]) (by rw [List.map_append,h3];rfl) (fun x hx => (ho5.lt x.block (by rw [hx];rfl)).2) (fun z hz x hx => by
    rcases List.mem_append.1 hz with hz | hz
    ·have := HC6.out.2 z hz x hx
     have h8 := hB5.size
     show x.block < _
     have : x.block < w.heap.size := this
     omega
    ·obtain rfl := List.mem_singleton.1 hz
     injection hx with hx
     rw [<- hx];exact hlb) (by omega) hyn hpg' hla'
   have hset : (q.l ++ [((s1,s2,s3,s4),a :: r)]).set n3 ((s1,s2,s3,s4),r) = q.l ++ [((s1,s2,s3,s4),r)] := by
    have : q.l.length = n3 := by rw [<- h3,List.length_map,l3]
    rw [<- this];simp
   rw [hset] at CW
   rw [HBLK.out.1] at hT
   simp only [List.tail_cons,List.headD_cons] at hT
   have HEND : Hid (∀ WF A8 c8,PoIs WF P ⟨g,q.l ++ [((s1,s2,s3,s4),r)],hd⟩ (.agg #[.int .i64 pg',.slice B j1 d1,.slice B2 j2 d2,.int .i64 la',.slice A8 (n3 + 1) c8,.bool hd]) -> Below w.heap.size w WF -> PoolRet3 w P (pTake q order) (.returned (.tuple #[.agg #[.int .i64 pg',.slice B j1 d1,.slice B2 j2 d2,.int .i64 la',.slice A8 (n3 + 1) c8,.bool hd],.int .i64 a,.int .i64 0])) WF) := hidb (fun WF A8 c8 hp hb => by
    rw [hT,hhd]
    exact ⟨_,rfl,hp,hb⟩)
   have BZ : Hid (∀ W,Below W5.heap.size W5 W -> (W.cell? ⟨w.heap.size,0,none⟩ = some (.int .i64 pg') /\ W.cell? ⟨w.heap.size,1,none⟩ = some (.slice B j1 d1) /\ W.cell? ⟨w.heap.size,2,none⟩ = some (.slice B2 j2 d2) /\ W.cell? ⟨w.heap.size,3,none⟩ = some (.int .i64 la') /\ W.cell? ⟨w.heap.size,4,none⟩ = some (.slice (some ⟨b7,o7,none⟩) (n3 + 1) c7) /\ W.cell? ⟨w.heap.size,5,none⟩ = some (.bool hd)) /\
     (W.cell? ⟨w.heap.size + 1,0,none⟩ = some (.int .i64 0) /\ W.cell? ⟨w.heap.size + 1,1,none⟩ = some (.slice none 0 0) /\ W.cell? ⟨w.heap.size + 1,2,none⟩ = some (.slice none 0 0) /\ W.cell? ⟨w.heap.size + 1,3,none⟩ = some (.int .i64 0) /\ W.cell? ⟨w.heap.size + 1,4,none⟩ = some (.slice none 0 0) /\ W.cell? ⟨w.heap.size + 1,5,none⟩ = some (.bool false)) /\ (∀ j,W.frozen? ⟨w.heap.size + 1,j,none⟩ = false) /\
     (W.cell? ⟨b7,o7 + n3 * 5,none⟩ = some (.int .i64 s1) /\ W.cell? ⟨b7,o7 + n3 * 5 + 1,none⟩ = some (.int .i64 s2) /\ W.cell? ⟨b7,o7 + n3 * 5 + 2,none⟩ = some (.int .i64 s3) /\ W.cell? ⟨b7,o7 + n3 * 5 + 3,none⟩ = some (.int .i64 s4) /\ W.cell? ⟨b7,o7 + n3 * 5 + 4,none⟩ = some (.slice (some ⟨lb,lo,none⟩) nb cb)) /\ W.cell? ⟨lb,lo,none⟩ = some (.int .i64 a)) := hidb (fun W hb => by
    obtain ⟨⟨p0,p1,p2,p3,p4,p5⟩,⟨r0,r1,r2,r3,r4,r5⟩,hfz,_,_⟩ := BY.out w7 hB7
    have q : ∀ (b i : Nat),b < W5.heap.size -> W.cell? ⟨b,i,none⟩ = W5.cell? ⟨b,i,none⟩ := fun b i h => hb.cell (p := ⟨b,i,none⟩) h
    have qo : ∀ (b i : Nat),(b = w.heap.size -> i ≠ 4) -> W5.cell? ⟨b,i,none⟩ = w7.cell? ⟨b,i,none⟩ := fun b i h => by
     rw [hW5,World.cell?_setCell_other _ _ _ _ (fun e => by injection e with e1 e2;exact h e1.symm e2.symm)]
    have hb7 := xq0 d0
    have hl0 := hlc 0 hnb2.2
    rw [Nat.add_zero] at hl0
    simp only at hb7
    refine ⟨⟨?_,?_,?_,?_,?_,?_⟩,⟨?_,?_,?_,?_,?_,?_⟩,fun j => ?_,⟨(q _ _ hb7).trans d0,(q _ _ hb7).trans d1',(q _ _ hb7).trans d2',(q _ _ hb7).trans d3',(q _ _ hb7).trans d4⟩,(q _ _ hlb).trans hl0⟩
    ·rw [q _ _ (by omega),qo _ _ (fun _ => by omega)];exact p0
    ·rw [q _ _ (by omega),qo _ _ (fun _ => by omega)];exact p1
    ·rw [q _ _ (by omega),qo _ _ (fun _ => by omega)];exact p2
    ·rw [q _ _ (by omega),qo _ _ (fun _ => by omega)];exact p3
    ·rw [q _ _ (by omega),hW5];exact World.cell?_setCell_same _ _ _ p4
    ·rw [q _ _ (by omega),qo _ _ (fun _ => by omega)];exact p5
    ·rw [q _ _ (by omega),qo _ _ (fun e => by omega)];exact r0
    ·rw [q _ _ (by omega),qo _ _ (fun e => by omega)];exact r1
    ·rw [q _ _ (by omega),qo _ _ (fun e => by omega)];exact r2
    ·rw [q _ _ (by omega),qo _ _ (fun e => by omega)];exact r3
    ·rw [q _ _ (by omega),qo _ _ (fun e => by omega)];exact r4
    ·rw [q _ _ (by omega),qo _ _ (fun e => by omega)];exact r5
    ·rw [hb.frozen (p := ⟨w.heap.size + 1,j,none⟩) (by show w.heap.size + 1 < W5.heap.size;omega),hW5]
     have := (hfz j).2
     simpa using this)
   have hcb := (xJf hob5)
   have hcb2 := (xw3 hob5).2.1
   obtain ⟨⟨j0,j1',j2',j3,j4,j5⟩,_,_,⟨dd0,dd1,dd2,dd3,dd4⟩,kl⟩ := BZ.out W5 (Below.refl _ _)
   have hi0 : (0 : Int) <= (n3 : Int) := by omega
   have hi1 : (n3 : Int) < ((n3 + 1 : Nat) : Int) := by omega
   have hi2 : (n3 : Int) < (n3 : Int) + 1 := by omega
   have hwr : IntKind.i64.wrap (n3 : Int) = (n3 : Int) := IntWalk.i64_in _ (by omega)
   have hw1 : (1 : Int) <= (nb : Int) := by omega
   have hw0 : 0 < nb := by omega
   have hw00 : (0 : Int) < (nb : Int) := by omega
   have hw2 : (nb : Int) <= (cb : Int) := by omega
   clear hP hP' hPP h2' h3 hpg' hla' hhd hT hso l3 hs3 hs4 hW5 hB7 HO7 HOB hob5 ho5 hslb hlc hB7w hB5 hI5 hC5 hlen5 hyn d0 d1' d2' d3' d4 hset HKP BX BY CM HB2 HB3 HZ HW0 HH3 HS HC3 HC6 HHI HCN HBLK HG8 HOne HLen HA0 HL2 HS4 CB cf nb0 hz5 hz7
   by_cases hyc : 1 < cb
   ·have hyc2 : ¬ cb = 1 := by omega
    unfold tailA at CW
    rw [if_pos hyc] at CW
    go_wp2
    obtain ⟨W6,hW6⟩ : ∃ W6,W6 = W5.alloc (.cells #[.int .i64 s1,.int .i64 s2,.int .i64 s3,.int .i64 s4,.slice (some ⟨lb,lo,none⟩) nb cb] 51) := ⟨_,rfl⟩
    have hb6 : Below W5.heap.size W5 W6 := by rw [hW6];exact (Below.refl _ _).alloc (Nat.le_refl _) _
    have HK : Hid (∀ W,Below W6.heap.size W6 W -> W.cell? ⟨W5.heap.size,0,none⟩ = some (.int .i64 s1) /\ W.cell? ⟨W5.heap.size,1,none⟩ = some (.int .i64 s2) /\ W.cell? ⟨W5.heap.size,2,none⟩ = some (.int .i64 s3) /\ W.cell? ⟨W5.heap.size,3,none⟩ = some (.int .i64 s4) /\ W.cell? ⟨W5.heap.size,4,none⟩ = some (.slice (some ⟨lb,lo,none⟩) nb cb)) := hidb (fun W hb => by
     have z : ∀ j,W.cell? ⟨W5.heap.size,j,none⟩ = W6.cell? ⟨W5.heap.size,j,none⟩ := fun j => hb.cell (p := ⟨W5.heap.size,j,none⟩) (by rw [hW6];simp)
     rw [z,z,z,z,z,hW6]
     simp [go_sem])
    rw [<- hW6]
    obtain ⟨⟨j0,j1',j2',j3,j4,j5⟩,⟨r0,r1,r2,r3,r4,r5⟩,rf,_,kl⟩ := BZ.out W6 hb6
    obtain ⟨k0,k1,k2,k3,k4⟩ := HK.out W6 (Below.refl _ _)
    have cw := CW W6.drew hb6.drew
    have HX : Hid (∀ w8,Below W6.drew.heap.size W6.drew w8 -> Below W5.heap.size W5 w8 /\ Below W6.heap.size W6 w8) := hidb (fun w8 hb => by
     have h1 : Below W6.heap.size W6 w8 := (Below.refl W6.heap.size W6).drew.trans hb
     exact ⟨hb6.trans (h1.mono hb6.size),h1⟩)
    have nn1 : ¬ W5.heap.size = w.heap.size + 1 := by omega
    have nn2 : ¬ w.heap.size + 1 = W5.heap.size := by omega
    have nn3 : ¬ lb = w.heap.size + 1 := by omega
    have nn4 : ¬ w.heap.size + 1 = lb := by omega
    have nn5 : ¬ w.heap.size + 1 = w.heap.size := by omega
    have nn6 : ¬ w.heap.size = w.heap.size + 1 := by omega
    clear CW hW6 hb6 rf
    go_region_held3 (fun W' => W'.cell? ⟨w.heap.size,0,none⟩ = some (.int .i64 pg') /\ W'.cell? ⟨w.heap.size,1,none⟩ = some (.slice B j1 d1) /\ W'.cell? ⟨w.heap.size,2,none⟩ = some (.slice B2 j2 d2) /\ W'.cell? ⟨w.heap.size,3,none⟩ = some (.int .i64 la') /\ W'.cell? ⟨w.heap.size,4,none⟩ = some (.slice (some ⟨b7,o7,none⟩) (n3 + 1) c7) /\ W'.cell? ⟨w.heap.size,5,none⟩ = some (.bool hd) /\ W'.cell? ⟨W5.heap.size,0,none⟩ = some (.int .i64 s1) /\ W'.cell? ⟨W5.heap.size,1,none⟩ = some (.int .i64 s2) /\ W'.cell? ⟨W5.heap.size,2,none⟩ = some (.int .i64 s3) /\ W'.cell? ⟨W5.heap.size,3,none⟩ = some (.int .i64 s4) /\ W'.cell? ⟨W5.heap.size,4,none⟩ = some (.slice (some ⟨lb,lo,none⟩) nb cb) /\ W'.cell? ⟨lb,lo,none⟩ = some (.int .i64 a)) (go_keep)
     (first | (go_at_call 139;(with_reducible refine cw.mono ?_);rintro e w8 ⟨A8,c8,rfl,hb8,hp8⟩;obtain ⟨x1,x2⟩ := HX.out w8 hb8;obtain ⟨⟨q0,q1,q2,q3,q4,q5⟩,⟨u0,u1,u2,u3,u4,u5⟩,uf,_,kl8⟩ := BZ.out w8 x1;obtain ⟨k80,k81,k82,k83,k84⟩ := HK.out w8 x2;have uf0 := uf 0;have uf1 := uf 1;have uf2 := uf 2;have uf3 := uf 3;have uf4 := uf 4;have uf5 := uf 5;have HP8 := hidb hp8;clear uf hb8 hp8 x1 x2))
    obtain ⟨t0,t1,t2,t3,t4,t5⟩ := xx0 (.int .i64 pg') (.slice B j1 d1) (.slice B2 j2 d2) (.int .i64 la') (.slice A8 (n3 + 1) c8) (.bool hd) u0 u1 u2 u3 u4 u5
    go_wp2
    refine bodyPost_ret (v := .tuple #[.agg #[.int .i64 pg',.slice B j1 d1,.slice B2 j2 d2,.int .i64 la',.slice A8 (n3 + 1) c8,.bool hd],.int .i64 a,.int .i64 0]) (by simp [results,Tryz.results66,go_sem,t0,t1,t2,t3,t4,t5]) rfl ?_
    exact HEND.out _ A8 c8 HP8.out.1 HP8.out.2
   ·unfold tailA at CW
    rw [if_neg hyc] at CW
    obtain rfl : cb = 1 := by omega
    obtain rfl : nb = 1 := by omega
    simp only [Nat.sub_self] at CW
    clear hw1 hw2 hyc hw0 hw00
    go_wp2
    obtain ⟨W6,hW6⟩ : ∃ W6,W6 = W5.alloc (.cells #[.int .i64 s1,.int .i64 s2,.int .i64 s3,.int .i64 s4,.slice (some ⟨lb,lo,none⟩) 1 1] 51) := ⟨_,rfl⟩
    have hb6 : Below W5.heap.size W5 W6 := by rw [hW6];exact (Below.refl _ _).alloc (Nat.le_refl _) _
    have HK : Hid (∀ W,Below W6.heap.size W6 W -> W.cell? ⟨W5.heap.size,0,none⟩ = some (.int .i64 s1) /\ W.cell? ⟨W5.heap.size,1,none⟩ = some (.int .i64 s2) /\ W.cell? ⟨W5.heap.size,2,none⟩ = some (.int .i64 s3) /\ W.cell? ⟨W5.heap.size,3,none⟩ = some (.int .i64 s4) /\ W.cell? ⟨W5.heap.size,4,none⟩ = some (.slice (some ⟨lb,lo,none⟩) 1 1)) := hidb (fun W hb => by
     have z : ∀ j,W.cell? ⟨W5.heap.size,j,none⟩ = W6.cell? ⟨W5.heap.size,j,none⟩ := fun j => hb.cell (p := ⟨W5.heap.size,j,none⟩) (by rw [hW6];simp)
     rw [z,z,z,z,z,hW6]
     simp [go_sem])
    rw [<- hW6]
    obtain ⟨⟨j0,j1',j2',j3,j4,j5⟩,⟨r0,r1,r2,r3,r4,r5⟩,rf,_,kl⟩ := BZ.out W6 hb6
    obtain ⟨k0,k1,k2,k3,k4⟩ := HK.out W6 (Below.refl _ _)
    have cw := CW W6.drew hb6.drew
    have HX : Hid (∀ w8,Below W6.drew.heap.size W6.drew w8 -> Below W5.heap.size W5 w8 /\ Below W6.heap.size W6 w8) := hidb (fun w8 hb => by
     have h1 : Below W6.heap.size W6 w8 := (Below.refl W6.heap.size W6).drew.trans hb
     exact ⟨hb6.trans (h1.mono hb6.size),h1⟩)
    have nn1 : ¬ W5.heap.size = w.heap.size + 1 := by omega
    have nn2 : ¬ w.heap.size + 1 = W5.heap.size := by omega
    have nn3 : ¬ lb = w.heap.size + 1 := by omega
    have nn4 : ¬ w.heap.size + 1 = lb := by omega
    have nn5 : ¬ w.heap.size + 1 = w.heap.size := by omega
    have nn6 : ¬ w.heap.size = w.heap.size + 1 := by omega
    clear CW hW6 hb6 rf
    go_region_held3 (fun W' => W'.cell? ⟨w.heap.size,0,none⟩ = some (.int .i64 pg') /\ W'.cell? ⟨w.heap.size,1,none⟩ = some (.slice B j1 d1) /\ W'.cell? ⟨w.heap.size,2,none⟩ = some (.slice B2 j2 d2) /\ W'.cell? ⟨w.heap.size,3,none⟩ = some (.int .i64 la') /\ W'.cell? ⟨w.heap.size,4,none⟩ = some (.slice (some ⟨b7,o7,none⟩) (n3 + 1) c7) /\ W'.cell? ⟨w.heap.size,5,none⟩ = some (.bool hd) /\ W'.cell? ⟨W5.heap.size,0,none⟩ = some (.int .i64 s1) /\ W'.cell? ⟨W5.heap.size,1,none⟩ = some (.int .i64 s2) /\ W'.cell? ⟨W5.heap.size,2,none⟩ = some (.int .i64 s3) /\ W'.cell? ⟨W5.heap.size,3,none⟩ = some (.int .i64 s4) /\ W'.cell? ⟨W5.heap.size,4,none⟩ = some (.slice (some ⟨lb,lo,none⟩) 1 1) /\ W'.cell? ⟨lb,lo,none⟩ = some (.int .i64 a)) (go_keep)
     (first | (go_at_call 139;(with_reducible refine cw.mono ?_);rintro e w8 ⟨A8,c8,rfl,hb8,hp8⟩;obtain ⟨x1,x2⟩ := HX.out w8 hb8;obtain ⟨⟨q0,q1,q2,q3,q4,q5⟩,⟨u0,u1,u2,u3,u4,u5⟩,uf,_,kl8⟩ := BZ.out w8 x1;obtain ⟨k80,k81,k82,k83,k84⟩ := HK.out w8 x2;have uf0 := uf 0;have uf1 := uf 1;have uf2 := uf 2;have uf3 := uf 3;have uf4 := uf 4;have uf5 := uf 5;have HP8 := hidb hp8;clear uf hb8 hp8 x1 x2))
    obtain ⟨t0,t1,t2,t3,t4,t5⟩ := xx0 (.int .i64 pg') (.slice B j1 d1) (.slice B2 j2 d2) (.int .i64 la') (.slice A8 (n3 + 1) c8) (.bool hd) u0 u1 u2 u3 u4 u5
    go_wp2
    refine bodyPost_ret (v := .tuple #[.agg #[.int .i64 pg',.slice B j1 d1,.slice B2 j2 d2,.int .i64 la',.slice A8 (n3 + 1) c8,.bool hd],.int .i64 a,.int .i64 0]) (by simp [results,Tryz.results66,go_sem,t0,t1,t2,t3,t4,t5]) rfl ?_
    exact HEND.out _ A8 c8 HP8.out.1 HP8.out.2
 ·have hT := xXr h0 hf (by rw [hg];exact hno)
  rw [hg] at hT
  have HR : Hid (∀ WF,Below w.heap.size w WF -> PoolRet3 w P (pTake q order) (.returned (.tuple #[.agg #[.int .i64 pg,.slice A n c,.slice A2 n2 c2,.int .i64 la,.slice A3 n3 c3,.bool hd],.int .i64 0,.int .i64 no])) WF) := hidb (fun WF hb => by
   rw [hT]
   refine ⟨_,rfl,⟨A,n,c,A2,n2,c2,A3,n3,c3,ys,?_,h1.below hb,h2.below hb,h3,h4,fun a ha => Nat.lt_of_lt_of_le (h5 a ha) hb.size,fun y hy a ha => Nat.lt_of_lt_of_le (h6 y hy a ha) hb.size⟩,hb⟩
   unfold pval
   rw [hpg,hla,hhd])
  have hnd : decide (no = 0) = false := decide_eq_false hno
  clear hW0 hz hB hpg hla hhd h1 h2 h3 h4 h5 h6 h1' h2' hP' hPP hPL hT hf hg hpg' hla' o lq hP hl hla0 l3
  go_enter Tryz.func66,Tryz.ntmps66
  go_wp2_with (first
   | (go_at_call 75;go_loud (rw [<- HW0.out]);(with_reducible refine cf.mono ?_);rintro e w2 ⟨rfl,hb2⟩;have HB2 := hidb hb2;clear hb2;obtain ⟨⟨j0,j1',j2',j3,j4,j5⟩,_,_,_,_⟩ := BX.out w2 HB2.out)
   | (go_at_call 71;(with_reducible refine (CM.out _ HB2.out).mono ?_);rintro e w3 ⟨B,j1,d1,B2,j2,d2,rfl,HH3,HB3⟩;clear j0 j1' j2' j3 j4 j5;obtain ⟨⟨j0,j1',j2',j3,j4,j5⟩,⟨r0,r1,r2,r3,r4,r5⟩,jf,hbw3,hz3⟩ := BX.out w3 HB3.out;have HBW := hidb hbw3;have jf0 := (jf 0).2;have jf1 := (jf 1).2;have jf2 := (jf 2).2;have jf3 := (jf 3).2;have jf4 := (jf 4).2;have jf5 := (jf 5).2;have hlt3 : w.heap.size < w3.heap.size := (by omega);have hlt4 : w.heap.size + 1 < w3.heap.size := (by omega);clear jf hbw3))
  obtain ⟨X3,hX3⟩ : ∃ X3,X3 = (((((w3.setCell ⟨w.heap.size + 1,0,none⟩ (.int .i64 pg)).setCell ⟨w.heap.size + 1,1,none⟩ (.slice A n c)).setCell ⟨w.heap.size + 1,2,none⟩ (.slice A2 n2 c2)).setCell ⟨w.heap.size + 1,3,none⟩ (.int .i64 la)).setCell ⟨w.heap.size + 1,4,none⟩ (.slice A3 n3 c3)).setCell ⟨w.heap.size + 1,5,none⟩ (.bool hd) := ⟨_,rfl⟩
  obtain ⟨t0,t1,t2,t3,t4,t5⟩ := xx0 (.int .i64 pg) (.slice A n c) (.slice A2 n2 c2) (.int .i64 la) (.slice A3 n3 c3) (.bool hd) r0 r1 r2 r3 r4 r5
  rw [<- hX3] at t0 t1 t2 t3 t4 t5 ⊢
  have hzX : X3.heap.size = w3.heap.size := by rw [hX3];simp
  have hlX : w.heap.size + 1 < X3.heap.size := by omega
  have hlX0 : w.heap.size < X3.heap.size := by omega
  have HBX : Hid (Below w.heap.size w X3) := hidb (by rw [hX3];exact xqu HBW.out (by omega) _ _ _ _ _ _)
  clear hX3 r0 r1 r2 r3 r4 r5 j0 j1' j2' j3 j4 j5 jf0 jf1 jf2 jf3 jf4 jf5
  refine bodyPost_ret (v := .tuple #[.agg #[.int .i64 pg,.slice A n c,.slice A2 n2 c2,.int .i64 la,.slice A3 n3 c3,.bool hd],.int .i64 0,.int .i64 no]) (by simp [results,Tryz.results66,go_sem,t0,t1,t2,t3,t4,t5,hlX,hlX0]) rfl ?_
  exact HR.out _ ((HBX.out.alloc (by omega) _).alloc (by simp;omega) _)
end Go.Proofs.YtlcdgmjinhbncaaGreat
