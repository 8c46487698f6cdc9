import Derived.Test.YtlcdgmjinhbncaaGreatRAppendAt
import Derived.Test.YtlcdgmjinhbncaaGreatRPoolList
import Derived.Test.YtlcdgmjinhbncaaGreatRPoolWith
namespace Go.Proofs.YtlcdgmjinhbncaaGreat
open Go.RowKit
set_option linter.unusedVariables false
def swIds (q : PoolV) (j : Nat) : List Int := ((q.l.take j).filter pWhole).map (·.1.1)
def swHeap (q : PoolV) (j : Nat) : HeapV := (hDrop q.heap (swIds q j)).1
theorem swIds_ok {q : PoolV} (o : POk q) (j : Nat) : (swIds q j).Nodup /\ ∀ i ∈ swIds q j,∃ s ∈ q.heap.l,s.1 = i := by
 have hsub : (swIds q j).Sublist (q.l.map (·.1.1)) := (List.filter_sublist.trans (List.take_sublist _ _)).map _
 refine ⟨hsub.nodup o.ids,fun i hi => ?_⟩
 obtain ⟨c,hc,rfl⟩ := List.mem_map.1 (hsub.subset hi)
 exact ⟨c.1,o.mem c hc,rfl⟩
theorem xju {q : PoolV} (o : POk q) (j : Nat) : dropAll q.heap (swIds q j) = some (swHeap q j) /\ HOk (swHeap q j) := by
 obtain ⟨g,e,h1⟩ := xzl o.hok (swIds_ok o j)
 have e2 : swHeap q j = ⟨q.heap.pages,g,hLeft q.heap.l (swIds q j),q.heap.last⟩ := by unfold swHeap;rw [e]
 rw [xv0] at e
 rw [e2]
 cases hd : dropAll q.heap (swIds q j) with
 | none => rw [hd] at e;injection e with _ e;cases e
 | some x =>
  rw [hd] at e
  simp only at e
  injection e with e _
  exact ⟨by rw [e],h1⟩
theorem xjh {q : PoolV} (o : POk q) (j : Nat) : (swHeap q j).pages = q.heap.pages /\ (swHeap q j).last = q.heap.last /\ (swHeap q j).l.length <= q.heap.l.length := by
 have := yq3 o.hok (swIds q j)
 exact ⟨this.2.1,this.2.2.2,this.2.2.1⟩
theorem yv8 {q : PoolV} {j : Nat} {c : (Int × Int × Int × Int) × List Int} (hj : q.l[j]? = some c) (hw : pWhole c = true) : swIds q (j + 1) = swIds q j ++ [c.1.1] := by
 unfold swIds
 rw [List.take_add_one,hj,List.filter_append,List.map_append]
 simp [hw]
theorem sw_yes {q : PoolV} (o : POk q) {j : Nat} {c : (Int × Int × Int × Int) × List Int} (hj : q.l[j]? = some c) (hw : pWhole c = true) : hDrop (swHeap q j) [c.1.1] = (swHeap q (j + 1),0) := by
 have h1 := (xju o j).1
 have h2 := (xju o (j + 1)).1
 rw [yv8 hj hw,xjg,h1] at h2
 rw [xv0]
 have h3 : dropAll (swHeap q j) [c.1.1] = hDrop1 (swHeap q j) c.1.1 := rfl
 have h4 : hDrop1 (swHeap q j) c.1.1 = some (swHeap q (j + 1)) := h2
 rw [h3,h4]
theorem sw_no {q : PoolV} {j : Nat} {c : (Int × Int × Int × Int) × List Int} (hj : q.l[j]? = some c) (hw : pWhole c = false) : swHeap q (j + 1) = swHeap q j := by
 unfold swHeap swIds
 rw [List.take_add_one,hj,List.filter_append]
 simp [hw]
theorem sw_end {q : PoolV} (h : q.held = false) : pSweep q = ⟨swHeap q q.l.length,q.l.filter (fun c => !pWhole c),q.held⟩ := by
 unfold pSweep swHeap swIds
 rw [if_neg (by rw [h];decide),List.take_length]
theorem sw_zero (q : PoolV) : swHeap q 0 = q.heap := rfl
def PoIs (w : World) (P : Nat -> Prop) (q : PoolV) (v : Value) : Prop := ∃ A n c A2 n2 c2 A3 n3 c3 ys,v = pval q.heap.pages A n c A2 n2 c2 q.heap.last A3 n3 c3 q.held /\ HIs w P q.heap (hval q.heap.pages A n c A2 n2 c2 q.heap.last) /\
 Cn w P A3 n3 ys /\ ys.map CV.plain = q.l /\ (n3 <= c3 /\ c3 <= 9223372036854775807 /\ (A3 = none -> c3 = 0)) /\ InP (· < w.heap.size) A3 /\ ∀ y ∈ ys,InP (· < w.heap.size) y.A
theorem PoIs.below {w w' : World} {P : Nat -> Prop} {q : PoolV} {v : Value} (h : PoIs w P q v) (hb : Below w.heap.size w w') : PoIs w' P q v := by
 obtain ⟨A,n,c,A2,n2,c2,A3,n3,c3,ys,e,h1,h2,h3,h4,h5,h6⟩ := h
 exact ⟨A,n,c,A2,n2,c2,A3,n3,c3,ys,e,h1.below hb,h2.below hb,h3,h4,fun a ha => Nat.lt_of_lt_of_le (h5 a ha) hb.size,fun y hy a ha => Nat.lt_of_lt_of_le (h6 y hy a ha) hb.size⟩
def PoolRet (w : World) (P : Nat -> Prop) (q : PoolV) (e : Ending) (w' : World) : Prop := ∃ v,e = .returned v /\ PoIs w' P q v /\ Below w.heap.size w w'
theorem xqu {B : Nat} {w W : World} (h : Below B w W) {b : Nat} (hb : B <= b) (u0 u1 u2 u3 u4 u5 : Value) : Below B w ((((((W.setCell ⟨b,0,none⟩ u0).setCell ⟨b,1,none⟩ u1).setCell ⟨b,2,none⟩ u2).setCell ⟨b,3,none⟩ u3).setCell ⟨b,4,none⟩ u4).setCell ⟨b,5,none⟩ u5) :=
 (((((h.setCell (p := ⟨b,0,none⟩) hb _).setCell (p := ⟨b,1,none⟩) hb _).setCell (p := ⟨b,2,none⟩) hb _).setCell (p := ⟨b,3,none⟩) hb _).setCell (p := ⟨b,4,none⟩) hb _).setCell (p := ⟨b,5,none⟩) hb _
set_option maxRecDepth 100000 in
set_option maxHeartbeats 2000000 in
theorem xQf (P : Nat -> Prop) (q : PoolV) (v : Value) (w : World) (hv : PoIs w P q v) (hh : q.held = true) :
  Calls Tryz.prog 140 #[v] w (PoolRet w P q) := by
 have HV := hidb hv
 obtain ⟨A,n,c,A2,n2,c2,A3,n3,c3,ys,rfl,h1,h2,h3,h4⟩ := hv
 have HFIN : Hid (∀ W,Below w.heap.size w W -> PoolRet w P q (.returned (pval q.heap.pages A n c A2 n2 c2 q.heap.last A3 n3 c3 q.held)) W) := hidb (fun W hb => ⟨_,rfl,HV.out.below hb,hb⟩)
 clear HV h1 h2 h3 h4
 obtain ⟨pg,hpg⟩ : ∃ x,q.heap.pages = x := ⟨_,rfl⟩
 obtain ⟨la,hla⟩ : ∃ x,q.heap.last = x := ⟨_,rfl⟩
 rw [hpg,hla,hh] at HFIN ⊢
 clear hpg hla hh
 obtain ⟨W1,hW1⟩ : ∃ W1,W1 = (w.alloc (.cells #[.int .i64 pg,.slice A n c,.slice A2 n2 c2,.int .i64 la,.slice A3 n3 c3,.bool true] 35)).alloc (.cells #[.int .i64 pg,.slice A n c,.slice A2 n2 c2,.int .i64 la,.slice A3 n3 c3,.bool true] 35) := ⟨_,rfl⟩
 have HB : Hid (Below w.heap.size w W1) := hidb (by rw [hW1];exact ((Below.refl _ _).alloc (Nat.le_refl _) _).alloc (by simp) _)
 have HR := hidb (show W1.cell? ⟨w.heap.size + 1,0,none⟩ = some (.int .i64 pg) /\ W1.cell? ⟨w.heap.size + 1,1,none⟩ = some (.slice A n c) /\ W1.cell? ⟨w.heap.size + 1,2,none⟩ = some (.slice A2 n2 c2) /\ W1.cell? ⟨w.heap.size + 1,3,none⟩ = some (.int .i64 la) /\ W1.cell? ⟨w.heap.size + 1,4,none⟩ = some (.slice A3 n3 c3) /\ W1.cell? ⟨w.heap.size + 1,5,none⟩ = some (.bool true) by rw [hW1];simp [go_sem])
 have HW1 := hidb hW1
 clear hW1
 unfold pval at HFIN ⊢
 have HP := hidb (HFIN.out W1 HB.out)
 clear HFIN
 go_enter Tryz.func140,Tryz.ntmps140
 go_wp2
 rw [<- HW1.out]
 obtain ⟨r0,r1,r2,r3,r4,r5⟩ := HR.out
 refine bodyPost_ret (v := .agg #[.int .i64 pg,.slice A n c,.slice A2 n2 c2,.int .i64 la,.slice A3 n3 c3,.bool true]) (by simp [results,Tryz.results140,go_sem,r0,r1,r2,r3,r4,r5]) rfl ?_
 exact HP.out
theorem HIs.weaken {w : World} {P P' : Nat -> Prop} {h : HeapV} {v : Value} (hv : HIs w P h v) (hp : ∀ b,P b -> P' b) : HIs w P' h v := by
 obtain ⟨A,c,A2,c2,e,h1,h2,h3,h4,h5,h6,h7,h8,h9,h10,h11⟩ := hv
 exact ⟨A,c,A2,c2,e,h1,h2,h3,h4,h5,h6,h7,h8,fun a ha => hp _ (h9 a ha),fun a ha => hp _ (h10 a ha),h11⟩
def SwP (w : World) (P : Nat -> Prop) (o : Option Nat) : Nat -> Prop := fun x => P x /\ x ≠ w.heap.size /\ x ≠ w.heap.size + 1 /\ some x ≠ o
theorem HIs.apart {w : World} {P : Nat -> Prop} {h : HeapV} {v : Value} (hv : HIs w P h v) (h0 : 0 < h.free.length) : HIs w (fun x => P x /\ x < w.heap.size) h v := by
 obtain ⟨A,c,A2,c2,e,h1,h2,h3,h4,h5,h6,h7,h8,h9,h10,h11⟩ := hv
 refine ⟨A,c,A2,c2,e,h1,h2,h3,h4,h5,h6,h7,h8,fun a ha => ⟨h9 a ha,?_⟩,fun a ha => ⟨h10 a ha,?_⟩,h11⟩
 ·obtain ⟨b,off,e2,hb,_⟩ := h4.2 h0
  rw [ha] at e2
  injection e2 with e2
  rw [e2]
  exact hb
 ·exact h11 a ha
theorem HIs.grown {w w' : World} {P : Nat -> Prop} {h : HeapV} {v : Value} {row : Option Nat} (hv : HIs w P h v) (hg : w.grownBy w' row) (hn : ∀ x,P x -> some x ≠ row) : HIs w' P h v := by
 obtain ⟨A,c,A2,c2,e,h1,h2,h3,h4,h5,h6,h7,h8,h9,h10,h11⟩ := hv
 have hz := hg.size
 have hc : ∀ b,P b -> b < w.heap.size -> ∀ i,w'.cell? ⟨b,i,none⟩ = w.cell? ⟨b,i,none⟩ := fun b hb hl i => World.cell?_of_block (hg.block b hl (hn b hb))
 refine ⟨A,c,A2,c2,e,h1,h2,h3,⟨h4.1,fun h0 => ?_⟩,h5,h6,h7,⟨h8.1,fun h0 => ?_⟩,h9,h10,fun a ha => Nat.lt_of_lt_of_le (h11 a ha) hz⟩
 ·obtain ⟨b,off,e2,hb,hcc⟩ := h4.2 h0
  exact ⟨b,off,e2,by omega,fun j hj => (hc b (h9 _ e2) hb _).trans (hcc j hj)⟩
 ·obtain ⟨b,off,e2,hb,hcc⟩ := h8.2 h0
  refine ⟨b,off,e2,by omega,fun j y hj => ?_⟩
  obtain ⟨cs,h1,h2,h3⟩ := hcc j y hj
  exact ⟨cs,h1,fun k hk => (hc b (h10 _ e2) hb _).trans (h2 k hk),h3⟩
theorem HIs.aside {w : World} {P : Nat -> Prop} {h : HeapV} {v : Value} (hv : HIs w P h v) {b : Nat} (hb : ¬ P b) (j : Nat) (u : Value) : HIs (w.setCell ⟨b,j,none⟩ u) P h v := by
 obtain ⟨A,c,A2,c2,e,h1,h2,h3,h4,h5,h6,h7,h8,h9,h10,h11⟩ := hv
 have q1 : ∀ a,A = some a -> a.block ≠ (⟨b,j,none⟩ : Addr).block := fun a ha e => hb (by have := h9 a ha;rwa [show a.block = b from e] at this)
 have q2 : ∀ a,A2 = some a -> a.block ≠ (⟨b,j,none⟩ : Addr).block := fun a ha e => hb (by have := h10 a ha;rwa [show a.block = b from e] at this)
 exact ⟨A,c,A2,c2,e,h1,h2,h3,(h4.aside q1 u).more (by simp),h5,h6,h7,(RowOf.aside h8 q2 u).more (by simp),h9,h10,fun a ha => by have := h11 a ha;simp;exact this⟩
theorem PoIs.apart {w : World} {P : Nat -> Prop} {q : PoolV} {v : Value} (h : PoIs w P q v) (h0 : 0 < q.heap.free.length) : PoIs w (fun x => P x /\ x < w.heap.size) q v := by
 obtain ⟨A,n,c,A2,n2,c2,A3,n3,c3,ys,e,h1,h2,h3,h4,h5,h6⟩ := h
 exact ⟨A,n,c,A2,n2,c2,A3,n3,c3,ys,e,h1.apart h0,⟨h2.row,fun y hy => by
  obtain ⟨g1,g2,g3,g4,g5,g6⟩ := h2.lists y hy
  exact ⟨g1,g2,g3,g4,fun a ha => ⟨g5 a ha,h6 y hy a ha⟩,g6⟩,fun a ha => ⟨h2.inp a ha,h5 a ha⟩,h2.ok⟩,h3,h4,h5,h6⟩
theorem PoIs.weaken {w : World} {P P' : Nat -> Prop} {q : PoolV} {v : Value} (h : PoIs w P q v) (hp : ∀ b,P b -> P' b) : PoIs w P' q v := by
 obtain ⟨A,n,c,A2,n2,c2,A3,n3,c3,ys,e,h1,h2,h3,h4,h5,h6⟩ := h
 exact ⟨A,n,c,A2,n2,c2,A3,n3,c3,ys,e,h1.weaken hp,⟨h2.row,fun y hy => by
  obtain ⟨g1,g2,g3,g4,g5,g6⟩ := h2.lists y hy
  exact ⟨g1,g2,g3,g4,fun a ha => hp _ (g5 a ha),g6⟩,fun a ha => hp _ (h2.inp a ha),h2.ok⟩,h3,h4,h5,h6⟩
theorem PoIs.aside {w : World} {P : Nat -> Prop} {q : PoolV} {v : Value} (h : PoIs w P q v) {b : Nat} (hb : ¬ P b) (j : Nat) (u : Value) : PoIs (w.setCell ⟨b,j,none⟩ u) P q v := by
 obtain ⟨A,n,c,A2,n2,c2,A3,n3,c3,ys,e,h1,h2,h3,h4,h5,h6⟩ := h
 have nb : ∀ {B : Option Addr},InP P B -> ∀ a,B = some a -> a.block ≠ (⟨b,j,none⟩ : Addr).block := fun hB a ha e => hb (by have := hB a ha;rwa [show a.block = b from e] at this)
 exact ⟨A,n,c,A2,n2,c2,A3,n3,c3,ys,e,h1.aside hb j u,⟨(RowOf.aside h2.row (nb h2.inp) u).more (by simp),fun y hy => by
  obtain ⟨g1,g2,g3,g4,g5,g6⟩ := h2.lists y hy
  exact ⟨(g1.aside (nb g5) u).more (by simp),g2,g3,g4,g5,g6⟩,h2.inp,h2.ok⟩,h3,h4,fun a ha => by have := h5 a ha;simp;exact this,fun y hy a ha => by have := h6 y hy a ha;simp;exact this⟩
structure SwSt (w wr : World) (P : Nat -> Prop) (q : PoolV) (j : Nat) (A : Option Addr) (n c : Nat) (A2 : Option Addr) (n2 c2 : Nat) (A3 : Option Addr) (n3 c3 : Nat) (ys : List CV) (AL : Option Addr) (nL cL : Nat) : Prop where
 c0 : wr.cell? ⟨w.heap.size,0,none⟩ = some (.int .i64 q.heap.pages)
 c1 : wr.cell? ⟨w.heap.size,1,none⟩ = some (.slice A n c)
 c2' : wr.cell? ⟨w.heap.size,2,none⟩ = some (.slice A2 n2 c2)
 c3' : wr.cell? ⟨w.heap.size,3,none⟩ = some (.int .i64 q.heap.last)
 c4 : wr.cell? ⟨w.heap.size,4,none⟩ = some (.slice A3 n3 c3)
 c5 : wr.cell? ⟨w.heap.size,5,none⟩ = some (.bool false)
 bf : ∀ i,wr.frozen? ⟨w.heap.size,i,none⟩ = false
 r0 : wr.cell? ⟨w.heap.size + 1,0,none⟩ = some (.int .i64 0)
 r1 : wr.cell? ⟨w.heap.size + 1,1,none⟩ = some (.slice none 0 0)
 r2 : wr.cell? ⟨w.heap.size + 1,2,none⟩ = some (.slice none 0 0)
 r3 : wr.cell? ⟨w.heap.size + 1,3,none⟩ = some (.int .i64 0)
 r4 : wr.cell? ⟨w.heap.size + 1,4,none⟩ = some (.slice none 0 0)
 r5 : wr.cell? ⟨w.heap.size + 1,5,none⟩ = some (.bool false)
 rf : ∀ i,wr.frozen? ⟨w.heap.size + 1,i,none⟩ = false
 his : HIs wr (SwP w P (Value.slice AL nL cL).ownBlock) (swHeap q j) (hval q.heap.pages A n c A2 n2 c2 q.heap.last)
 left : wr.ownsRow (w.heap.size + 2) 51 5 (.slice AL nL cL) nL (cellsAll ccells ((ys.take j).filter fun y => !pWhole y.plain))
 ll : ((ys.take j).filter fun y => !pWhole y.plain).length = nL
 bel : Below w.heap.size w wr
 lt : w.heap.size + 2 <= wr.heap.size
section
variable {w wr : World} {P : Nat -> Prop} {q : PoolV} {j : Nat} {A A2 A3 AL : Option Addr} {n c n2 c2 n3 c3 nL cL : Nat} {ys : List CV}
theorem SwSt.below {w2 : World} (h : SwSt w wr P q j A n c A2 n2 c2 A3 n3 c3 ys AL nL cL) (hb : Below wr.heap.size wr w2) : SwSt w w2 P q j A n c A2 n2 c2 A3 n3 c3 ys AL nL cL := by
 have hl := h.lt
 have q1 : ∀ i,w2.cell? ⟨w.heap.size,i,none⟩ = wr.cell? ⟨w.heap.size,i,none⟩ := fun i => hb.cell (p := ⟨w.heap.size,i,none⟩) (by show w.heap.size < _;omega)
 have q2 : ∀ i,w2.cell? ⟨w.heap.size + 1,i,none⟩ = wr.cell? ⟨w.heap.size + 1,i,none⟩ := fun i => hb.cell (p := ⟨w.heap.size + 1,i,none⟩) (by show w.heap.size + 1 < _;omega)
 have f1 : ∀ i,w2.frozen? ⟨w.heap.size,i,none⟩ = wr.frozen? ⟨w.heap.size,i,none⟩ := fun i => hb.frozen (p := ⟨w.heap.size,i,none⟩) (by show w.heap.size < _;omega)
 have f2 : ∀ i,w2.frozen? ⟨w.heap.size + 1,i,none⟩ = wr.frozen? ⟨w.heap.size + 1,i,none⟩ := fun i => hb.frozen (p := ⟨w.heap.size + 1,i,none⟩) (by show w.heap.size + 1 < _;omega)
 exact ⟨(q1 0).trans h.c0,(q1 1).trans h.c1,(q1 2).trans h.c2',(q1 3).trans h.c3',(q1 4).trans h.c4,(q1 5).trans h.c5,fun i => (f1 i).trans (h.bf i),(q2 0).trans h.r0,(q2 1).trans h.r1,(q2 2).trans h.r2,(q2 3).trans h.r3,(q2 4).trans h.r4,(q2 5).trans h.r5,fun i => (f2 i).trans (h.rf i),
  h.his.below hb,xxm h.left hb,h.ll,h.bel.trans (hb.mono h.bel.size),Nat.le_trans hl hb.size⟩
theorem xjz {j : Nat} {y : CV} (hy : ys[j]? = some y) (hw : pWhole y.plain = true) : (ys.take (j + 1)).filter (fun y => !pWhole y.plain) = (ys.take j).filter fun y => !pWhole y.plain := by
 rw [List.take_add_one,hy,List.filter_append];simp [hw]
theorem xji {j : Nat} {y : CV} (hy : ys[j]? = some y) (hw : pWhole y.plain = false) : (ys.take (j + 1)).filter (fun y => !pWhole y.plain) = ((ys.take j).filter fun y => !pWhole y.plain) ++ [y] := by
 rw [List.take_add_one,hy,List.filter_append];simp [hw]
theorem SwSt.drop {w5 : World} {y : CV} {A' A2' : Option Addr} {n' c' n2' c2' : Nat} (h : SwSt w w5 P q j A n c A2 n2 c2 A3 n3 c3 ys AL nL cL) (hy : ys[j]? = some y) (hw : pWhole y.plain = true)
  (hh : HIs w5 (SwP w P (Value.slice AL nL cL).ownBlock) (swHeap q (j + 1)) (hval q.heap.pages A' n' c' A2' n2' c2' q.heap.last)) :
  SwSt w ((((w5.setCell ⟨w.heap.size,0,none⟩ (.int .i64 q.heap.pages)).setCell ⟨w.heap.size,1,none⟩ (.slice A' n' c')).setCell ⟨w.heap.size,2,none⟩ (.slice A2' n2' c2')).setCell ⟨w.heap.size,3,none⟩ (.int .i64 q.heap.last)) P q (j + 1) A' n' c' A2' n2' c2' A3 n3 c3 ys AL nL cL := by
 obtain ⟨W,hW⟩ : ∃ W,W = (((w5.setCell ⟨w.heap.size,0,none⟩ (.int .i64 q.heap.pages)).setCell ⟨w.heap.size,1,none⟩ (.slice A' n' c')).setCell ⟨w.heap.size,2,none⟩ (.slice A2' n2' c2')).setCell ⟨w.heap.size,3,none⟩ (.int .i64 q.heap.last) := ⟨_,rfl⟩
 obtain ⟨d0,d1,d2,d3⟩ := xqy w5 w.heap.size (.int .i64 q.heap.pages) (.slice A' n' c') (.slice A2' n2' c2') (.int .i64 q.heap.last) _ _ _ _ h.c0 h.c1 h.c2' h.c3'
 have o : ∀ b i,(b ≠ w.heap.size \/ 4 <= i) -> W.cell? ⟨b,i,none⟩ = w5.cell? ⟨b,i,none⟩ := fun b i hbi => by
  have z : ∀ (X : World) (k : Nat) (v : Value),k < 4 -> (X.setCell ⟨w.heap.size,k,none⟩ v).cell? ⟨b,i,none⟩ = X.cell? ⟨b,i,none⟩ := fun X k v hk => World.cell?_setCell_other X _ _ _ (fun e => by
   injection e with e1 e2
   rcases hbi with h | h
   ·exact h e1.symm
   ·omega)
  rw [hW,z _ _ _ (by omega),z _ _ _ (by omega),z _ _ _ (by omega),z _ _ _ (by omega)]
 have of' : ∀ a,W.frozen? a = w5.frozen? a := fun a => by rw [hW,World.frozen?_setCell,World.frozen?_setCell,World.frozen?_setCell,World.frozen?_setCell]
 rw [<- hW] at d0 d1 d2 d3 ⊢
 have hsz : W.heap.size = w5.heap.size := by rw [hW];simp
 refine ⟨d0,d1,d2,d3,(o _ _ (Or.inr (by omega))).trans h.c4,(o _ _ (Or.inr (by omega))).trans h.c5,fun i => (of' _).trans (h.bf i),(o _ _ (Or.inl (by omega))).trans h.r0,(o _ _ (Or.inl (by omega))).trans h.r1,(o _ _ (Or.inl (by omega))).trans h.r2,(o _ _ (Or.inl (by omega))).trans h.r3,(o _ _ (Or.inl (by omega))).trans h.r4,(o _ _ (Or.inl (by omega))).trans h.r5,fun i => (of' _).trans (h.rf i),?_,?_,by rw [xjz hy hw];exact h.ll,?_,by rw [hsz];exact h.lt⟩
 ·rw [hW]
  have nb : ¬ SwP w P (Value.slice AL nL cL).ownBlock w.heap.size := fun h => h.2.1 rfl
  exact (((hh.aside nb _ _).aside nb _ _).aside nb _ _).aside nb _ _
 ·rw [xjz hy hw,hW]
  exact xvm h.left (by omega) _ _ _ _
 ·rw [hW]
  exact xx9 h.bel (Nat.le_refl _) _ _ _ _
theorem SwSt.push {w5 w6 : World} {y : CV} {A' : Option Addr} {c' : Nat} (h : SwSt w w5 P q j A n c A2 n2 c2 A3 n3 c3 ys AL nL cL) (hf : 0 < (swHeap q j).free.length) (hy : ys[j]? = some y) (hyq : q.l[j]? = some y.plain) (hw : pWhole y.plain = false) (hg : w5.grownBy w6 (Value.slice AL nL cL).ownBlock)
  (hr : w6.ownsRow (w.heap.size + 2) 51 5 (.slice A' (nL + 1) c') (nL + 1) (cellsAll ccells ((ys.take j).filter fun y => !pWhole y.plain) ++ ccells y))
  (hat : (Value.slice A' (nL + 1) c').ownBlock = (Value.slice AL nL cL).ownBlock \/ (Value.slice A' (nL + 1) c').ownBlock = some w5.heap.size) : SwSt w w6 P q (j + 1) A n c A2 n2 c2 A3 n3 c3 ys A' (nL + 1) c' := by
 have hl := h.lt
 have hz := hg.size
 have nob : ∀ b,b < w.heap.size + 2 -> some b ≠ (Value.slice AL nL cL).ownBlock := fun b hb e => by
  have := (h.left.lt b e.symm).1
  omega
 have q1 : ∀ b i,b < w.heap.size + 2 -> w6.cell? ⟨b,i,none⟩ = w5.cell? ⟨b,i,none⟩ := fun b i hb => World.cell?_of_block (hg.block b (by omega) (nob b hb))
 have f1 : ∀ b i,b < w.heap.size + 2 -> w6.frozen? ⟨b,i,none⟩ = w5.frozen? ⟨b,i,none⟩ := fun b i hb => World.frozen?_of_block (hg.block b (by omega) (nob b hb))
 have hb0 : w.heap.size < w.heap.size + 2 := by omega
 have hb1 : w.heap.size + 1 < w.heap.size + 2 := by omega
 refine ⟨(q1 _ 0 hb0).trans h.c0,(q1 _ 1 hb0).trans h.c1,(q1 _ 2 hb0).trans h.c2',(q1 _ 3 hb0).trans h.c3',(q1 _ 4 hb0).trans h.c4,(q1 _ 5 hb0).trans h.c5,fun i => (f1 _ i hb0).trans (h.bf i),(q1 _ 0 hb1).trans h.r0,(q1 _ 1 hb1).trans h.r1,(q1 _ 2 hb1).trans h.r2,(q1 _ 3 hb1).trans h.r3,(q1 _ 4 hb1).trans h.r4,(q1 _ 5 hb1).trans h.r5,fun i => (f1 _ i hb1).trans (h.rf i),?_,?_,?_,?_,by omega⟩
 ·rw [sw_no hyq hw]
  refine ((h.his.apart hf).grown hg (fun x hx => hx.1.2.2.2)).weaken fun x hx => ?_
  refine ⟨hx.1.1,hx.1.2.1,hx.1.2.2.1,?_⟩
  rcases hat with e | e
  ·rw [e];exact hx.1.2.2.2
  ·rw [e]
   intro e2
   injection e2 with e2
   have := hx.2
   omega
 ·rw [xji hy hw,xq7]
  have e1 : cellsAll ccells [y] = ccells y := by show ccells y ++ [] = _;rw [List.append_nil]
  rw [e1]
  exact hr
 ·rw [xji hy hw,List.length_append,h.ll];rfl
 ·exact h.bel.grown hg (by omega) (fun k hk => by have := (h.left.lt k hk).1;omega)
end
theorem yv9 {w : World} {base : Nat} {e : TypeId} {A : Option Addr} {n c : Nat} {xs : List Value} (h : w.ownsRow base e 5 (.slice A n c) n xs) : n <= c /\ c <= 9223372036854775807 /\ (A = none -> c = 0) := by
 rcases h.2 with ⟨h1,h0⟩ | ⟨g,cap,cur,h1,_,_,hnc,hcm,_⟩
 ·injection h1 with h2 h3 h4
  exact ⟨by omega,by omega,fun _ => h4⟩
 ·injection h1 with h2 h3 h4
  subst h4
  exact ⟨hnc,by unfold maxLen at hcm;omega,fun h => by rw [h] at h2;cases h2⟩
theorem xWr {x : Int} (h0 : 0 <= x) (h1 : x <= 100000000000) : in64 x := ⟨by omega,by omega⟩
set_option maxRecDepth 100000 in
set_option maxHeartbeats 4000000 in
theorem xQg (P : Nat -> Prop) (q : PoolV) (v : Value) (w : World) (hP : ∀ b,w.heap.size <= b -> P b) (o : POk q) (hv : PoIs w P q v) (hh : q.held = false) (hn : q.l.length <= 65536) (hl : q.heap.l.length <= 65536) (hla : q.heap.last <= 1000000000) :
  Calls Tryz.prog 140 #[v] w (PoolRet w P (pSweep q)) := by
 obtain ⟨i0,hi,hz0,hz1,hz2⟩ := info_parts yv7
 obtain ⟨A,n,c,A2,n2,c2,A3,n3,c3,ys,rfl,h1,h2,h3,⟨h4,h5,h6⟩,h7,h8⟩ := hv
 have l3 : ys.length = n3 := h2.row.1
 have lq : q.l.length = n3 := by rw [<- h3,List.length_map,l3]
 rw [lq] at hn
 obtain ⟨W0,hW0⟩ : ∃ W0,W0 = (w.alloc (.cells #[.int .i64 q.heap.pages,.slice A n c,.slice A2 n2 c2,.int .i64 q.heap.last,.slice A3 n3 c3,.bool false] 35)).alloc (.cells #[.int .i64 0,.slice none 0 0,.slice none 0 0,.int .i64 0,.slice none 0 0,.bool false] 35) := ⟨_,rfl⟩
 have hz : W0.heap.size = w.heap.size + 2 := by rw [hW0];simp
 have HB : Below w.heap.size w W0 := by rw [hW0];exact ((Below.refl _ _).alloc (Nat.le_refl _) _).alloc (by simp) _
 have HS0 : Hid (SwSt w (W0.alloc (.cells #[] 51)) P q 0 A n c A2 n2 c2 A3 n3 c3 ys (some ⟨w.heap.size + 1 + 1,0,none⟩) 0 0) := hidb (by
  have hb1 : Below w.heap.size w (W0.alloc (.cells #[] 51)) := HB.alloc HB.size _
  have qc : ∀ b i,b < w.heap.size + 2 -> (W0.alloc (.cells #[] 51)).cell? ⟨b,i,none⟩ = W0.cell? ⟨b,i,none⟩ := fun b i hb => World.cell?_alloc_lt W0 _ ⟨b,i,none⟩ (by show b < _;omega)
  have qf : ∀ b i,b < w.heap.size + 2 -> (W0.alloc (.cells #[] 51)).frozen? ⟨b,i,none⟩ = W0.frozen? ⟨b,i,none⟩ := fun b i hb => ((Below.refl _ W0).alloc (Nat.le_refl _) _).frozen (p := ⟨b,i,none⟩) (by show b < _;omega)
  have hb0 : w.heap.size < w.heap.size + 2 := by omega
  have hb2 : w.heap.size + 1 < w.heap.size + 2 := by omega
  have b0 : W0.cell? ⟨w.heap.size,0,none⟩ = some (.int .i64 q.heap.pages) /\ W0.cell? ⟨w.heap.size,1,none⟩ = some (.slice A n c) /\ W0.cell? ⟨w.heap.size,2,none⟩ = some (.slice A2 n2 c2) /\ W0.cell? ⟨w.heap.size,3,none⟩ = some (.int .i64 q.heap.last) /\ W0.cell? ⟨w.heap.size,4,none⟩ = some (.slice A3 n3 c3) /\ W0.cell? ⟨w.heap.size,5,none⟩ = some (.bool false) := by rw [hW0];simp [go_sem]
  have b1 : W0.cell? ⟨w.heap.size + 1,0,none⟩ = some (.int .i64 0) /\ W0.cell? ⟨w.heap.size + 1,1,none⟩ = some (.slice none 0 0) /\ W0.cell? ⟨w.heap.size + 1,2,none⟩ = some (.slice none 0 0) /\ W0.cell? ⟨w.heap.size + 1,3,none⟩ = some (.int .i64 0) /\ W0.cell? ⟨w.heap.size + 1,4,none⟩ = some (.slice none 0 0) /\ W0.cell? ⟨w.heap.size + 1,5,none⟩ = some (.bool false) := by rw [hW0];simp [go_sem]
  have b2 : ∀ i,W0.frozen? ⟨w.heap.size,i,none⟩ = false /\ W0.frozen? ⟨w.heap.size + 1,i,none⟩ = false := fun i => by rw [hW0];simp [go_sem]
  obtain ⟨p0,p1,p2,p3,p4,p5⟩ := b0
  obtain ⟨s0,s1,s2,s3,s4,s5⟩ := b1
  refine ⟨(qc _ 0 hb0).trans p0,(qc _ 1 hb0).trans p1,(qc _ 2 hb0).trans p2,(qc _ 3 hb0).trans p3,(qc _ 4 hb0).trans p4,(qc _ 5 hb0).trans p5,fun i => (qf _ i hb0).trans (b2 i).1,(qc _ 0 hb2).trans s0,(qc _ 1 hb2).trans s1,(qc _ 2 hb2).trans s2,(qc _ 3 hb2).trans s3,(qc _ 4 hb2).trans s4,(qc _ 5 hb2).trans s5,fun i => (qf _ i hb2).trans (b2 i).2,?_,?_,rfl,hb1,by simp;omega⟩
  ·rw [sw_zero]
   refine ((h1.apart (by rw [o.hok.fl];omega)).below hb1).weaken fun x hx => ⟨hx.1,by have := hx.2;omega,by have := hx.2;omega,fun e => ?_⟩
   have e : some x = some (w.heap.size + 1 + 1) := e
   injection e with e
   have := hx.2
   omega
  ·exact own_empty' W0 _ 51 5 _ (by omega) (by omega))
 have HQL : Hid (∀ j (y : CV),ys[j]? = some y -> q.l[j]? = some y.plain) := hidb (fun j y hj => by rw [<- h3,List.getElem?_map,hj];rfl)
 have HY : Hid (∀ j W,j < n3 -> Below w.heap.size w W -> ∃ b off,∃ y : CV,A3 = some ⟨b,off,none⟩ /\ ys[j]? = some y /\ SpanOk y.s /\ (y.n <= 65536 /\ y.l.length = y.n /\ in64 y.s.1) /\ W.cell? ⟨b,off + j * 5,none⟩ = some (.int .i64 y.s.1) /\ W.cell? ⟨b,off + j * 5 + 1,none⟩ = some (.int .i64 y.s.2.1) /\ W.cell? ⟨b,off + j * 5 + 2,none⟩ = some (.int .i64 y.s.2.2.1) /\ W.cell? ⟨b,off + j * 5 + 3,none⟩ = some (.int .i64 y.s.2.2.2) /\ W.cell? ⟨b,off + j * 5 + 4,none⟩ = some (.slice y.A y.n y.c)) := hidb (fun j W hj hb => by
  obtain ⟨b,off,y,e,hy,_,hc⟩ := (h2.below hb).at_ hj
  have hym := List.mem_of_getElem? hy
  obtain ⟨g1,_,_,_,_,g2⟩ := h2.lists y hym
  have hqm : y.plain ∈ q.l := by rw [<- h3];exact List.mem_map.2 ⟨y,hym,rfl⟩
  have hid := o.hok.idr _ (o.mem _ hqm)
  have hid2 : 1 <= y.s.1 /\ y.s.1 <= q.heap.last := hid
  exact ⟨b,off,y,e,hy,h2.ok y hym,⟨g2,by have := g1.1;rwa [List.length_map] at this,xWr (by omega) (by omega)⟩,hc⟩)
 have HDR : Hid (∀ j wr (y : CV) An Nn Cn' An2 Nn2 Cn2 AL nL cL W3,SwSt w wr P q j An Nn Cn' An2 Nn2 Cn2 A3 n3 c3 ys AL nL cL -> ys[j]? = some y -> pWhole y.plain = true -> in64 y.s.1 -> Below wr.heap.size wr W3 -> Sl W3 W3.heap.size (some ⟨wr.heap.size,0,none⟩) 1 ([y.s.1].map iv) ->
   Calls Tryz.prog 198 #[hval q.heap.pages An Nn Cn' An2 Nn2 Cn2 q.heap.last,.slice (some ⟨wr.heap.size,0,none⟩) 1 1] W3 fun e w5 => ∃ A' n' c' A2' n2' c2',e = .returned (.tuple #[.agg #[.int .i64 q.heap.pages,.slice A' n' c',.slice A2' n2' c2',.int .i64 q.heap.last],.int .i64 0]) /\
    SwSt w w5 P q j An Nn Cn' An2 Nn2 Cn2 A3 n3 c3 ys AL nL cL /\
    SwSt w ((((w5.setCell ⟨w.heap.size,0,none⟩ (.int .i64 q.heap.pages)).setCell ⟨w.heap.size,1,none⟩ (.slice A' n' c')).setCell ⟨w.heap.size,2,none⟩ (.slice A2' n2' c2')).setCell ⟨w.heap.size,3,none⟩ (.int .i64 q.heap.last)) P q (j + 1) A' n' c' A2' n2' c2' A3 n3 c3 ys AL nL cL) := hidb (fun j wr y An Nn Cn' An2 Nn2 Cn2 AL nL cL W3 hS hy hw h64 hb hsl => by
  have hok := (xju o j).2
  have hp := xjh o j
  have S3 := hS.below hb
  refine (yv1 (SwP w P (Value.slice AL nL cL).ownBlock) (swHeap q j) _ _ 1 1 [y.s.1] W3 (fun b hb3 => ?_) S3.his hsl (by omega) (fun x hx => by obtain rfl := List.mem_singleton.1 hx;exact h64) hok.fl (by omega) (fun s hs => by
   have e1 := hok.start hs
   have e2 := hok.p1
   exact ⟨xWr (by omega) (by omega),xWr (by omega) (by omega)⟩)).mono ?_
  ·have hlt := S3.lt
   refine ⟨hP _ (by omega),by omega,by omega,fun e => ?_⟩
   have := (S3.left.lt b e.symm).2
   omega
  ·rintro e w5 ⟨⟨v',rfl,hv'⟩,hb5⟩
   have ey : hDrop (swHeap q j) [y.s.1] = (swHeap q (j + 1),0) := sw_yes o (HQL.out j y hy) hw
   rw [ey] at hv' ⊢
   have S5 := S3.below hb5
   have hp2 := xjh o (j + 1)
   obtain ⟨A',c',A2',c2',e,hrest⟩ := hv'
   rw [hp2.1,hp2.2.1] at e
   exact ⟨A',_,c',A2',_,c2',by rw [e],S5,S5.drop hy hw ⟨A',c',A2',c2',by rw [hp2.1,hp2.2.1];rfl,hrest⟩⟩)
 have HFIN : Hid (∀ wr An Nn Cn' An2 Nn2 Cn2 AL nL cL,SwSt w wr P q n3 An Nn Cn' An2 Nn2 Cn2 A3 n3 c3 ys AL nL cL -> PoolRet w P (pSweep q) (.returned (.agg #[.int .i64 q.heap.pages,.slice An Nn Cn',.slice An2 Nn2 Cn2,.int .i64 q.heap.last,.slice AL nL cL,.bool false])) ((((((((wr.setCell ⟨w.heap.size,4,none⟩ (.slice AL nL cL)).setCell ⟨w.heap.size + 1,0,none⟩ (.int .i64 q.heap.pages)).setCell ⟨w.heap.size + 1,1,none⟩ (.slice An Nn Cn')).setCell ⟨w.heap.size + 1,2,none⟩ (.slice An2 Nn2 Cn2)).setCell ⟨w.heap.size + 1,3,none⟩ (.int .i64 q.heap.last)).setCell ⟨w.heap.size + 1,4,none⟩ (.slice AL nL cL)).setCell ⟨w.heap.size + 1,5,none⟩ (.bool false)))) := hidb (fun wr An Nn Cn' An2 Nn2 Cn2 AL nL cL hS => by
  have hlt := hS.lt
  have nb : ¬ SwP w P (Value.slice AL nL cL).ownBlock w.heap.size := fun h => h.2.1 rfl
  have nb2 : ¬ SwP w P (Value.slice AL nL cL).ownBlock (w.heap.size + 1) := fun h => h.2.2.1 rfl
  have b6 := xqu (hS.bel.setCell (p := ⟨w.heap.size,4,none⟩) (Nat.le_refl _) (.slice AL nL cL)) (b := w.heap.size + 1) (by omega) (.int .i64 q.heap.pages) (.slice An Nn Cn') (.slice An2 Nn2 Cn2) (.int .i64 q.heap.last) (.slice AL nL cL) (.bool false)
  have hi6 := ((((((hS.his.aside nb 4 (.slice AL nL cL)).aside nb2 0 (.int .i64 q.heap.pages)).aside nb2 1 (.slice An Nn Cn')).aside nb2 2 (.slice An2 Nn2 Cn2)).aside nb2 3 (.int .i64 q.heap.last)).aside nb2 4 (.slice AL nL cL)).aside nb2 5 (.bool false)
  have na : ∀ (b i : Nat),b < w.heap.size + 2 -> ∀ a,AL = some a -> a.block ≠ (⟨b,i,none⟩ : Addr).block := fun b i hb a e e2 => by
   have := (hS.left.lt a.block (by rw [e];rfl)).1
   have e2 : a.block = b := e2
   omega
  have hbz0 : w.heap.size < w.heap.size + 2 := by omega
  have hbz1 : w.heap.size + 1 < w.heap.size + 2 := by omega
  have row0 := RowOf.of_own xxn hS.left hS.ll
  have row6 := ((((((row0.aside (na _ _ hbz0) (p := ⟨w.heap.size,4,none⟩) (.slice AL nL cL)).aside (na _ _ hbz1) (p := ⟨w.heap.size + 1,0,none⟩) (.int .i64 q.heap.pages)).aside (na _ _ hbz1) (p := ⟨w.heap.size + 1,1,none⟩) (.slice An Nn Cn')).aside (na _ _ hbz1) (p := ⟨w.heap.size + 1,2,none⟩) (.slice An2 Nn2 Cn2)).aside (na _ _ hbz1) (p := ⟨w.heap.size + 1,3,none⟩) (.int .i64 q.heap.last)).aside (na _ _ hbz1) (p := ⟨w.heap.size + 1,4,none⟩) (.slice AL nL cL)).aside (na _ _ hbz1) (p := ⟨w.heap.size + 1,5,none⟩) (.bool false)
  have hp := xjh o n3
  have hcap := yv9 hS.left
  have etk : ys.take n3 = ys := List.take_of_length_le (by omega)
  rw [sw_end hh,lq]
  refine ⟨_,rfl,⟨An,Nn,Cn',An2,Nn2,Cn2,AL,nL,cL,(ys.take n3).filter (fun y => !pWhole y.plain),by rw [hp.1,hp.2.1];rw [hh];rfl,?_,⟨row6.more (by simp),fun y hy => ?_,fun a e => ?_,fun y hy => ?_⟩,?_,hcap,fun a e => ?_,fun y hy a e => ?_⟩,b6⟩
  ·simp only
   rw [hp.1,hp.2.1]
   exact hi6.weaken fun x hx => hx.1
  ·have hy2 : y ∈ ys := List.mem_of_mem_take (List.mem_filter.1 hy).1
   exact (h2.below b6).lists y hy2
  ·have := (hS.left.lt a.block (by rw [e];rfl)).1
   exact hP _ (by omega)
  ·exact h2.ok y (List.mem_of_mem_take (List.mem_filter.1 hy).1)
  ·rw [etk]
   show _ = q.l.filter _
   rw [<- h3,List.filter_map]
   rfl
  ·have := (hS.left.lt a.block (by rw [e];rfl)).2
   simp
   exact this
  ·have hy2 : y ∈ ys := List.mem_of_mem_take (List.mem_filter.1 hy).1
   have := h8 y hy2 a e
   have h9 := hS.bel.size
   have h9 : a.block < wr.heap.size := Nat.lt_of_lt_of_le this h9
   simp
   exact h9)
 have HBLK : Hid (∀ (W : World) (y : CV),SpanOk y.s -> Calls Tryz.prog 138 #[.agg #[.int .i64 y.s.1,.int .i64 y.s.2.1,.int .i64 y.s.2.2.1,.int .i64 y.s.2.2.2]] W (OwnInts W (pBlocks y.s))) := hidb (fun W y hy => by
  obtain ⟨o1,o2,o3,o4,o5⟩ := hy
  exact xkc y.s.1 y.s.2.1 y.s.2.2.1 y.s.2.2.2 W o1 o2 o3 o4 o5)
 have HFL : Hid (∀ j,0 < (swHeap q j).free.length) := hidb (fun j => by rw [(xju o j).2.fl];omega)
 have HW0 := hidb hW0
 rw [hh] at *
 obtain ⟨pg,hpg⟩ : ∃ x,q.heap.pages = x := ⟨_,rfl⟩
 obtain ⟨la,hla2⟩ : ∃ x,q.heap.last = x := ⟨_,rfl⟩
 rw [hpg,hla2] at HDR HFIN HW0 ⊢
 have HPG := hidb hpg
 have HLA := hidb hla2
 clear hW0 hz HB h1 h2 h3 hpg hla2 l3 lq
 unfold pval
 go_enter Tryz.func140,Tryz.ntmps140
 go_wp2
 rw [<- HW0.out]
 go_loopw [3,4,12] (fun v _ u wr => ∃ (j : Nat) (An : Option Addr) (Nn Cn' : Nat) (An2 : Option Addr) (Nn2 Cn2 : Nat) (AL : Option Addr) (nL cL : Nat),j <= n3 /\ u = .int .i64 j /\ v = .slice AL nL cL /\ nL <= j /\ Hid (SwSt w wr P q j An Nn Cn' An2 Nn2 Cn2 A3 n3 c3 ys AL nL cL)) (fun _ _ u _ => (n3 - intOf u).toNat)
 case atStart => exact ⟨0,A,n,c,A2,n2,c2,some ⟨w.heap.size + 1 + 1,0,none⟩,0,0,by omega,rfl,rfl,by omega,HS0⟩
 case round =>
  obtain ⟨j,An,Nn,Cn',An2,Nn2,Cn2,AL,nL,cL,hj,rfl,rfl,hnL,HST⟩ := hrel
  have c0 := HST.out.c0
  have c1 := HST.out.c1
  have c2' := HST.out.c2'
  have c3' := HST.out.c3'
  have c4 := HST.out.c4
  have c5 := HST.out.c5
  rw [HPG.out] at c0
  rw [HLA.out] at c3'
  by_cases hlt : j < n3
  ·obtain ⟨b,off,y,rfl,hy,hok,⟨hyn,hyl,hy64⟩,d0,d1,d2,d3,d4⟩ := HY.out j wr hlt HST.out.bel
   obtain ⟨⟨s1,s2,s3,s4⟩,yA,yn,yc,yl⟩ := y
   have hblk := HBLK.out wr.drew _ hok
   obtain ⟨L,hL⟩ : ∃ L,pBlocks (s1,s2,s3,s4) = L := ⟨_,rfl⟩
   simp only at hyn hyl hy64 d0 d1 d2 d3 d4 hblk
   rw [hL] at hblk
   unfold OwnInts at hblk
   have HST2 : Hid (∀ w2,Below wr.heap.size wr w2 -> SwSt w w2 P q j An Nn Cn' An2 Nn2 Cn2 (some ⟨b,off,none⟩) n3 c3 ys AL nL cL) := hidb (fun w2 hb => HST.out.below hb)
   have HDC : Hid (∀ w2,Below wr.heap.size wr w2 -> w2.cell? ⟨b,off + j * 5,none⟩ = some (.int .i64 s1) /\ w2.cell? ⟨b,off + j * 5 + 1,none⟩ = some (.int .i64 s2) /\ w2.cell? ⟨b,off + j * 5 + 2,none⟩ = some (.int .i64 s3) /\ w2.cell? ⟨b,off + j * 5 + 3,none⟩ = some (.int .i64 s4) /\ w2.cell? ⟨b,off + j * 5 + 4,none⟩ = some (.slice yA yn yc)) := hidb (fun w2 hb => by
    have hbl : b < wr.heap.size := xq0 d0
    have z : ∀ i,w2.cell? ⟨b,i,none⟩ = wr.cell? ⟨b,i,none⟩ := fun i => hb.cell (p := ⟨b,i,none⟩) hbl
    rw [z,z,z,z,z]
    exact ⟨d0,d1,d2,d3,d4⟩)
   have hj0 : (0 : Int) <= (j : Int) := by omega
   have hj1 : (j : Int) < (n3 : Int) := by omega
   have HYJ := hidb hy
   clear hy
   by_cases hw : yl.length = L.length
   ·have HPW : Hid (pWhole (CV.plain ⟨(s1,s2,s3,s4),yA,yn,yc,yl⟩) = true) := hidb (by unfold pWhole CV.plain;simp only;rw [hL,hw,beq_self_eq_true])
    have hq : (yn : Int) = (L.length : Int) := by omega
    obtain ⟨nB,hnB⟩ : ∃ nB,L.length = nB := ⟨_,rfl⟩
    rw [hnB] at hq hblk
    obtain rfl : yn = nB := by omega
    have HY6 := hidb hy64
    clear hok hyl hL hw hnB hq
    go_wp2
    go_region_held3 (fun W' => W'.cell? ⟨w.heap.size,4,none⟩ = some (.slice (some ⟨b,off,none⟩) n3 c3) /\ W'.cell? ⟨b,off + j * 5,none⟩ = some (.int .i64 s1) /\ W'.cell? ⟨b,off + j * 5 + 1,none⟩ = some (.int .i64 s2) /\ W'.cell? ⟨b,off + j * 5 + 2,none⟩ = some (.int .i64 s3) /\ W'.cell? ⟨b,off + j * 5 + 3,none⟩ = some (.int .i64 s4) /\ W'.cell? ⟨b,off + j * 5 + 4,none⟩ = some (.slice yA yn yc)) (go_keep)
     (first | (go_at_call 138;(with_reducible refine hblk.mono ?_);rintro e w2 ⟨Ab,cb,rfl,_,hb2'⟩;have hb2 : Below wr.heap.size wr w2 := (Below.refl wr.heap.size wr).drew.trans hb2';clear hb2';obtain ⟨e0,e1,e2,e3,e4⟩ := HDC.out w2 hb2;have g4 := (HST2.out w2 hb2).c4))
    have HS2 := hidb (HST2.out w2 hb2)
    have g0 := HS2.out.c0
    have g1 := HS2.out.c1
    have g2 := HS2.out.c2'
    have g3 := HS2.out.c3'
    have g5 := HS2.out.c5
    rw [HPG.out] at g0
    rw [HLA.out] at g3
    have cd := HDR.out j w2 _ _ _ _ _ _ _ _ _ _ ((w2.alloc (.cells #[.int .i64 s1] 3)).drew) HS2.out HYJ.out HPW.out HY6.out (((Below.refl _ _).alloc (Nat.le_refl _) _).drew) (Sl.oneI w2 s1 3)
    have z0 := xq1 (.cells #[.int .i64 s1] 3) g0
    have z1 := xq1 (.cells #[.int .i64 s1] 3) g1
    have z2 := xq1 (.cells #[.int .i64 s1] 3) g2
    have z3 := xq1 (.cells #[.int .i64 s1] 3) g3
    have z4 := xq1 (.cells #[.int .i64 s1] 3) g4
    have z5 := xq1 (.cells #[.int .i64 s1] 3) e0
    unfold hval at cd
    clear HBLK HDR HY HFIN HS0 HST HST2 HDC HPW HFL HQL HYJ hblk e1 e2 e3 e4 d0 d1 d2 d3 d4 c0 c1 c2' c3' c4 c5
    go_wp2
    go_region_law (first | (go_simp;go_at_call 198;(with_reducible refine cd.mono ?_);rintro e w5 ⟨A5,n5,c5,A6,n6,c6,rfl,K5,KN⟩;have HKN := hidb KN;have k0 := K5.c0;rw [HPG.out] at k0;have k1 := K5.c1;have k2 := K5.c2';have k3 := K5.c3';rw [HLA.out] at k3;have kf0 := K5.bf 0;have kf1 := K5.bf 1;have kf2 := K5.bf 2;have kf3 := K5.bf 3;clear K5 KN))
    all_goals go_wp2
    all_goals go_roundw
    all_goals first
     | exact ⟨j + 1,A5,n5,c5,A6,n6,c6,AL,nL,cL,by omega,by go_num,rfl,by omega,HKN⟩
     | (simp [intOf];omega)
   ·have HPW : Hid (pWhole (CV.plain ⟨(s1,s2,s3,s4),yA,yn,yc,yl⟩) = false) := hidb (by unfold pWhole CV.plain;simp only;rw [hL];exact beq_false_of_ne hw)
    have hq : ¬ (yn : Int) = (L.length : Int) := by omega
    obtain ⟨nB,hnB⟩ : ∃ nB,L.length = nB := ⟨_,rfl⟩
    rw [hnB] at hq hblk
    clear hok hyl hL hw hnB
    go_wp2
    go_region_held3 (fun W' => W'.cell? ⟨w.heap.size,4,none⟩ = some (.slice (some ⟨b,off,none⟩) n3 c3) /\ W'.cell? ⟨b,off + j * 5,none⟩ = some (.int .i64 s1) /\ W'.cell? ⟨b,off + j * 5 + 1,none⟩ = some (.int .i64 s2) /\ W'.cell? ⟨b,off + j * 5 + 2,none⟩ = some (.int .i64 s3) /\ W'.cell? ⟨b,off + j * 5 + 3,none⟩ = some (.int .i64 s4) /\ W'.cell? ⟨b,off + j * 5 + 4,none⟩ = some (.slice yA yn yc)) (go_keep)
     (first | (go_at_call 138;(with_reducible refine hblk.mono ?_);rintro e w2 ⟨Ab,cb,rfl,_,hb2'⟩;have hb2 : Below wr.heap.size wr w2 := (Below.refl wr.heap.size wr).drew.trans hb2';clear hb2';obtain ⟨e0,e1,e2,e3,e4⟩ := HDC.out w2 hb2;have g4 := (HST2.out w2 hb2).c4))
    have HS2 := hidb (HST2.out w2 hb2)
    have HLF : Hid ((w2.alloc (.cells #[.int .i64 s1,.int .i64 s2,.int .i64 s3,.int .i64 s4,.slice yA yn yc] 51)).ownsRow (w.heap.size + 2) 51 5 (.slice AL nL cL) nL (cellsAll ccells ((ys.take j).filter fun y => !pWhole y.plain))) := hidb (HS2.out.left.alloc _)
    have HCN : Hid (∀ i u,[Value.int .i64 s1,.int .i64 s2,.int .i64 s3,.int .i64 s4,.slice yA yn yc][i]? = some u -> (w2.alloc (.cells #[.int .i64 s1,.int .i64 s2,.int .i64 s3,.int .i64 s4,.slice yA yn yc] 51)).cell? ((⟨w2.heap.size,0,none⟩ : Addr).add i) = some u) := hidb (xxz w2 [.int .i64 s1,.int .i64 s2,.int .i64 s3,.int .i64 s4,.slice yA yn yc] _ _ rfl)
    have HON : Hid (∀ u ∈ [Value.int .i64 s1,.int .i64 s2,.int .i64 s3,.int .i64 s4,.slice yA yn yc],u.oneCell' = true) := hidb (fun u hu => by
     simp only [List.mem_cons,List.not_mem_nil,or_false] at hu
     rcases hu with rfl | rfl | rfl | rfl | rfl <;> rfl)
    have HBS : Hid (w.heap.size + 2 <= (w2.alloc (.cells #[.int .i64 s1,.int .i64 s2,.int .i64 s3,.int .i64 s4,.slice yA yn yc] 51)).heap.size) := hidb (by have := HS2.out.lt;simp;omega)
    have HPU : Hid (∀ A' c' w6,w6.ownsRow (w.heap.size + 2) 51 5 (.slice A' (nL + 1) c') (nL + 1) (cellsAll ccells ((ys.take j).filter fun y => !pWhole y.plain) ++ [Value.int .i64 s1,.int .i64 s2,.int .i64 s3,.int .i64 s4,.slice yA yn yc]) -> (w2.alloc (.cells #[.int .i64 s1,.int .i64 s2,.int .i64 s3,.int .i64 s4,.slice yA yn yc] 51)).grownBy w6 (Value.slice AL nL cL).ownBlock ->
      ((Value.slice A' (nL + 1) c').ownBlock = (Value.slice AL nL cL).ownBlock \/ (Value.slice A' (nL + 1) c').ownBlock = some (w2.alloc (.cells #[.int .i64 s1,.int .i64 s2,.int .i64 s3,.int .i64 s4,.slice yA yn yc] 51)).heap.size) -> SwSt w w6 P q (j + 1) An Nn Cn' An2 Nn2 Cn2 (some ⟨b,off,none⟩) n3 c3 ys A' (nL + 1) c') := hidb (fun A' c' w6 ho6 hg6 hat6 =>
     (HS2.out.below ((Below.refl _ _).alloc (Nat.le_refl _) _)).push (HFL.out j) HYJ.out (HQL.out j _ HYJ.out) HPW.out hg6 ho6 hat6)
    clear HBLK HDR HY HFIN HS0 HST HST2 HDC HPW HFL HQL HYJ
    go_wp2_with (first
     | (at_builtin;refine wpList_append_own_at _ rfl _ _ 33 rfl (w.heap.size + 2) 51 i0 (.agg #[.int .i64 0,.int .i64 0,.int .i64 0,.int .i64 0,.slice none 0 0]) 5 56 Tryz.underlying33 hi hz0 hz1 hz2 rfl (by decide) _ _ _ rfl HLF.out ⟨w2.heap.size,0,none⟩ 1 1 [Value.int .i64 s1,.int .i64 s2,.int .i64 s3,.int .i64 s4,.slice yA yn yc] rfl rfl HCN.out HON.out (by unfold maxLen;omega) (by omega) HBS.out ?_;intro v' w6 hown6 hg6 _ hat6;obtain ⟨A6,c6,rfl⟩ := xj5 hown6;have HN := hidb (HPU.out A6 c6 w6 hown6 hg6 hat6);clear hown6 hg6 hat6))
    go_roundw
    case rel => exact ⟨j + 1,An,Nn,Cn',An2,Nn2,Cn2,A6,nL + 1,c6,by omega,by go_num,rfl,by omega,HN⟩
    case measure => simp [intOf];omega
  ·obtain rfl : j = n3 := by omega
   have HP := hidb (HFIN.out _ _ _ _ _ _ _ _ _ _ HST.out)
   have f4 := HST.out.bf 4
   have r0 := HST.out.r0
   have r1 := HST.out.r1
   have r2 := HST.out.r2
   have r3 := HST.out.r3
   have r4 := HST.out.r4
   have r5 := HST.out.r5
   have rf0 := HST.out.rf 0
   have rf1 := HST.out.rf 1
   have rf2 := HST.out.rf 2
   have rf3 := HST.out.rf 3
   have rf4 := HST.out.rf 4
   have rf5 := HST.out.rf 5
   clear HY HDR HFIN HBLK HS0
   go_wp2
   refine bodyPost_ret (v := .agg #[.int .i64 pg,.slice An Nn Cn',.slice An2 Nn2 Cn2,.int .i64 la,.slice AL nL cL,.bool false]) (by simp [results,Tryz.results140,go_sem,r0,r1,r2,r3,r4,r5]) rfl ?_
   exact HP.out
end Go.Proofs.YtlcdgmjinhbncaaGreat
