import Derived.Test.YtlcdgmjinhbncaaGreatRPoolSweep
import Derived.Test.YtlcdgmjinhbncaaGreatRPoolAdd
import Derived.Test.YtlcdgmjinhbncaaGreatRAppendAt
namespace Go.Proofs.YtlcdgmjinhbncaaGreat
open Go.RowKit
set_option linter.unusedVariables false
theorem xXy (P : Nat -> Prop) (q : PoolV) (v : Value) (w : World) (hP : ∀ b,w.heap.size <= b -> P b) (o : POk q) (hv : PoIs w P q v) (hn : q.l.length <= 65536) (hl : q.heap.l.length <= 65536) (hla : q.heap.last <= 1000000000) :
  Calls Tryz.prog 140 #[v] w (PoolRet w P (pSweep q)) := by
 cases hh : q.held with
 | true =>
  have e : pSweep q = q := by unfold pSweep;rw [if_pos hh]
  rw [e]
  exact xQf P q v w hv hh
 | false => exact xQg P q v w hP o hv hh hn hl hla
def PoolRet2 (w : World) (P : Nat -> Prop) (q : PoolV) (u : Value) (e : Ending) (w' : World) : Prop := ∃ v,e = .returned (.tuple #[v,u]) /\ PoIs w' P q v /\ Below w.heap.size w w'
set_option maxRecDepth 100000 in
set_option maxHeartbeats 2000000 in
theorem yva (P : Nat -> Prop) (q : PoolV) (v : Value) (on : Bool) (w : World) (hP : ∀ b,w.heap.size <= b -> P b) (o : POk q) (hv : PoIs w P q v) (hn : q.l.length <= 65536) (hl : q.heap.l.length <= 65536) (hla : q.heap.last <= 1000000000) :
  Calls Tryz.prog 69 #[v,.bool on] w (PoolRet2 w P (pSweep { q with held := on }) (.bool q.held)) := by
 obtain ⟨A,n,c,A2,n2,c2,A3,n3,c3,ys,rfl,hr⟩ := hv
 have hv2 : PoIs w P { q with held := on } (pval q.heap.pages A n c A2 n2 c2 q.heap.last A3 n3 c3 on) := ⟨A,n,c,A2,n2,c2,A3,n3,c3,ys,rfl,hr⟩
 have o2 : POk { q with held := on } := ⟨o.hok,o.mem,o.four,o.sub,o.nod,o.ids⟩
 obtain ⟨P',hP'⟩ : ∃ P' : Nat -> Prop,P' = fun x => P x /\ x ≠ w.heap.size /\ x ≠ w.heap.size + 1 := ⟨_,rfl⟩
 have hv3 : PoIs w P' { q with held := on } (pval q.heap.pages A n c A2 n2 c2 q.heap.last A3 n3 c3 on) := by
  rw [hP']
  exact (hv2.apart (by show 0 < q.heap.free.length;rw [o.hok.fl];omega)).weaken fun b h => ⟨h.1,by have := h.2;omega,by have := h.2;omega⟩
 have CS : Hid (∀ W,Below w.heap.size w W -> w.heap.size + 2 <= W.heap.size -> Calls Tryz.prog 140 #[pval q.heap.pages A n c A2 n2 c2 q.heap.last A3 n3 c3 on] W (PoolRet W P' (pSweep { q with held := on }))) := hidb (fun W hb hW => xXy P' _ _ W (fun b h => by rw [hP'];exact ⟨hP b (by omega),by omega,by omega⟩) o2 (hv3.below hb) hn hl hla)
 obtain ⟨R,hR⟩ : ∃ R,pSweep { q with held := on } = R := ⟨_,rfl⟩
 rw [hR] at CS ⊢
 obtain ⟨W1,hW1⟩ : ∃ W1,W1 = ((w.alloc (.cells #[.int .i64 q.heap.pages,.slice A n c,.slice A2 n2 c2,.int .i64 q.heap.last,.slice A3 n3 c3,.bool on] 35)).alloc (.cells #[.int .i64 0,.slice none 0 0,.slice none 0 0,.int .i64 0,.slice none 0 0,.bool false] 35)) := ⟨_,rfl⟩
 have HB : Hid (Below w.heap.size w W1) := hidb (by rw [hW1];exact ((Below.refl _ _).alloc (Nat.le_refl _) _).alloc (by simp) _)
 have HR : Hid (∀ W,Below W1.heap.size W1 W -> (W.cell? ⟨w.heap.size + 1,0,none⟩ = some (.int .i64 0) /\ W.cell? ⟨w.heap.size + 1,1,none⟩ = some (.slice none 0 0) /\ W.cell? ⟨w.heap.size + 1,2,none⟩ = some (.slice none 0 0) /\ W.cell? ⟨w.heap.size + 1,3,none⟩ = some (.int .i64 0) /\ W.cell? ⟨w.heap.size + 1,4,none⟩ = some (.slice none 0 0) /\ W.cell? ⟨w.heap.size + 1,5,none⟩ = some (.bool false)) /\ ∀ j,W.frozen? ⟨w.heap.size + 1,j,none⟩ = false) := hidb (fun W hb => by
  have hz : W1.heap.size = w.heap.size + 2 := by rw [hW1];simp
  have q1 : ∀ j,W.cell? ⟨w.heap.size + 1,j,none⟩ = W1.cell? ⟨w.heap.size + 1,j,none⟩ := fun j => hb.cell (p := ⟨w.heap.size + 1,j,none⟩) (by show w.heap.size + 1 < _;omega)
  have qf : ∀ j,W.frozen? ⟨w.heap.size + 1,j,none⟩ = W1.frozen? ⟨w.heap.size + 1,j,none⟩ := fun j => hb.frozen (p := ⟨w.heap.size + 1,j,none⟩) (by show w.heap.size + 1 < _;omega)
  refine ⟨?_,fun j => ?_⟩
  ·rw [q1,q1,q1,q1,q1,q1,hW1]
   simp [go_sem]
  ·rw [qf,hW1]
   simp [go_sem])
 have cs := CS.out W1 HB.out (by rw [hW1];simp)
 have HFIN : Hid (∀ w2 a0 a1 a2 a3 a4 a5,Below W1.heap.size W1 w2 -> PoIs w2 P' R (.agg #[a0,a1,a2,a3,a4,a5]) -> PoolRet2 w P R (.bool q.held) (.returned (.tuple #[.agg #[a0,a1,a2,a3,a4,a5],.bool q.held])) ((((((w2.setCell ⟨w.heap.size + 1,0,none⟩ a0).setCell ⟨w.heap.size + 1,1,none⟩ a1).setCell ⟨w.heap.size + 1,2,none⟩ a2).setCell ⟨w.heap.size + 1,3,none⟩ a3).setCell ⟨w.heap.size + 1,4,none⟩ a4).setCell ⟨w.heap.size + 1,5,none⟩ a5)) := hidb (fun w2 a0 a1 a2 a3 a4 a5 hb hp => by
  have nb : ¬ P' (w.heap.size + 1) := by rw [hP'];exact fun h => h.2.2 rfl
  have h6 := (((((hp.aside nb 0 a0).aside nb 1 a1).aside nb 2 a2).aside nb 3 a3).aside nb 4 a4).aside nb 5 a5
  exact ⟨_,rfl,h6.weaken fun b h => by rw [hP'] at h;exact h.1,xqu (HB.out.trans (hb.mono HB.out.size)) (by omega) _ _ _ _ _ _⟩)
 have HW1 := hidb hW1
 obtain ⟨pg,hpg⟩ : ∃ x,q.heap.pages = x := ⟨_,rfl⟩
 obtain ⟨la,hla2⟩ : ∃ x,q.heap.last = x := ⟨_,rfl⟩
 obtain ⟨hd,hhd⟩ : ∃ x,q.held = x := ⟨_,rfl⟩
 rw [hpg,hla2] at cs
 rw [hpg,hla2] at HW1 ⊢
 rw [hhd]
 rw [hhd] at HFIN
 clear hW1 hv2 hv3 o2 CS hR hP' hpg hla2 hhd hr
 unfold pval at cs ⊢
 go_enter Tryz.func69,Tryz.ntmps69
 go_wp2_with (first
  | (go_at_call 140;go_loud (rw [<- HW1.out]);(with_reducible refine cs.mono ?_);rintro e w2 ⟨v',rfl,hp,hb2⟩;have hform := hp;obtain ⟨B,m,d,B2,m2,d2,B3,m3,d3,zs,hv',_⟩ := hform;unfold pval at hv';subst hv';have HPO := hidb hp;have HB2 := hidb hb2;clear hp hb2;obtain ⟨⟨r0,r1,r2,r3,r4,r5⟩,rf⟩ := HR.out w2 HB2.out;have rf0 := rf 0;have rf1 := rf 1;have rf2 := rf 2;have rf3 := rf 3;have rf4 := rf 4;have rf5 := rf 5;clear rf))
 have P := hidb (HFIN.out w2 _ _ _ _ _ _ HB2.out HPO.out)
 clear HFIN HPO HB2 HR HB
 refine bodyPost_ret (v := .tuple #[.agg #[.int .i64 R.heap.pages,.slice B m d,.slice B2 m2 d2,.int .i64 R.heap.last,.slice B3 m3 d3,.bool R.held],.bool hd]) (by simp [results,Tryz.results69,go_sem,r0,r1,r2,r3,r4,r5]) rfl ?_
 exact P.out
def PoolRet3 (w : World) (P : Nat -> Prop) (r : PoolV × Int × Int) (e : Ending) (w' : World) : Prop := ∃ v,e = .returned (.tuple #[v,.int .i64 r.2.1,.int .i64 r.2.2]) /\ PoIs w' P r.1 v /\ Below w.heap.size w w'
set_option maxRecDepth 100000 in
set_option maxHeartbeats 2000000 in
theorem xJa (P : Nat -> Prop) (q : PoolV) (v : Value) (order : Int) (w : World) (hv : PoIs w P q v) (h0 : in64 order) (hbad : order < 0 \/ 3 < order) :
  Calls Tryz.prog 66 #[v,.int .i64 order] w (PoolRet3 w P (q,0,1)) := by
 have HV := hidb hv
 obtain ⟨A,n,c,A2,n2,c2,A3,n3,c3,ys,hv',hr⟩ := hv
 have HFIN : Hid (∀ W,Below w.heap.size w W -> PoolRet3 w P (q,0,1) (.returned (.tuple #[v,.int .i64 0,.int .i64 1])) W) := hidb (fun W hb => ⟨_,rfl,HV.out.below hb,hb⟩)
 unfold pval at hv'
 subst hv'
 clear HV hr
 obtain ⟨pg,hpg⟩ : ∃ x,q.heap.pages = x := ⟨_,rfl⟩
 obtain ⟨la,hla⟩ : ∃ x,q.heap.last = x := ⟨_,rfl⟩
 obtain ⟨hd,hhd⟩ : ∃ x,q.held = x := ⟨_,rfl⟩
 rw [hpg,hla,hhd] at HFIN ⊢
 clear hpg hla hhd
 obtain ⟨W1,hW1⟩ : ∃ W1,W1 = (w.alloc (.cells #[.int .i64 pg,.slice A n c,.slice A2 n2 c2,.int .i64 la,.slice A3 n3 c3,.bool hd] 35)).alloc (.cells #[.int .i64 pg,.slice A n c,.slice A2 n2 c2,.int .i64 la,.slice A3 n3 c3,.bool hd] 35) := ⟨_,rfl⟩
 have HB : Hid (Below w.heap.size w W1) := hidb (by rw [hW1];exact ((Below.refl _ _).alloc (Nat.le_refl _) _).alloc (by simp) _)
 have HR := hidb (show W1.cell? ⟨w.heap.size + 1,0,none⟩ = some (.int .i64 pg) /\ W1.cell? ⟨w.heap.size + 1,1,none⟩ = some (.slice A n c) /\ W1.cell? ⟨w.heap.size + 1,2,none⟩ = some (.slice A2 n2 c2) /\ W1.cell? ⟨w.heap.size + 1,3,none⟩ = some (.int .i64 la) /\ W1.cell? ⟨w.heap.size + 1,4,none⟩ = some (.slice A3 n3 c3) /\ W1.cell? ⟨w.heap.size + 1,5,none⟩ = some (.bool hd) by rw [hW1];simp [go_sem])
 have HW1 := hidb hW1
 clear hW1
 have HP := hidb (HFIN.out W1 HB.out)
 clear HFIN
 by_cases q1 : order < 0
 ·go_enter Tryz.func66,Tryz.ntmps66
  go_wp2
  rw [<- HW1.out]
  obtain ⟨r0,r1,r2,r3,r4,r5⟩ := HR.out
  refine bodyPost_ret (v := .tuple #[.agg #[.int .i64 pg,.slice A n c,.slice A2 n2 c2,.int .i64 la,.slice A3 n3 c3,.bool hd],.int .i64 0,.int .i64 1]) (by simp [results,Tryz.results66,go_sem,r0,r1,r2,r3,r4,r5]) rfl ?_
  exact HP.out
 ·have q2 : 3 < order := by omega
  go_enter Tryz.func66,Tryz.ntmps66
  go_wp2
  rw [<- HW1.out]
  obtain ⟨r0,r1,r2,r3,r4,r5⟩ := HR.out
  refine bodyPost_ret (v := .tuple #[.agg #[.int .i64 pg,.slice A n c,.slice A2 n2 c2,.int .i64 la,.slice A3 n3 c3,.bool hd],.int .i64 0,.int .i64 1]) (by simp [results,Tryz.results66,go_sem,r0,r1,r2,r3,r4,r5]) rfl ?_
  exact HP.out
def tailA (lb lo yc : Nat) : Option Addr := if 1 < yc then some ⟨lb,lo + 1,none⟩ else some ⟨lb,lo,none⟩
theorem xQh {lb lo yc : Nat} : ∀ x,tailA lb lo yc = some x -> x.block = lb := fun x hx => by
 unfold tailA at hx
 split at hx <;> (injection hx with hx;rw [<- hx])
theorem yvb {w W5 : World} {P P' : Nat -> Prop} {g : HeapV} {l : List ((Int × Int × Int × Int) × List Int)} {pg la : Int} {A A2 A3 : Option Addr} {n c n2 c2 n3 c3 : Nat} {hd : Bool} {ys : List CV} {i yn yc lb lo : Nat} {s1 s2 s3 s4 a : Int} {r : List Int}
  (hP' : P' = fun x => P x /\ x ≠ w.heap.size /\ x ≠ w.heap.size + 1) (hP : ∀ b,w.heap.size <= b -> P b) (hB : Below w.heap.size w W5) (hz : w.heap.size + 2 <= W5.heap.size) (h1 : HIs W5 P' g (hval pg A n c A2 n2 c2 la)) (h2 : Cn W5 P' A3 n3 ys) (h3 : ys.map CV.plain = l) (h5 : InP (· < W5.heap.size) A3) (h6 : ∀ y ∈ ys,InP (· < W5.heap.size) y.A) (hn : n3 <= 65536)
  (hy : ys[i]? = some ⟨(s1,s2,s3,s4),some ⟨lb,lo,none⟩,yn,yc,a :: r⟩) (e1 : g.pages = pg) (e2 : g.last = la) :
  ∀ W,Below W5.heap.size W5 W -> Calls Tryz.prog 139 #[.agg #[.int .i64 pg,.slice A n c,.slice A2 n2 c2,.int .i64 la,.slice A3 n3 c3,.bool hd],.int .i64 (i : Int),.agg #[.int .i64 s1,.int .i64 s2,.int .i64 s3,.int .i64 s4,.slice (tailA lb lo yc) (yn - 1) (yc - 1)]] W fun e w6 => ∃ A5 c5,e = .returned (.agg #[.int .i64 pg,.slice A n c,.slice A2 n2 c2,.int .i64 la,.slice A5 n3 c5,.bool hd]) /\ Below W.heap.size W w6 /\
   (PoIs ((((((w6.setCell ⟨w.heap.size + 1,0,none⟩ (.int .i64 pg)).setCell ⟨w.heap.size + 1,1,none⟩ (.slice A n c)).setCell ⟨w.heap.size + 1,2,none⟩ (.slice A2 n2 c2)).setCell ⟨w.heap.size + 1,3,none⟩ (.int .i64 la)).setCell ⟨w.heap.size + 1,4,none⟩ (.slice A5 n3 c5)).setCell ⟨w.heap.size + 1,5,none⟩ (.bool hd)) P ⟨g,l.set i ((s1,s2,s3,s4),r),hd⟩ (.agg #[.int .i64 pg,.slice A n c,.slice A2 n2 c2,.int .i64 la,.slice A5 n3 c5,.bool hd]) /\
    Below w.heap.size w ((((((w6.setCell ⟨w.heap.size + 1,0,none⟩ (.int .i64 pg)).setCell ⟨w.heap.size + 1,1,none⟩ (.slice A n c)).setCell ⟨w.heap.size + 1,2,none⟩ (.slice A2 n2 c2)).setCell ⟨w.heap.size + 1,3,none⟩ (.int .i64 la)).setCell ⟨w.heap.size + 1,4,none⟩ (.slice A5 n3 c5)).setCell ⟨w.heap.size + 1,5,none⟩ (.bool hd))) := fun W hb => by
 have l3 : ys.length = n3 := h2.row.1
 have hi : i < n3 := by rw [<- l3];exact (List.getElem?_eq_some_iff.1 hy).1
 have hym := List.mem_of_getElem? hy
 obtain ⟨g1,g2,g3,g4,g5,g6⟩ := h2.lists _ hym
 have hok := h2.ok _ hym
 simp only at g1 g2 g3 g4 g5 g6
 have hyl : r.length + 1 = yn := by have := g1.1;simpa using this
 obtain ⟨lb',lo',e0,hlb,hlc⟩ := g1.2 (by omega)
 injection e0 with e0
 injection e0 with e0 e0' _
 subst e0 e0'
 have hsl : Sl W5 W5.heap.size (tailA lb lo yc) (yn - 1) (r.map iv) := by
  refine ⟨by rw [List.length_map];omega,fun hp => ?_⟩
  refine ⟨lb,lo + 1,by unfold tailA;rw [if_pos (by omega)],hlb,fun j hj => ?_⟩
  have := hlc (j + 1) (by omega)
  rw [show lo + 1 + j = lo + (j + 1) by omega,this]
  rfl
 have hlbP : P' lb := g5 _ rfl
 have hne : tailA lb lo yc = none -> yc - 1 = 0 := fun e => by
  unfold tailA at e
  split at e <;> cases e
 have hip : InP P' (tailA lb lo yc) := fun x hx => by rw [xQh x hx];exact hlbP
 have hlo : ListOk W P' ⟨(s1,s2,s3,s4),tailA lb lo yc,yn - 1,yc - 1,r⟩ := ⟨(hsl.below hb).more hb.size,by show yn - 1 <= yc - 1;omega,by show yc - 1 <= _;omega,hne,hip,by show yn - 1 <= _;omega⟩
 have hbz := hb.size
 refine (xQe P' pg la A A2 A3 n c n2 c2 n3 c3 hd ys i ⟨(s1,s2,s3,s4),tailA lb lo yc,yn - 1,yc - 1,r⟩ W (fun b h => by rw [hP'];exact ⟨hP b (by omega),by omega,by omega⟩) (h2.below hb) hn hi hlo hok).mono ?_
 rintro e w6 ⟨A5,c5,rfl,k1,k2,k3,k4,k5⟩
 have hz6 := k2.size
 have hp : PoIs w6 P' ⟨g,l.set i ((s1,s2,s3,s4),r),hd⟩ (.agg #[.int .i64 pg,.slice A n c,.slice A2 n2 c2,.int .i64 la,.slice A5 n3 c5,.bool hd]) := by
  refine ⟨A,n,c,A2,n2,c2,A5,n3,c5,_,?_,?_,k1,?_,⟨k4,k5,fun e => ?_⟩,fun x hx => ?_,fun z hz x hx => ?_⟩
  ·unfold pval;rw [e1,e2]
  ·show HIs w6 P' g (hval g.pages A n c A2 n2 c2 g.last)
   rw [e1,e2];exact (h1.below hb).below k2
  ·show (ys.set i _).map CV.plain = l.set i _
   rw [List.map_set,h3];rfl
  ·obtain ⟨b5,off5,_,_,e5,_⟩ := RowOf.at_ k1.row hi
   rw [e] at e5;cases e5
  ·obtain ⟨b5,off5,e5,hb5,_⟩ := k1.row.2 (by omega)
   rw [hx] at e5
   injection e5 with e5
   rw [e5];exact hb5
  ·rcases List.mem_or_eq_of_mem_set hz with hz | rfl
   ·exact Nat.lt_of_lt_of_le (h6 z hz x hx) (by omega)
   ·show x.block < _
    rw [xQh x hx]
    omega
 have nb : ¬ P' (w.heap.size + 1) := by rw [hP'];exact fun h => h.2.2 rfl
 have hs6 := (((((hp.aside nb 0 (.int .i64 pg)).aside nb 1 (.slice A n c)).aside nb 2 (.slice A2 n2 c2)).aside nb 3 (.int .i64 la)).aside nb 4 (.slice A5 n3 c5)).aside nb 5 (.bool hd)
 exact ⟨A5,c5,rfl,k2,hs6.weaken fun b h => by rw [hP'] at h;exact h.1,xqu ((hB.trans (hb.mono (by omega))).trans (k2.mono (by omega))) (by omega) _ _ _ _ _ _⟩
theorem yvc {p : PoolV} {xs : List Int} {j : Nat} {x : Int} (hx : xs[j]? = some x) (h : pOf p.l x = none) : pGive p xs = (p,2) := by
 unfold pGive
 rw [if_pos (List.any_eq_true.2 ⟨x,List.mem_of_getElem? hx,by rw [h];rfl⟩)]
theorem xV6 {p : PoolV} {xs : List Int} (h : ∀ x ∈ xs,(pOf p.l x).isNone = false) : pGive p xs = match pPuts p.l xs with
 | none => (p,9)
 | some l => if xs = [] then (p,0) else (pSweep { p with l := l },0) := by
 unfold pGive
 rw [if_neg (fun c => by
  obtain ⟨x,hx,e⟩ := List.any_eq_true.1 c
  rw [h x hx] at e
  cases e)]
 rfl
theorem yzl {p : PoolV} {xs : List Int} (h : ∀ x ∈ xs,(pOf p.l x).isNone = false) (hp : pPuts p.l xs = none) : pGive p xs = (p,9) := by rw [xV6 h,hp]
theorem yvd {p : PoolV} {xs : List Int} (h : ∀ x ∈ xs,(pOf p.l x).isNone = false) {l : PL} (hp : pPuts p.l xs = some l) (hx : xs ≠ []) : pGive p xs = (pSweep { p with l := l },0) := by rw [xV6 h,hp];simp [hx]
theorem yve {l l' : PL} {xs : List Int} {j : Nat} {x : Int} {i : Nat} {c : (Int × Int × Int × Int) × List Int} (h : pPuts l (xs.take j) = some l') (hx : xs[j]? = some x) (hi : pOf l x = some i) (hc : l'[i]? = some c) (hn : x ∉ c.2) : pPuts l (xs.take (j + 1)) = some (l'.set i (c.1,x :: c.2)) := by
 have e : xs.take (j + 1) = xs.take j ++ [x] := by rw [List.take_add_one,hx];rfl
 rw [e,xXo,h]
 show pPut l' x = _
 unfold pPut
 rw [xj3 (xx8 _ h).1,hi]
 simp only
 rw [hc]
 simp only
 rw [if_neg hn]
theorem yvf {l l' : PL} {xs : List Int} {j : Nat} {x : Int} {i : Nat} {c : (Int × Int × Int × Int) × List Int} (h : pPuts l (xs.take j) = some l') (hx : xs[j]? = some x) (hi : pOf l x = some i) (hc : l'[i]? = some c) (hn : x ∈ c.2) : pPuts l xs = none := by
 have e : xs = xs.take j ++ (x :: xs.drop (j + 1)) := by
  have hlt := (List.getElem?_eq_some_iff.1 hx).1
  have h1 : xs[j] = x := (List.getElem?_eq_some_iff.1 hx).2
  rw [<- h1,List.getElem_cons_drop,List.take_append_drop]
 rw [e,xx7,h]
 show (pPuts l' (x :: xs.drop (j + 1))) = none
 unfold pPuts
 rw [List.foldl_cons]
 have hp : (some l' : Option PL).bind (pPut · x) = none := by
  show pPut l' x = none
  unfold pPut
  rw [xj3 (xx8 _ h).1,hi]
  simp only
  rw [hc]
  simp only
  rw [if_pos hn]
 rw [hp]
 exact xvj _
theorem POk.put {p : PoolV} (o : POk p) {x : Int} {i : Nat} {c : (Int × Int × Int × Int) × List Int} (hi : pOf p.l x = some i) (hc : p.l[i]? = some c) (hx : x ∉ c.2) : POk { p with l := p.l.set i (c.1,x :: c.2) } := by
 have hcm := List.mem_of_getElem? hc
 obtain ⟨c',hc',hb⟩ := xwc hi
 rw [hc] at hc'
 obtain rfl := Option.some.inj hc'
 refine ⟨o.hok,fun d hd => ?_,fun d hd => ?_,fun d hd y hy => ?_,fun d hd => ?_,?_⟩
 ·rcases List.mem_or_eq_of_mem_set hd with h | rfl
  ·exact o.mem d h
  ·exact o.mem c hcm
 ·rcases List.mem_or_eq_of_mem_set hd with h | rfl
  ·exact o.four d h
  ·exact o.four c hcm
 ·rcases List.mem_or_eq_of_mem_set hd with h | rfl
  ·exact o.sub d h y hy
  ·rcases List.mem_cons.1 hy with rfl | hy
   ·exact hb
   ·exact o.sub c hcm y hy
 ·rcases List.mem_or_eq_of_mem_set hd with h | rfl
  ·exact o.nod d h
  ·exact List.nodup_cons.2 ⟨hx,o.nod c hcm⟩
 ·have e := yko hc (x :: c.2)
  have e2 : (p.l.set i (c.1,x :: c.2)).map (·.1.1) = p.l.map (·.1.1) := by
   have := congrArg (List.map (·.1)) e
   rw [List.map_map,List.map_map] at this
   exact this
  show ((p.l.set i (c.1,x :: c.2)).map (·.1.1)).Nodup
  rw [e2]
  exact o.ids
theorem POk.put1 {p : PoolV} (o : POk p) {x : Int} {m : PL} (h : pPut p.l x = some m) : POk { p with l := m } := by
 unfold pPut at h
 cases hi : pOf p.l x with
 | none => rw [hi] at h;cases h
 | some i =>
  rw [hi] at h
  simp only at h
  cases hc : p.l[i]? with
  | none => rw [hc] at h;cases h
  | some c =>
   rw [hc] at h
   simp only at h
   by_cases hx : x ∈ c.2
   ·rw [if_pos hx] at h;cases h
   ·rw [if_neg hx] at h
    obtain rfl := Option.some.inj h
    exact o.put hi hc hx
theorem POk.puts : ∀ (xs : List Int) {p : PoolV} {l : PL},POk p -> pPuts p.l xs = some l -> POk { p with l := l }
 | [],p,l,o,h => by obtain rfl : p.l = l := Option.some.inj h;exact o
 | x :: xs,p,l,o,h => by
  have h2 := xx7 p.l [x] xs
  have h3 : pPuts p.l [x] = pPut p.l x := rfl
  rw [h3] at h2
  have h4 : pPuts p.l (x :: xs) = _ := h2
  rw [h] at h4
  cases hm : pPut p.l x with
  | none => rw [hm] at h4;cases h4
  | some m =>
   rw [hm] at h4
   exact POk.puts xs (p := { p with l := m }) (o.put1 hm) h4.symm
structure GvSt (wr : World) (P : Nat -> Prop) (t : Nat) (g : HeapV) (l : PL) (pg la : Int) (A : Option Addr) (n c : Nat) (A2 : Option Addr) (n2 c2 : Nat) (A3 : Option Addr) (n3 c3 : Nat) (hd : Bool) (ys : List CV) : Prop where
 hi : HIs wr P g (hval pg A n c A2 n2 c2 la)
 cn : Cn wr P A3 n3 ys
 pl : ys.map CV.plain = l
 cap : n3 <= c3 /\ c3 <= 9223372036854775807 /\ (A3 = none -> c3 = 0)
 a3 : InP (· < wr.heap.size) A3
 ya : ∀ y ∈ ys,InP (· < wr.heap.size) y.A
 t0 : wr.cell? ⟨t,0,none⟩ = some (.int .i64 pg)
 t1 : wr.cell? ⟨t,1,none⟩ = some (.slice A n c)
 t2 : wr.cell? ⟨t,2,none⟩ = some (.slice A2 n2 c2)
 t3 : wr.cell? ⟨t,3,none⟩ = some (.int .i64 la)
 t4 : wr.cell? ⟨t,4,none⟩ = some (.slice A3 n3 c3)
 t5 : wr.cell? ⟨t,5,none⟩ = some (.bool hd)
 tf : ∀ j,wr.frozen? ⟨t,j,none⟩ = false
theorem GvSt.below {wr w2 : World} {P : Nat -> Prop} {t : Nat} {g : HeapV} {l : PL} {pg la : Int} {A A2 A3 : Option Addr} {n c n2 c2 n3 c3 : Nat} {hd : Bool} {ys : List CV} (k : GvSt wr P t g l pg la A n c A2 n2 c2 A3 n3 c3 hd ys) (hb : Below wr.heap.size wr w2) : GvSt w2 P t g l pg la A n c A2 n2 c2 A3 n3 c3 hd ys := by
 have hlt : t < wr.heap.size := xq0 k.t0
 have q : ∀ j,w2.cell? ⟨t,j,none⟩ = wr.cell? ⟨t,j,none⟩ := fun j => hb.cell (p := ⟨t,j,none⟩) hlt
 exact ⟨k.hi.below hb,k.cn.below hb,k.pl,k.cap,fun a ha => Nat.lt_of_lt_of_le (k.a3 a ha) hb.size,fun y hy a ha => Nat.lt_of_lt_of_le (k.ya y hy a ha) hb.size,(q 0).trans k.t0,(q 1).trans k.t1,(q 2).trans k.t2,(q 3).trans k.t3,(q 4).trans k.t4,(q 5).trans k.t5,fun j => (hb.frozen (p := ⟨t,j,none⟩) hlt).trans (k.tf j)⟩
theorem GvSt.isv {wr : World} {P : Nat -> Prop} {t : Nat} {g : HeapV} {l : PL} {pg la : Int} {A A2 A3 : Option Addr} {n c n2 c2 n3 c3 : Nat} {hd : Bool} {ys : List CV} (k : GvSt wr P t g l pg la A n c A2 n2 c2 A3 n3 c3 hd ys) (e1 : g.pages = pg) (e2 : g.last = la) : PoIs wr P ⟨g,l,hd⟩ (.agg #[.int .i64 pg,.slice A n c,.slice A2 n2 c2,.int .i64 la,.slice A3 n3 c3,.bool hd]) := by
 subst e1 e2
 exact ⟨A,n,c,A2,n2,c2,A3,n3,c3,ys,rfl,k.hi,k.cn,k.pl,k.cap,k.a3,k.ya⟩
end Go.Proofs.YtlcdgmjinhbncaaGreat
