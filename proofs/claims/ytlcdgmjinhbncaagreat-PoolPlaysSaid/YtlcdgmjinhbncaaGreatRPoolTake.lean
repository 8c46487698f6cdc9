import Derived.Test.YtlcdgmjinhbncaaGreatRPoolAdd
namespace Go.Proofs.YtlcdgmjinhbncaaGreat
open Go.RowKit Go.Maps
set_option linter.unusedVariables false
theorem cells2P {w : World} {b : Nat} {t : TypeId} {v0 v1 : Value} (h : w.heap[b]? = some (.cells #[v0,v1] t (0,0))) :
  w.cell? ⟨b,0,none⟩ = some v0 /\ w.cell? ⟨b,1,none⟩ = some v1 /\ w.frozen? ⟨b,0,none⟩ = false /\ w.frozen? ⟨b,1,none⟩ = false := by
 refine ⟨?_,?_,?_,?_⟩ <;> simp [World.cell?,World.frozen?,h]
theorem xXp {w : World} {q b o : Nat} {u0 u1 x : Value} (hne : b ≠ q) (h : w.cell? ⟨b,o,none⟩ = some x) : ((w.setCell ⟨q,0,none⟩ u0).setCell ⟨q,1,none⟩ u1).cell? ⟨b,o,none⟩ = some x := by
 rw [World.cell?_setCell_other _ _ _ _ (fun e => hne (by injection e with e1;exact e1.symm)),World.cell?_setCell_other _ _ _ _ (fun e => hne (by injection e with e1;exact e1.symm))]
 exact h
theorem PlAt.set2 {w : World} {Sh : Nat -> Prop} {p hp ap g mb n m : Nat} {D : DataW Unit} {v : PoolW} (k : PlAt w Sh p hp ap g mb n m D v) {q : Nat} (hq : ¬ PlS Sh p ap g mb v.ks q) (u0 u1 : Value) : PlAt ((w.setCell ⟨q,0,none⟩ u0).setCell ⟨q,1,none⟩ u1) Sh p hp ap g mb n m D v :=
 k.keep (((Kept.refl (fun b => b = q) w).set (a := ⟨q,0,none⟩) (Or.inl rfl) u0).set (a := ⟨q,1,none⟩) (Or.inl rfl) u1) (fun b hb e => hq (e ▸ hb))
def Took (w : World) (Sh : Nat -> Prop) (p hp ap g mb n : Nat) (v : PoolW) (order : Int) (e : Ending) (w' : World) : Prop :=
 ∃ at' no v',e = .returned (.tuple #[.int .i64 at',.int .i64 no]) /\ Went w Sh p hp ap g mb n v.ks w' v' /\ pTake v.plain order = (v'.plain,at',no) /\ Stays v.ws v'.ws (fun x => ¬ OutOf v.ks x)
theorem xXq {ks : List CutV} {i : Nat} {k : CutV} {c : Int × Int} {l : List Int} (hi : ks[i]? = some k) : (setC ks i k c l).map CutV.plain = (ks.map CutV.plain).set i (k.s,l) := by
 unfold setC;rw [List.map_set];rfl
theorem xvk {p : PoolV} {order : Int} (ho : 0 <= order /\ order <= 3) {i : Nat} {c : (Int × Int × Int × Int) × List Int} (hf : pFirst p.l order 0 true = some i) (hi : p.l[i]? = some c) : pTake p order = (⟨p.heap,p.l.set i (c.1,c.2.tail),p.held⟩,c.2.headD 0,0) := by
 unfold pTake
 rw [if_neg (by omega),hf]
 simp only
 rw [hi]
theorem xQ9 {p : PoolV} {order : Int} (ho : 0 <= order /\ order <= 3) {h' : HeapV} {s : Int × Int × Int × Int} (hf : pFirst p.l order 0 true = none) (hm : hMake p.heap 4 order = (h',s,0)) : pTake p order = (⟨h',p.l ++ [(s,(pBlocks s).tail)],p.held⟩,(pBlocks s).headD 0,0) := by
 unfold pTake
 rw [if_neg (by omega),hf]
 simp only
 rw [hm];rfl
theorem xXr {p : PoolV} {order : Int} (ho : 0 <= order /\ order <= 3) (hf : pFirst p.l order 0 true = none) (hm : (hMake p.heap 4 order).2.2 ≠ 0) : pTake p order = (p,0,(hMake p.heap 4 order).2.2) := by
 unfold pTake
 rw [if_neg (by omega),hf]
 simp only
 rw [if_neg hm]
theorem yks {v : PoolW} {order : Int} (ho : 0 <= order /\ order <= 3) {i : Nat} {c0 : CutV} {a : Int} {l' : List Int} {c' : Int × Int} {ws' : List Nat} (hi : v.ks[i]? = some c0) (hl : c0.l = a :: l') (hf : pFirst (v.ks.map CutV.plain) order 0 true = some i) :
  pTake v.plain order = (({ v with ws := ws',ks := setC v.ks i c0 c' l' } : PoolW).plain,a,0) := by
 rw [xvk (p := v.plain) ho hf (c := c0.plain) (by show (v.ks.map CutV.plain)[i]? = _;rw [List.getElem?_map,hi];rfl)]
 unfold PoolW.plain CutV.plain
 simp only [hl,List.tail_cons,List.headD_cons]
 rw [show (fun k : CutV => (k.s,k.l)) = CutV.plain from rfl,xXq hi]
theorem take_new {v : PoolW} {order : Int} (ho : 0 <= order /\ order <= 3) {r : HeapV × (Int × Int × Int × Int) × Int} (hm : hMake v.h 4 order = r) (hr : r.2.2 = 0) {b : Nat} {c c' : Int × Int} {a : Int} {l' : List Int} {ws1 ws' : List Nat} (hl : pBlocks r.2.1 = a :: l') (hf : pFirst (v.ks.map CutV.plain) order 0 true = none) :
  pTake v.plain order = (({ addV v r.1 ws1 b r.2.1 c with ws := ws',ks := setC (addV v r.1 ws1 b r.2.1 c).ks v.ks.length ⟨b,r.2.1,c,pBlocks r.2.1⟩ c' l' } : PoolW).plain,a,0) := by
 obtain ⟨h',s,e⟩ := r
 simp only at hr hl
 subst hr
 have hi : (addV v h' ws1 b s c).ks[v.ks.length]? = some ⟨b,s,c,pBlocks s⟩ := by unfold addV;simp
 rw [xQ9 (p := v.plain) ho hf hm]
 unfold PoolW.plain
 simp only
 rw [xXq hi,hl]
 simp [addV,CutV.plain]
set_option maxRecDepth 100000 in
theorem xjy (a : Option Addr) (order : Int) (ho : in64 order) (hb : order < 0 \/ 3 < order) (w : World) :
  Calls Tryz.prog 60 #[.pointer a,.int .i64 order] w fun e w' => e = .returned (.tuple #[.int .i64 0,.int .i64 1]) /\ Below w.heap.size w w' := by
 have hbe : Below w.heap.size w (w.alloc (.cells #[.int .i64 order] 3)) := (Below.refl _ _).alloc (Nat.le_refl _) _
 by_cases h : order < 0
 ·have hd : decide (order < 0) = true := decide_eq_true h
  go_enter Tryz.func60,Tryz.ntmps60
  go_wp2
  go_ret2
  exact ⟨rfl,hbe⟩
 ·have h4 : 4 <= order := by omega
  go_enter Tryz.func60,Tryz.ntmps60
  go_wp2
  go_ret2
  exact ⟨rfl,hbe⟩
set_option maxHeartbeats 12000000 in
set_option maxRecDepth 100000 in
theorem xXs {w : World} {Sh : Nat -> Prop} {p hp ap g mb n m : Nat} {D : DataW Unit} {v : PoolW} (k : PlAt w Sh p hp ap g mb n m D v) (o : PlOk n m v) (order : Int) (ho : 0 <= order /\ order <= 3) (hlb : v.h.last + 1 <= 1000000000) :
  Calls Tryz.prog 60 #[.pointer (some ⟨p,0,none⟩),.int .i64 order] w (Took w Sh p hp ap g mb n v order) := by
 obtain ⟨w0,hw0⟩ : ∃ w0,w0 = w.alloc (.cells #[.int .i64 order] 3) := ⟨_,rfl⟩
 have hb0 : Below w.heap.size w w0 := by rw [hw0];exact (Below.refl _ _).alloc (Nat.le_refl _) _
 have hbx : w0.cell? ⟨w.heap.size,0,none⟩ = some (.int .i64 order) := by rw [hw0];exact World.cell?_alloc_at _ _ _ 0 (by simp)
 have hxl : w.heap.size < w0.heap.size := xq0 hbx
 have k0 := k.below hb0
 have cr : Calls Tryz.prog 73 #[.pointer (some ⟨p,0,none⟩),.func (.func 130) #[] #[.pointer (some ⟨w.heap.size,0,none⟩)]] w0 (Rising w0 v.ks (fun k => k.s.2.2.2 == order && decide (0 < k.c.2))) :=
  xz7 k0 o 130 #[.pointer (some ⟨w.heap.size,0,none⟩)] _ (fun W2 t hb2 ht c hc => r2_take c t w.heap.size order W2 ((k0.cuts c hc).below hb2) ht ((hb2.cell (p := ⟨w.heap.size,0,none⟩) hxl).trans hbx))
 have hpl0 : ∀ b,PlS Sh p ap g mb v.ks b -> b < w.heap.size := k.lt
 replace cr : Calls Tryz.prog 73 #[.pointer (some ⟨p,0,none⟩),.func (.func 130) #[] #[.pointer (some ⟨w.heap.size,0,none⟩)]] w0 fun e w1 => (∃ A d,e = .returned (.slice A 0 d) /\ Hid (pFirst (v.ks.map CutV.plain) order 0 true = none /\ w1.ownsRow w0.heap.size 135 1 (.slice A 0 d) 0 []) /\ Below w0.heap.size w0 w1) \/
   (∃ gl d N i c0 a l',e = .returned (.slice (some ⟨gl,0,none⟩) N d) /\ 0 < N /\ w1.cell? ⟨gl,0,none⟩ = some (.pointer (some ⟨CutV.b c0,0,none⟩)) /\ Hid (w0.heap.size <= gl /\ gl < w1.heap.size) /\ Hid (v.ks[i]? = some c0 /\ c0.l = a :: l' /\ pFirst (v.ks.map CutV.plain) order 0 true = some i) /\ Below w0.heap.size w0 w1) := by
  have hws : v.ws.length <= 65536 := by rw [k.ar.hlen];exact k.ar.small
  have hlen : ∀ c ∈ v.ks,(c.l.length : Int) = c.c.2 := fun c hc => (xqs (o.lst c hc) hws).2.2.2.1
  refine cr.mono ?_
  rintro e w1 ⟨ds,hd,A,d,rfl,hrow,hb1⟩
  rcases xKu o k.hp_.ok hd (fun k => k.s.2.2.2 == order && decide (0 < k.c.2)) order true (fun c hc => by
   have h1 := hlen c hc
   have h2 := k.hp_.ok.start (o.mem c hc)
   unfold pFits CutV.plain
   simp only [Bool.not_true,Bool.false_or]
   rw [Bool.eq_iff_iff]
   simp only [Bool.and_eq_true,beq_iff_eq,decide_eq_true_eq]
   constructor
   ·rintro ⟨e1,e2⟩
    exact ⟨⟨e1,by omega⟩,by omega⟩
   ·rintro ⟨⟨e1,_⟩,e2⟩
    exact ⟨e1,by omega⟩) with ⟨h1,h2⟩ | ⟨c,r,i,h1,h2,h3,h4⟩
  ·rw [h1] at hrow ⊢
   exact Or.inl ⟨A,d,rfl,hidb ⟨h2,hrow⟩,hb1⟩
  ·rw [h1] at hrow ⊢
   have h5 := hlen c (List.mem_of_getElem? h2)
   have h6 : 0 < c.c.2 := by
    have := (Bool.and_eq_true_iff.1 h3).2
    simpa using this
   obtain ⟨gl,rfl,q1,q2⟩ := xJ6 hrow (by simp)
   have hsl : Sl w1 w1.heap.size (some ⟨gl,0,none⟩) (c :: r).length ((c :: r).map pv) := by rw [xxw] at hrow;exact Sl.of_own hrow
   obtain ⟨b',off',u,e1,_,hu,hc⟩ := hsl.at_ (k := 0) (by simp)
   obtain ⟨rfl,rfl⟩ : gl = b' /\ 0 = off' := by simpa using e1
   have hu2 : pv c = u := by simpa using hu
   subst hu2
   cases hcl : c.l with
   | nil => rw [hcl] at h5;simp at h5;omega
   | cons a l' => exact Or.inr ⟨gl,d,(c :: r).length,i,c,a,l',rfl,by simp,hc,hidb ⟨q1,q2⟩,hidb ⟨h2,hcl,h4⟩,hb1⟩
 have HADD : Hid (∀ W,Below w.heap.size w W -> Calls Tryz.prog 131 #[.pointer (some ⟨p,0,none⟩),.int .i64 order] W (Added W Sh p hp ap g mb n v (hMake v.h 4 order))) := hidb (fun W hb => ykr (k.below hb) o order ho hlb)
 have HREF : Hid (∀ W,Below w.heap.size w W -> PlAt W Sh p hp ap g mb n m D v /\ Kept (PlS Sh p ap g mb v.ks) w W) := hidb (fun W hb => ⟨k.below hb,Kept.of_below hb _⟩)
 have HO := hidb o
 have HOKH := hidb k.hp_.ok
 have HB0 := hidb hb0
 have HBX := hidb hbx
 have HW0 := hidb hw0
 have hgw := k.ar.lt
 have hd1 : decide (order < 0) = false := decide_eq_false (by omega)
 have hd2 : decide (4 <= order) = false := decide_eq_false (by omega)
 obtain ⟨i0,hi,hz0,hz1,hz2⟩ := info_parts yql
 clear k o hb0 hbx k0 hw0
 have HPS := hidb hpl0
 obtain ⟨r,hr0⟩ : ∃ r,hMake v.h 4 order = r := ⟨_,rfl⟩
 rw [hr0] at HADD
 have HR0 := hidb hr0
 clear hpl0 hr0
 have HARG : Hid (∀ w1 w2,Below w.heap.size w w1 -> r.2.2 ≠ 0 -> pFirst (v.ks.map CutV.plain) order 0 true = none -> Went w1 Sh p hp ap g mb n v.ks w2 v -> Took w Sh p hp ap g mb n v order (.returned (.tuple #[.int .i64 0,.int .i64 r.2.2])) w2) := hidb (fun w1 w2 hb hne hf hw => by
  obtain ⟨q1,q2⟩ := HREF.out w1 hb
  exact ⟨0,r.2.2,v,rfl,Went.trans (v' := v) q2 (fun b h => Or.inl h) hw,by rw [<- HR0.out] at hne ⊢;exact xXr ho hf hne,Stays.refl _ _⟩)
 go_enter Tryz.func60,Tryz.ntmps60
 unfold Added Went at HADD
 go_wp2_with (first
  | (go_at_call 73;rw [<- HW0.out];(with_reducible refine cr.mono ?_);rintro e w1 (⟨A,d,rfl,HA,hb1⟩ | ⟨gl,d,N,i,c0,a,l',rfl,hN,yl,HG,HI0,hb1⟩);all_goals (have hbb := HB0.out.trans (hb1.mono HB0.out.size));all_goals (have y0 : w1.cell? ⟨w.heap.size,0,none⟩ = some (.int .i64 order) := (hb1.cell (p := ⟨w.heap.size,0,none⟩) hxl).trans HBX.out);all_goals (have ca := HADD.out _ hbb))
  | (go_at_call 131;(with_reducible refine ca.mono ?_);rintro e w2 (⟨hr,rfl,hw2⟩ | ⟨hr,b,c,ws1,rfl,⟨S2,m2,D2,hpl2,ho2,hk2,hs2⟩,hst⟩))
  | (at_builtin;refine wpList_append_own _ rfl _ _ 133 rfl w0.heap.size 135 i0 (.pointer none) 1 8 Tryz.underlying133 hi hz0 hz1 hz2 rfl (by decide) _ _ _ rfl ((xjm HA.out.2 hk2 (fun k hk hS => by have h1 := HPS.out k hS;have h2 := HA.out.2.lt k hk;omega)).alloc _) ⟨w2.heap.size,0,none⟩ 1 1 [.pointer (some ⟨b,0,none⟩)] rfl rfl (xxz w2 [.pointer (some ⟨b,0,none⟩)] _ _ rfl) (fun u hu => by obtain rfl := List.mem_singleton.1 hu;rfl) (by unfold maxLen;omega) (by omega) (by have h1 := hk2.size;have h2 := hb1.size;simp;omega) ?_;intro v3 w3 hown3 hgrow _;obtain ⟨A3,c3,rfl⟩ := xzr hown3))
 ·go_ret2
  exact HARG.out w1 w2 hbb hr HA.out.1 hw2
 ·obtain ⟨hf,hrow1⟩ := HA.out
  obtain ⟨hpl0,hkk⟩ := HREF.out w1 hbb
  have hAb : ∀ q,(Value.slice A 0 d).ownBlock = some q -> w0.heap.size <= q /\ q < w1.heap.size := fun q hq => hrow1.lt q hq
  have hz1 := hb1.size
  have hz2 := hk2.size
  have hAn : ∀ q,(Value.slice A 0 d).ownBlock = some q -> ¬ PlS S2 p ap g mb (addV v r.1 ws1 b r.2.1 c).ks q := fun q hq hS => by
   have h1 := hAb q hq
   rcases hs2 q hS with h2 | h2
   ·have := HPS.out q h2;omega
   ·omega
  obtain ⟨gl,rfl,q1,q2⟩ := xJ6 hown3 (by omega)
  have hsl : Sl w3 w3.heap.size (some ⟨gl,0,none⟩) 1 [.pointer (some ⟨b,0,none⟩)] := Sl.of_own hown3
  obtain ⟨b',off',u,e1,_,hu,yl⟩ := hsl.at_ (k := 0) (by omega)
  obtain ⟨rfl,rfl⟩ : gl = b' /\ 0 = off' := by simpa using e1
  have hu2 : Value.pointer (some ⟨b,0,none⟩) = u := by simpa using hu
  subst hu2
  have hba : Below w2.heap.size w2 (w2.alloc (.cells #[.pointer (some ⟨b,0,none⟩)] 135)) := (Below.refl _ _).alloc (Nat.le_refl _) _
  have hK23 : Kept (fun q => (Value.slice A 0 d).ownBlock = some q) w2 w3 := (Kept.of_below hba _).grown hgrow (fun q e => Or.inl e)
  have hpl : PlAt w3 S2 p hp ap g mb n m2 D2 (addV v r.1 ws1 b r.2.1 c) := hpl2.keep hK23 (fun q hS e => hAn q e hS)
  have hkw : Kept (PlS Sh p ap g mb v.ks) w w3 := by
   refine (hkk.trans hk2 (fun _ _ h => h)).trans hK23 (fun q hq e => ?_)
   have := hAb q e;omega
  have hsw : ∀ q,PlS S2 p ap g mb (addV v r.1 ws1 b r.2.1 c).ks q -> PlS Sh p ap g mb v.ks q \/ w.heap.size <= q := fun q hS => by
   rcases hs2 q hS with h2 | h2
   ·exact Or.inl h2
   ·exact Or.inr (Nat.le_trans hbb.size h2)
  have hfour := ho2.four ⟨b,r.2.1,c,pBlocks r.2.1⟩ (by unfold addV;simp)
  obtain ⟨a,l',hbl⟩ : ∃ a l',pBlocks r.2.1 = a :: l' := by
   have h1 := xq9 r.2.1
   have h2 := xx4 r.2.1.2.2.2 hfour.2.1 hfour.2.2
   simp only at hfour
   rw [hfour.1] at h1
   cases hh : pBlocks r.2.1 with
   | nil => rw [hh] at h1;simp at h1;omega
   | cons a l' => exact ⟨a,l',rfl⟩
  have HGL : Hid (g < w3.heap.size -> gl ≠ g) := hidb (fun _ => by omega)
  have hnew9 : ∀ x,x ∈ pBlocks r.2.1 -> ¬ OutOf v.ks x := fun x hx ho9 => by
   obtain ⟨k9,hk9,hx9,_⟩ := ho9
   have h91 : k9 ∈ (addV v r.1 ws1 b r.2.1 c).ks := List.mem_append_left _ hk9
   have h92 : (⟨b,r.2.1,c,pBlocks r.2.1⟩ : CutV) ∈ (addV v r.1 ws1 b r.2.1 c).ks := List.mem_append_right _ (List.mem_singleton_self _)
   have h93 := ho2.blocks_apart hpl2.hp_.ok h91 h92 hx9 hx
   have h94 : ((v.ks ++ [(⟨b,r.2.1,c,pBlocks r.2.1⟩ : CutV)]).map (·.s.1)).Nodup := ho2.ids
   rw [List.map_append] at h94
   exact (List.nodup_append.1 h94).2.2 k9.s.1 (List.mem_map.2 ⟨k9,hk9,rfl⟩) k9.s.1 (by rw [h93];simp) rfl
  have HDONE : Hid (∀ ws' c' wz (e : Ending),e = .returned (.tuple #[.int .i64 a,.int .i64 0]) -> Stays (addV v r.1 ws1 b r.2.1 c).ws ws' (· ∈ a :: l') -> Went w3 S2 p hp ap g mb n (addV v r.1 ws1 b r.2.1 c).ks wz { addV v r.1 ws1 b r.2.1 c with ws := ws',ks := setC (addV v r.1 ws1 b r.2.1 c).ks v.ks.length ⟨b,r.2.1,c,pBlocks r.2.1⟩ c' l' } -> Took w Sh p hp ap g mb n v order e wz) := hidb (fun ws' c' wz e he hs2' hw => ⟨a,0,_,he,Went.trans (v' := addV v r.1 ws1 b r.2.1 c) hkw hsw hw,take_new ho HR0.out hr hbl hf,hst.trans hs2' hnew9 (fun x hx => hnew9 x (by rw [hbl];exact hx))⟩)
  obtain ⟨i,hi9⟩ : ∃ i,i = v.ks.length := ⟨_,rfl⟩
  obtain ⟨c0,hc9⟩ : ∃ c0 : CutV,c0 = ⟨b,r.2.1,c,pBlocks r.2.1⟩ := ⟨_,rfl⟩
  have HI : Hid ((addV v r.1 ws1 b r.2.1 c).ks[i]? = some c0) := hidb (by rw [hi9,hc9];unfold addV;simp)
  have hl0 : c0.l = a :: l' := by rw [hc9];exact hbl
  have hcb9 : b = c0.b := by rw [hc9]
  rw [<- hi9,<- hc9] at HDONE
  have HO2 := hidb ho2
  have HOK := hidb hpl.hp_.ok
  rw [hcb9] at yl ⊢
  generalize addV v r.1 ws1 b r.2.1 c = v2 at hpl HI HO2 HOK HDONE hpl2 hs2 hAn hsw ho2 hfour
  clear hnew9 hst hpl2 hs2 hAn hsw ho2 hfour hK23 hkw hpl0 hkk hrow1 hAb hba hown3 hgrow hk2 hsl hu e1 hbl hi9 hc9 hcb9 hf cr ca y0 hr HR0 HARG
  have hpr := xKt (hl0 ▸ HO2.out.lst c0 (List.mem_of_getElem? HI.out)) HO2.out.wide (by rw [hpl.ar.hlen];exact hpl.ar.small)
  obtain ⟨ws',c',hpop,hl',hlen',hw',hkeep⟩ := hpr
  have HST := hidb (show Stays v2.ws ws' (· ∈ a :: l') from fun c2 l2 h2 hn2 => hkeep c2 l2 h2 fun x hx hxl => hn2 x hxl hx)
  have hc0m := List.mem_of_getElem? HI.out
  have hb0 := hpl.cuts c0 hc0m
  have cpop : ∀ W',Below w3.heap.size w3 W' -> Calls Tryz.prog 132 #[.pointer (some ⟨ap,0,none⟩),.agg #[.int .i64 c0.c.1,.int .i64 c0.c.2]] W' fun e w' => e = .returned (.tuple #[.agg #[.int .i64 c'.1,.int .i64 c'.2],.int .i64 a,.int .i64 0]) /\ PlAt w' S2 p hp ap g mb n m2 D2 { v2 with ws := ws' } /\ W'.grownBy w' (some g) := fun W' hb => by
   have hp' := hpl.below hb
   obtain ⟨_,q2,q3,_⟩ := xqs (HO2.out.lst c0 hc0m) (by rw [hpl.ar.hlen];exact hpl.ar.small)
   have h1 := xKq hp'.ar c0.c.1 c0.c.2 q2 q3 HO2.out.wide
   rw [show cPop v2.ws (c0.c.1,c0.c.2) = (ws',c',a,0) from hpop] at h1
   refine h1.mono ?_
   rintro e w' ⟨rfl,ha,hg⟩
   exact ⟨rfl,hp'.words hg ha,hg⟩
  have HFIN : Hid (∀ wx,PlAt wx S2 p hp ap g mb n m2 D2 { v2 with ws := ws' } -> Kept (fun b => b = g) w3 wx -> Went w3 S2 p hp ap g mb n v2.ks ((wx.setCell ⟨c0.b,4,none⟩ (.int .i64 c'.1)).setCell ⟨c0.b,5,none⟩ (.int .i64 c'.2)) { v2 with ws := ws',ks := setC v2.ks i c0 c' l' }) := hidb (fun wx h1 h2 => by
   have h3 := h1.chain (i := i) (c := c0) HI.out c'.1 c'.2 l'
   have hsb : ∀ b,PlS S2 p ap g mb (setC v2.ks i c0 c' l') b -> PlS S2 p ap g mb v2.ks b := fun b hb => by
    rcases hb with h | h | h | h | h | ⟨x,hx,e⟩
    ·exact Or.inl h
    ·exact Or.inr (Or.inl h)
    ·exact Or.inr (Or.inr (Or.inl h))
    ·exact Or.inr (Or.inr (Or.inr (Or.inl h)))
    ·exact Or.inr (Or.inr (Or.inr (Or.inr (Or.inl h))))
    ·rcases xzc HI.out hx h1.nd with rfl | ⟨h4,_⟩
     ·exact Or.inr (Or.inr (Or.inr (Or.inr (Or.inr ⟨c0,hc0m,e⟩))))
     ·exact Or.inr (Or.inr (Or.inr (Or.inr (Or.inr ⟨x,h4,e⟩))))
   have hcS : PlS S2 p ap g mb v2.ks c0.b := Or.inr (Or.inr (Or.inr (Or.inr (Or.inr ⟨c0,hc0m,rfl⟩))))
   have hgS : PlS S2 p ap g mb v2.ks g := Or.inr (Or.inr (Or.inr (Or.inl rfl)))
   refine ⟨S2,m2,D2,h3,HO2.out.chain h1.nd HI.out hw' hl' (fun x hx => HO2.out.sub c0 hc0m x (by rw [hl0];exact List.mem_cons_of_mem _ hx)) (fun x hx hne => hkeep _ _ (HO2.out.lst x hx) fun y hy hyx => ?_),?_,fun b hb => Or.inl (hsb b hb)⟩
   ·have e1 := HO2.out.blocks_apart HOK.out hc0m hx (HO2.out.sub c0 hc0m y (by rw [hl0];exact hy)) (HO2.out.sub x hx y hyx)
    exact hne (by rw [e1])
   ·have h5 : Kept (PlS S2 p ap g mb v2.ks) w3 wx := ⟨h2.os,h2.tape,h2.output,h2.size,fun b hb hn => h2.block b hb (fun e => hn (e ▸ hgS))⟩
    exact (h5.set (a := ⟨c0.b,4,none⟩) (Or.inl hcS) _).set (a := ⟨c0.b,5,none⟩) (Or.inl hcS) _)
  have y1 := hpl.c1
  have y4 := hb0.c4
  have y5 := hb0.c5
  have hgne : gl ≠ g := HGL.out hpl.ar.lt
  have HBF := hidb hb0
  have HCS : Hid (∀ W',PlAt W' S2 p hp ap g mb n m2 D2 { v2 with ws := ws' } -> W'.frozen? ⟨c0.b,4,none⟩ = false /\ W'.frozen? ⟨c0.b,5,none⟩ = false /\ W'.cell? ⟨c0.b,4,none⟩ = some (.int .i64 c0.c.1) /\ W'.cell? ⟨c0.b,5,none⟩ = some (.int .i64 c0.c.2)) := hidb (fun W' h => ⟨(h.cuts c0 hc0m).fz 4,(h.cuts c0 hc0m).fz 5,(h.cuts c0 hc0m).c4,(h.cuts c0 hc0m).c5⟩)
  obtain ⟨cb0,hcb0⟩ : ∃ cb0,c0.b = cb0 := ⟨_,rfl⟩
  obtain ⟨cc1,hcc1⟩ : ∃ cc1,c0.c.1 = cc1 := ⟨_,rfl⟩
  obtain ⟨cc2,hcc2⟩ : ∃ cc2,c0.c.2 = cc2 := ⟨_,rfl⟩
  rw [hcb0,hcc1] at y4
  rw [hcb0,hcc2] at y5
  rw [hcc1,hcc2] at cpop
  rw [hcb0] at HFIN yl
  rw [hcb0,hcc1,hcc2] at HCS
  have HPL := hidb hpl
  have z1 := xq1 (.cells #[.int .i64 0,.int .i64 0] 137) y1
  have z4 := xq1 (.cells #[.int .i64 0,.int .i64 0] 137) y4
  have z5 := xq1 (.cells #[.int .i64 0,.int .i64 0] 137) y5
  have zl := xq1 (.cells #[.int .i64 0,.int .i64 0] 137) yl
  have hyl2 : gl < w3.heap.size := xq0 yl
  have hgl7 : g < w3.heap.size := hpl.ar.lt
  have HPS2 : Hid (¬ PlS S2 p ap g mb v2.ks w3.heap.size) := hidb (fun h => Nat.lt_irrefl _ (hpl.lt _ h))
  clear hpl hb0 hpop hl' hlen' hw' hkeep hl0 hcb0 hcc1 hcc2
  skip
  go_cut [9,10,11] from 37 to 51 (fun v9 v10 v11 wx => ∃ q,v9 = .pointer (some ⟨q,0,none⟩) /\ v10 = .int .i64 a /\ v11 = .int .i64 0 /\ wx.cell? ⟨q,0,none⟩ = some (.int .i64 c'.1) /\ wx.cell? ⟨q,1,none⟩ = some (.int .i64 c'.2) /\ wx.cell? ⟨gl,0,none⟩ = some (.pointer (some ⟨cb0,0,none⟩)) /\ PlAt wx S2 p hp ap g mb n m2 D2 { v2 with ws := ws' } /\ Kept (fun b => b = g) w3 wx)
  case first =>
   go_region_law (first
    | (go_simp;go_at_call 132;(with_reducible refine (cpop _ (Below.refl _ _).drew).mono ?_);rintro e w7 ⟨rfl,hp7,hg7⟩;have HP7 := hidb hp7;have yl7 : w7.cell? ⟨gl,0,none⟩ = some (.pointer (some ⟨cb0,0,none⟩)) := (World.cell?_of_block (w := w3) (a := ⟨gl,0,none⟩) (hg7.block gl hyl2 (fun e => hgne (by injection e)))).trans yl;have HK7 : Hid (Kept (fun b => b = g) w3 w7) := hidb ((Kept.drew (Kept.refl _ w3)).grown hg7 (fun k e => by injection e with e;exact Or.inl e.symm));clear hp7 hg7)
    | (go_simp;go_at_call 132;(with_reducible refine (cpop _ (((Below.refl _ _).alloc (Nat.le_refl _) _).drew)).mono ?_);rintro e w7 ⟨rfl,hp7,hg7⟩;have HP7 := hidb hp7;have hlg := hgl7;have yl7 : w7.cell? ⟨gl,0,none⟩ = some (.pointer (some ⟨cb0,0,none⟩)) := (World.cell?_of_block (w := (w3.alloc (.cells #[.int .i64 0,.int .i64 0] 137))) (a := ⟨gl,0,none⟩) (hg7.block gl (by simp;omega) (fun e => hgne (by injection e)))).trans (xq1 _ yl);have HN7 : Hid (w7.heap[w3.heap.size]? = some (.cells #[.int .i64 0,.int .i64 0] 137 (0,0))) := hidb ((hg7.block w3.heap.size (by simp) (fun e => by injection e with e;omega)).trans (by show (w3.heap.push _)[w3.heap.size]? = _;simp));obtain ⟨n0,n1,m0,m1⟩ := cells2P HN7.out;have HK7 : Hid (Kept (fun b => b = g) w3 w7) := hidb ((Kept.of_below (((Below.refl _ w3).alloc (Nat.le_refl _) _).drew) (fun b => b = g)).grown hg7 (fun k e => by injection e with e;exact Or.inl e.symm));clear hp7 hg7))
   all_goals
    go_wp2_with fail
    go_meet
    first
     | exact ⟨w7.heap.size,rfl,rfl,rfl,World.cell?_alloc_at _ _ _ 0 (by simp),World.cell?_alloc_at _ _ _ 1 (by simp),xq1 _ yl7,HP7.out.below ((Below.refl _ _).alloc (Nat.le_refl _) _),HK7.out.trans (Kept.of_below ((Below.refl _ _).alloc (Nat.le_refl _) _) (fun _ => False)) (fun _ _ c => c.elim)⟩
     | exact ⟨w3.heap.size,rfl,rfl,rfl,(xqi w7 w3.heap.size (.int .i64 c'.1) (.int .i64 c'.2) _ _ n0 n1).1,(xqi w7 w3.heap.size (.int .i64 c'.1) (.int .i64 c'.2) _ _ n0 n1).2,(xXp (by omega) yl7),HP7.out.set2 (HPS2.out) _ _,(HK7.out.set (a := ⟨w3.heap.size,0,none⟩) (Or.inr (Nat.le_refl _)) _).set (a := ⟨w3.heap.size,1,none⟩) (Or.inr (Nat.le_refl _)) _⟩
  case rest =>
   clear z1 z4 z5 zl
   obtain ⟨q,rfl,rfl,rfl,z0,z1,zl,hpw,hkw⟩ := hcut
   obtain ⟨f4,f5,x4,x5⟩ := HCS.out wc hpw
   have HPW := hidb hpw
   have HKW := hidb hkw
   clear hpw hkw y1 y4 y5 yl
   go_wp2
   go_region
   all_goals go_wp2
   all_goals go_ret2
   all_goals exact HDONE.out _ _ _ _ rfl HST.out (HFIN.out wc.drew (HPW.out.below (Below.refl _ _).drew) HKW.out.drew)
 ·obtain ⟨HI1,hl0,hf⟩ := HI0.out
  obtain ⟨hpl,hkk⟩ := HREF.out w1 hbb
  have HI := hidb HI1
  have HO2 := HO
  have HOK := HOKH
  have HGL : Hid (g < w1.heap.size -> gl ≠ g) := hidb (fun _ => by have := HG.out;omega)
  have HDONE : Hid (∀ ws' c' wz (e : Ending),e = .returned (.tuple #[.int .i64 a,.int .i64 0]) -> Stays v.ws ws' (· ∈ a :: l') -> Went w1 Sh p hp ap g mb n v.ks wz { v with ws := ws',ks := setC v.ks i c0 c' l' } -> Took w Sh p hp ap g mb n v order e wz) := hidb (fun ws' c' wz e he hs2' hw => ⟨a,0,_,he,Went.trans (v' := v) hkk (fun b h => Or.inl h) hw,yks ho HI1 hl0 hf,hs2'.mono fun x hx ho9 => by
   obtain ⟨k9,hk9,hx9,hn9⟩ := ho9
   have h8 := List.mem_of_getElem? HI1
   have h9 := HO.out.blocks_apart HOKH.out hk9 h8 hx9 (HO.out.sub _ h8 x (by rw [hl0];exact hx))
   rw [h9,hl0] at hn9
   exact hn9 hx⟩)
  clear hkk HI0 HI1 hf cr ca y0
  have hpr := xKt (hl0 ▸ HO2.out.lst c0 (List.mem_of_getElem? HI.out)) HO2.out.wide (by rw [hpl.ar.hlen];exact hpl.ar.small)
  obtain ⟨ws',c',hpop,hl',hlen',hw',hkeep⟩ := hpr
  have HST := hidb (show Stays v.ws ws' (· ∈ a :: l') from fun c2 l2 h2 hn2 => hkeep c2 l2 h2 fun x hx hxl => hn2 x hxl hx)
  have hc0m := List.mem_of_getElem? HI.out
  have hb0 := hpl.cuts c0 hc0m
  have cpop : ∀ W',Below w1.heap.size w1 W' -> Calls Tryz.prog 132 #[.pointer (some ⟨ap,0,none⟩),.agg #[.int .i64 c0.c.1,.int .i64 c0.c.2]] W' fun e w' => e = .returned (.tuple #[.agg #[.int .i64 c'.1,.int .i64 c'.2],.int .i64 a,.int .i64 0]) /\ PlAt w' Sh p hp ap g mb n m D { v with ws := ws' } /\ W'.grownBy w' (some g) := fun W' hb => by
   have hp' := hpl.below hb
   obtain ⟨_,q2,q3,_⟩ := xqs (HO2.out.lst c0 hc0m) (by rw [hpl.ar.hlen];exact hpl.ar.small)
   have h1 := xKq hp'.ar c0.c.1 c0.c.2 q2 q3 HO2.out.wide
   rw [show cPop v.ws (c0.c.1,c0.c.2) = (ws',c',a,0) from hpop] at h1
   refine h1.mono ?_
   rintro e w' ⟨rfl,ha,hg⟩
   exact ⟨rfl,hp'.words hg ha,hg⟩
  have HFIN : Hid (∀ wx,PlAt wx Sh p hp ap g mb n m D { v with ws := ws' } -> Kept (fun b => b = g) w1 wx -> Went w1 Sh p hp ap g mb n v.ks ((wx.setCell ⟨c0.b,4,none⟩ (.int .i64 c'.1)).setCell ⟨c0.b,5,none⟩ (.int .i64 c'.2)) { v with ws := ws',ks := setC v.ks i c0 c' l' }) := hidb (fun wx h1 h2 => by
   have h3 := h1.chain (i := i) (c := c0) HI.out c'.1 c'.2 l'
   have hsb : ∀ b,PlS Sh p ap g mb (setC v.ks i c0 c' l') b -> PlS Sh p ap g mb v.ks b := fun b hb => by
    rcases hb with h | h | h | h | h | ⟨x,hx,e⟩
    ·exact Or.inl h
    ·exact Or.inr (Or.inl h)
    ·exact Or.inr (Or.inr (Or.inl h))
    ·exact Or.inr (Or.inr (Or.inr (Or.inl h)))
    ·exact Or.inr (Or.inr (Or.inr (Or.inr (Or.inl h))))
    ·rcases xzc HI.out hx h1.nd with rfl | ⟨h4,_⟩
     ·exact Or.inr (Or.inr (Or.inr (Or.inr (Or.inr ⟨c0,hc0m,e⟩))))
     ·exact Or.inr (Or.inr (Or.inr (Or.inr (Or.inr ⟨x,h4,e⟩))))
   have hcS : PlS Sh p ap g mb v.ks c0.b := Or.inr (Or.inr (Or.inr (Or.inr (Or.inr ⟨c0,hc0m,rfl⟩))))
   have hgS : PlS Sh p ap g mb v.ks g := Or.inr (Or.inr (Or.inr (Or.inl rfl)))
   refine ⟨Sh,m,D,h3,HO2.out.chain h1.nd HI.out hw' hl' (fun x hx => HO2.out.sub c0 hc0m x (by rw [hl0];exact List.mem_cons_of_mem _ hx)) (fun x hx hne => hkeep _ _ (HO2.out.lst x hx) fun y hy hyx => ?_),?_,fun b hb => Or.inl (hsb b hb)⟩
   ·have e1 := HO2.out.blocks_apart HOK.out hc0m hx (HO2.out.sub c0 hc0m y (by rw [hl0];exact hy)) (HO2.out.sub x hx y hyx)
    exact hne (by rw [e1])
   ·have h5 : Kept (PlS Sh p ap g mb v.ks) w1 wx := ⟨h2.os,h2.tape,h2.output,h2.size,fun b hb hn => h2.block b hb (fun e => hn (e ▸ hgS))⟩
    exact (h5.set (a := ⟨c0.b,4,none⟩) (Or.inl hcS) _).set (a := ⟨c0.b,5,none⟩) (Or.inl hcS) _)
  have y1 := hpl.c1
  have y4 := hb0.c4
  have y5 := hb0.c5
  have hgne : gl ≠ g := HGL.out hpl.ar.lt
  have HBF := hidb hb0
  have HCS : Hid (∀ W',PlAt W' Sh p hp ap g mb n m D { v with ws := ws' } -> W'.frozen? ⟨c0.b,4,none⟩ = false /\ W'.frozen? ⟨c0.b,5,none⟩ = false /\ W'.cell? ⟨c0.b,4,none⟩ = some (.int .i64 c0.c.1) /\ W'.cell? ⟨c0.b,5,none⟩ = some (.int .i64 c0.c.2)) := hidb (fun W' h => ⟨(h.cuts c0 hc0m).fz 4,(h.cuts c0 hc0m).fz 5,(h.cuts c0 hc0m).c4,(h.cuts c0 hc0m).c5⟩)
  obtain ⟨cb0,hcb0⟩ : ∃ cb0,c0.b = cb0 := ⟨_,rfl⟩
  obtain ⟨cc1,hcc1⟩ : ∃ cc1,c0.c.1 = cc1 := ⟨_,rfl⟩
  obtain ⟨cc2,hcc2⟩ : ∃ cc2,c0.c.2 = cc2 := ⟨_,rfl⟩
  rw [hcb0,hcc1] at y4
  rw [hcb0,hcc2] at y5
  rw [hcc1,hcc2] at cpop
  rw [hcb0] at HFIN yl
  rw [hcb0,hcc1,hcc2] at HCS
  have HPL := hidb hpl
  have z1 := xq1 (.cells #[.int .i64 0,.int .i64 0] 137) y1
  have z4 := xq1 (.cells #[.int .i64 0,.int .i64 0] 137) y4
  have z5 := xq1 (.cells #[.int .i64 0,.int .i64 0] 137) y5
  have zl := xq1 (.cells #[.int .i64 0,.int .i64 0] 137) yl
  have hyl2 : gl < w1.heap.size := xq0 yl
  have hgl7 : g < w1.heap.size := hpl.ar.lt
  have HPS2 : Hid (¬ PlS Sh p ap g mb v.ks w1.heap.size) := hidb (fun h => Nat.lt_irrefl _ (hpl.lt _ h))
  clear hpl hb0 hpop hl' hlen' hw' hkeep hl0 hcb0 hcc1 hcc2
  rw [show ((N : Int) == 0) = false from by simpa using (show ¬ N = 0 by omega)]
  go_cut [9,10,11] from 37 to 51 (fun v9 v10 v11 wx => ∃ q,v9 = .pointer (some ⟨q,0,none⟩) /\ v10 = .int .i64 a /\ v11 = .int .i64 0 /\ wx.cell? ⟨q,0,none⟩ = some (.int .i64 c'.1) /\ wx.cell? ⟨q,1,none⟩ = some (.int .i64 c'.2) /\ wx.cell? ⟨gl,0,none⟩ = some (.pointer (some ⟨cb0,0,none⟩)) /\ PlAt wx Sh p hp ap g mb n m D { v with ws := ws' } /\ Kept (fun b => b = g) w1 wx)
  case first =>
   go_region_law (first
    | (go_simp;go_at_call 132;(with_reducible refine (cpop _ (Below.refl _ _).drew).mono ?_);rintro e w7 ⟨rfl,hp7,hg7⟩;have HP7 := hidb hp7;have yl7 : w7.cell? ⟨gl,0,none⟩ = some (.pointer (some ⟨cb0,0,none⟩)) := (World.cell?_of_block (w := w1) (a := ⟨gl,0,none⟩) (hg7.block gl hyl2 (fun e => hgne (by injection e)))).trans yl;have HK7 : Hid (Kept (fun b => b = g) w1 w7) := hidb ((Kept.drew (Kept.refl _ w1)).grown hg7 (fun k e => by injection e with e;exact Or.inl e.symm));clear hp7 hg7)
    | (go_simp;go_at_call 132;(with_reducible refine (cpop _ (((Below.refl _ _).alloc (Nat.le_refl _) _).drew)).mono ?_);rintro e w7 ⟨rfl,hp7,hg7⟩;have HP7 := hidb hp7;have hlg := hgl7;have yl7 : w7.cell? ⟨gl,0,none⟩ = some (.pointer (some ⟨cb0,0,none⟩)) := (World.cell?_of_block (w := (w1.alloc (.cells #[.int .i64 0,.int .i64 0] 137))) (a := ⟨gl,0,none⟩) (hg7.block gl (by simp;omega) (fun e => hgne (by injection e)))).trans (xq1 _ yl);have HN7 : Hid (w7.heap[w1.heap.size]? = some (.cells #[.int .i64 0,.int .i64 0] 137 (0,0))) := hidb ((hg7.block w1.heap.size (by simp) (fun e => by injection e with e;omega)).trans (by show (w1.heap.push _)[w1.heap.size]? = _;simp));obtain ⟨n0,n1,m0,m1⟩ := cells2P HN7.out;have HK7 : Hid (Kept (fun b => b = g) w1 w7) := hidb ((Kept.of_below (((Below.refl _ w1).alloc (Nat.le_refl _) _).drew) (fun b => b = g)).grown hg7 (fun k e => by injection e with e;exact Or.inl e.symm));clear hp7 hg7))
   all_goals
    go_wp2_with fail
    go_meet
    first
     | exact ⟨w7.heap.size,rfl,rfl,rfl,World.cell?_alloc_at _ _ _ 0 (by simp),World.cell?_alloc_at _ _ _ 1 (by simp),xq1 _ yl7,HP7.out.below ((Below.refl _ _).alloc (Nat.le_refl _) _),HK7.out.trans (Kept.of_below ((Below.refl _ _).alloc (Nat.le_refl _) _) (fun _ => False)) (fun _ _ c => c.elim)⟩
     | exact ⟨w1.heap.size,rfl,rfl,rfl,(xqi w7 w1.heap.size (.int .i64 c'.1) (.int .i64 c'.2) _ _ n0 n1).1,(xqi w7 w1.heap.size (.int .i64 c'.1) (.int .i64 c'.2) _ _ n0 n1).2,(xXp (by omega) yl7),HP7.out.set2 (HPS2.out) _ _,(HK7.out.set (a := ⟨w1.heap.size,0,none⟩) (Or.inr (Nat.le_refl _)) _).set (a := ⟨w1.heap.size,1,none⟩) (Or.inr (Nat.le_refl _)) _⟩
  case rest =>
   clear z1 z4 z5 zl
   obtain ⟨q,rfl,rfl,rfl,z0,z1,zl,hpw,hkw⟩ := hcut
   obtain ⟨f4,f5,x4,x5⟩ := HCS.out wc hpw
   have HPW := hidb hpw
   have HKW := hidb hkw
   clear hpw hkw y1 y4 y5 yl
   go_wp2
   go_region
   all_goals go_wp2
   all_goals go_ret2
   all_goals exact HDONE.out _ _ _ _ rfl HST.out (HFIN.out wc.drew (HPW.out.below (Below.refl _ _).drew) HKW.out.drew)
end Go.Proofs.YtlcdgmjinhbncaaGreat
