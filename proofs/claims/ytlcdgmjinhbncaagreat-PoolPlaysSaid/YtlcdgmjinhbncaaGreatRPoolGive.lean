import Derived.Test.YtlcdgmjinhbncaaGreatRPoolGive0
import Derived.Test.YtlcdgmjinhbncaaGreatRPoolAdd
namespace Go.Proofs.YtlcdgmjinhbncaaGreat
open Go.RowKit Go.Maps
set_option linter.unusedVariables false
def gGive (p : PoolV) (xs : List Int) : PoolV × Int := if xs.any (fun x => (pOf p.l x).isNone) then (p,2) else match pPuts p.l xs with
 | none => (p,9)
 | some l => (pSweep { p with l := l },0)
theorem trimV_ws (v : PoolW) : (trimV v).ws = v.ws := by unfold trimV;split <;> rfl
def Gave (w : World) (Sh : Nat -> Prop) (p hp ap g mb n : Nat) (v : PoolW) (xs : List Int) (e : Ending) (w' : World) : Prop :=
 ∃ no v',e = .returned (.int .i64 no) /\ Went w Sh p hp ap g mb n v.ks w' v' /\ gGive v.plain xs = (v'.plain,no) /\ Stays v.ws v'.ws (· ∈ xs)
structure GiveSt (w wr : World) (Sh : Nat -> Prop) (p hp ap g mb n m t : Nat) (D : DataW Unit) (v : PoolW) (AI : Option Addr) (N : Nat) (xs : List Int) (j : Nat) (v2 : PoolW) : Prop where
 pl : PlAt wr Sh p hp ap g mb n m D v2
 ok : PlOk n m v2
 put : PutSt v v2.ks xs j
 hh : v2.h = v.h /\ v2.held = v.held
 kept : Kept (PlS Sh p ap g mb v.ks) w wr
 sl : Sl wr wr.heap.size AI N (xs.map iv)
 tc : wr.cell? ⟨t,0,none⟩ = some (.pointer (some ⟨p,0,none⟩))
 st : Stays v.ws v2.ws (· ∈ xs)
section
variable {w wr w' : World} {Sh : Nat -> Prop} {p hp ap g mb n m t : Nat} {D : DataW Unit} {v : PoolW} {AI : Option Addr} {N : Nat} {xs : List Int} {j : Nat} {v2 : PoolW}
theorem GiveSt.below (h : GiveSt w wr Sh p hp ap g mb n m t D v AI N xs j v2) (hb : Below wr.heap.size wr w') : GiveSt w w' Sh p hp ap g mb n m t D v AI N xs j v2 :=
 ⟨h.pl.below hb,h.ok,h.put,h.hh,h.kept.trans (Kept.of_below hb (fun _ => False)) (fun _ _ c => c.elim),(h.sl.below hb).more hb.size,(hb.cell (p := ⟨t,0,none⟩) (xq0 h.tc)).trans h.tc,h.st⟩
theorem yqp {ks ks' : List CutV} (h : ks'.map (·.b) = ks.map (·.b)) {b : Nat} : PlS Sh p ap g mb ks' b -> PlS Sh p ap g mb ks b := fun hb => by
 rcases hb with h1 | h1 | h1 | h1 | h1 | ⟨c,hc,e⟩
 ·exact Or.inl h1
 ·exact Or.inr (Or.inl h1)
 ·exact Or.inr (Or.inr (Or.inl h1))
 ·exact Or.inr (Or.inr (Or.inr (Or.inl h1)))
 ·exact Or.inr (Or.inr (Or.inr (Or.inr (Or.inl h1))))
 ·have h2 : b ∈ ks.map (·.b) := by rw [<- h];exact List.mem_map.2 ⟨c,hc,e⟩
  obtain ⟨d,hd,e2⟩ := List.mem_map.1 h2
  exact Or.inr (Or.inr (Or.inr (Or.inr (Or.inr ⟨d,hd,e2⟩))))
theorem GiveSt.next (h : GiveSt w wr Sh p hp ap g mb n m t D v AI N xs j v2) (hA : ∀ a,AI = some a -> ¬ PlS Sh p ap g mb v.ks a.block) (ht : ¬ PlS Sh p ap g mb v.ks t) {cb : Nat} (hcb : PlS Sh p ap g mb v.ks cb) (hK : Kept (fun b => b = g \/ b = cb) wr w') {v3 : PoolW} (hp' : PlAt w' Sh p hp ap g mb n m D v3) (o : PlOk n m v3) (hput : PutSt v v3.ks xs (j + 1)) (hh : v3.h = v2.h /\ v3.held = v2.held) (hst : Stays v.ws v3.ws (· ∈ xs)) : GiveSt w w' Sh p hp ap g mb n m t D v AI N xs (j + 1) v3 := by
 have hg : PlS Sh p ap g mb v.ks g := Or.inr (Or.inr (Or.inr (Or.inl rfl)))
 have hin : ∀ b,(b = g \/ b = cb) -> PlS Sh p ap g mb v.ks b := fun b hb => by
  rcases hb with rfl | rfl
  ·exact hg
  ·exact hcb
 exact ⟨hp',o,hput,⟨hh.1.trans h.hh.1,hh.2.trans h.hh.2⟩,h.kept.trans hK (fun b _ hb => hin b hb),Sl.kept (B := 0) h.sl hK (fun a ha hb => hA a ha (hin _ hb)),(hK.cell (a := ⟨t,0,none⟩) (xq0 h.tc) (fun hb => ht (hin _ hb))).trans h.tc,hst⟩
end
theorem Sl.oneI (W : World) (x : Int) (t : TypeId) : Sl (W.alloc (.cells #[.int .i64 x] t)) (W.alloc (.cells #[.int .i64 x] t)).heap.size (some ⟨W.heap.size,0,none⟩) 1 ([x].map iv) :=
 ⟨rfl,fun _ => ⟨W.heap.size,0,rfl,by simp,fun j hj => by
  obtain rfl : j = 0 := by omega
  exact World.cell?_alloc_at _ _ _ 0 (by simp)⟩⟩
theorem xWj {p : PoolV} {xs : List Int} (h : xs.any (fun x => (pOf p.l x).isNone) = true) : gGive p xs = (p,2) := by unfold gGive;rw [if_pos h]
theorem xWk {p : PoolV} {xs : List Int} (h : xs.any (fun x => (pOf p.l x).isNone) = false) (h2 : pPuts p.l xs = none) : gGive p xs = (p,9) := by unfold gGive;rw [if_neg (by rw [h];decide),h2]
theorem ykt {p : PoolV} {xs : List Int} (h : xs.any (fun x => (pOf p.l x).isNone) = false) {l : PL} (h2 : pPuts p.l xs = some l) : gGive p xs = (pSweep { p with l := l },0) := by unfold gGive;rw [if_neg (by rw [h];decide),h2]
theorem any_getD {xs : List Int} (f : Int -> Bool) : (List.range xs.length).any (fun j => f (xs.getD j 0)) = xs.any f := by
 rw [Bool.eq_iff_iff,List.any_eq_true,List.any_eq_true]
 constructor
 ·rintro ⟨i,h1,h2⟩;exact ⟨_,List.mem_of_getElem? (xKx (List.mem_range.1 h1)),h2⟩
 ·rintro ⟨x,h1,h2⟩
  obtain ⟨i,hi,e⟩ := List.mem_iff_getElem.1 h1
  exact ⟨i,List.mem_range.2 hi,by rw [List.getD_eq_getElem?_getD,List.getElem?_eq_getElem hi];show f (xs[i]) = true;rw [e];exact h2⟩
set_option maxHeartbeats 2000000 in
set_option maxRecDepth 100000 in
theorem yzd {w : World} {Sh : Nat -> Prop} {p hp ap g mb n m : Nat} {D : DataW Unit} {v : PoolW} (k : PlAt w Sh p hp ap g mb n m D v) (o : PlOk n m v) (AI : Option Addr) (N cI : Nat) (xs : List Int) (hs : Sl w w.heap.size AI N (xs.map iv)) (hA : 0 < N -> ∀ a,AI = some a -> ¬ PlS Sh p ap g mb v.ks a.block) (hN : N <= 65536) (hx : ∀ x ∈ xs,in64 x) :
  Calls Tryz.prog 68 #[.pointer (some ⟨p,0,none⟩),.slice AI N cI] w (Gave w Sh p hp ap g mb n v xs) := by
 have hxl : xs.length = N := by have := hs.1;simpa using this
 have hmk := @run_makeMap Tryz.prog
 obtain ⟨W0,hW0⟩ : ∃ W0,W0 = ((w.alloc (.cells #[.pointer (some ⟨p,0,none⟩)] 26)).alloc (.map #[] 0)).alloc (.cells #[.map (some (w.heap.size + 1))] 213) := ⟨_,rfl⟩
 have hb0 : Below w.heap.size w W0 := by
  have b1 := (Below.refl w.heap.size w).alloc (Nat.le_refl _) (.cells #[.pointer (some ⟨p,0,none⟩)] 26)
  have b2 := b1.alloc b1.size (.map #[] 0)
  rw [hW0];exact b2.alloc b2.size _
 have hz0 : W0.heap.size = w.heap.size + 3 := by rw [hW0];simp
 have htc : W0.cell? ⟨w.heap.size,0,none⟩ = some (.pointer (some ⟨p,0,none⟩)) := by rw [hW0];exact xq1 _ (xq1 _ (World.cell?_alloc_at _ _ _ 0 (by simp)))
 have hsc : W0.cell? ⟨w.heap.size + 2,0,none⟩ = some (.map (some (w.heap.size + 1))) := by
  rw [hW0]
  have : w.heap.size + 2 = ((w.alloc (.cells #[.pointer (some ⟨p,0,none⟩)] 26)).alloc (.map #[] 0)).heap.size := by simp
  rw [this]
  exact World.cell?_alloc_at _ _ _ 0 (by simp)
 have hmp : W0.ownsMap Tryz.prog 3 boolR (w.heap.size + 1) 0 (.map []) := by
  have h1 : ((w.alloc (.cells #[.pointer (some ⟨p,0,none⟩)] 26)).alloc (.map #[] 0)).ownsMap Tryz.prog 3 boolR (w.heap.size + 1) 0 (.map []) := by
   have := World.ownsMap_made (w.alloc (.cells #[.pointer (some ⟨p,0,none⟩)] 26)) Tryz.prog 3 boolR
   rw [show (w.alloc (.cells #[.pointer (some ⟨p,0,none⟩)] 26)).heap.size = w.heap.size + 1 by simp] at this
   exact this
  rw [hW0]
  exact xq2 h1 (by rw [Below.heap_alloc _ _ _ (by simp)])
 have hplS : ∀ b,PlS Sh p ap g mb v.ks b -> b < w.heap.size := k.lt
 have k0 := k.below hb0
 have hs0 : Sl W0 W0.heap.size AI N (xs.map iv) := (hs.below hb0).more hb0.size
 have hAl : 0 < N -> ∀ a,AI = some a -> a.block < w.heap.size := fun hn a ha => by
  obtain ⟨b,off,e,hb,_⟩ := hs.2 hn
  rw [ha] at e
  injection e with e
  rw [e];exact hb
 have c1 := xWe (t := w.heap.size) (fun j => (cutAtP v.ks (xs.getD j 0)).isNone) (fun _ W => Below W0.heap.size W0 W) AI N cI xs W0 (Below.refl _ _) (fun j W hb => (hs0.below hb).more hb.size) (fun j z W hz hb => by
  have e : xs.getD j 0 = z := by rw [List.getD_eq_getElem?_getD,hz];rfl
  refine (xWh (k0.below hb) o w.heap.size ((hb.cell (p := ⟨w.heap.size,0,none⟩) (xq0 htc)).trans htc) z (hx z (List.mem_of_getElem? hz))).mono ?_
  rintro e2 w' ⟨rfl,hb2⟩
  exact ⟨by rw [e],hb.trans (hb2.mono hb.size)⟩) (by omega)
 have HC2 : Hid (∀ w1,Below W0.heap.size W0 w1 -> Calls Tryz.prog 103 #[.slice AI N cI,.func (.func 142) #[] #[.pointer (some ⟨w.heap.size + 2,0,none⟩),.pointer (some ⟨w.heap.size,0,none⟩)]] w1 fun e w' => e = .returned (.bool (gBad v.ks xs)) /\ w1.grownBy w' (some (w.heap.size + 1))) := hidb (fun w1 hb1 => by
  have k1 := k0.below hb1
  have hs1 : Sl w1 w1.heap.size AI N (xs.map iv) := (hs0.below hb1).more hb1.size
  have hsz1 := hb1.size
  have HP : ∀ W,w1.grownBy W (some (w.heap.size + 1)) -> PlAt W Sh p hp ap g mb n m D v := fun W hg => k1.keep (S' := fun b => b = w.heap.size + 1) ((Kept.refl _ w1).grown hg (fun b e => by injection e with e;exact Or.inl e.symm)) (fun b hb e => by have := hplS b hb;omega)
  have h0 : NamSt w1 w1 (w.heap.size + 2) w.heap.size (w.heap.size + 1) p 0 xs (.map []) := ⟨xq2 hmp (hb1.block _ hmp.lt),xZn,grownSelf _ _,(hb1.cell (p := ⟨w.heap.size + 2,0,none⟩) (xq0 hsc)).trans hsc,(hb1.cell (p := ⟨w.heap.size,0,none⟩) (xq0 htc)).trans htc,by omega,by omega⟩
  have c2 := xWg (s := w.heap.size + 2) (t := w.heap.size) (fun j => (xs.take j).contains (xs.getD j 0) || decide (orderP v.ks (xs.getD j 0) < 0)) (fun j W => j <= N /\ ∃ D',NamSt w1 W (w.heap.size + 2) w.heap.size (w.heap.size + 1) p j xs D') AI N cI xs w1 ⟨Nat.zero_le _,_,h0⟩ (fun j W ⟨_,D',hn⟩ => (hs1.beside hn.gr (fun hn2 a ha e => by have := hAl hn2 a ha;omega)).more hn.gr.size) (fun j z W hz ⟨hj,D',hn⟩ => by
   have e : xs.getD j 0 = z := by rw [List.getD_eq_getElem?_getD,hz];rfl
   have hjl := (List.getElem?_eq_some_iff.1 hz).1
   refine (xWi HP o hn (by omega) z hz (hx z (List.mem_of_getElem? hz))).mono ?_
   rintro e2 w' ⟨rfl,D3,hn3⟩
   exact ⟨by rw [e],by omega,D3,hn3⟩) (by omega)
  refine c2.mono ?_
  rintro e w' ⟨rfl,j,_,_,D',hn⟩
  refine ⟨?_,hn.gr⟩
  unfold gBad
  rw [hxl])
 replace c1 : Calls Tryz.prog 103 #[.slice AI N cI,.func (.func 141) #[] #[.pointer (some ⟨w.heap.size,0,none⟩)]] W0 fun e w' => e = .returned (.bool (xs.any fun x => (cutAtP v.ks x).isNone)) /\ Below W0.heap.size W0 w' := by
  refine c1.mono ?_
  rintro e w' ⟨rfl,j,_,hb⟩
  refine ⟨?_,hb⟩
  have := any_getD (xs := xs) (fun x => (cutAtP v.ks x).isNone)
  rw [hxl] at this
  rw [this]
 have hany : (xs.any fun x => (pOf v.plain.l x).isNone) = xs.any fun x => (cutAtP v.ks x).isNone := by
  congr 1
  funext x
  exact ykn v.ks x
 have HREF : Hid (∀ W,Below w.heap.size w W -> ∀ r : Int,gGive v.plain xs = (v.plain,r) -> Gave w Sh p hp ap g mb n v xs (.returned (.int .i64 r)) W) := hidb (fun W hb r e => ⟨r,v,rfl,⟨Sh,m,D,k.below hb,o,Kept.of_below hb _,fun b h => Or.inl h⟩,e,Stays.refl _ _⟩)
 have HB0 := hidb hb0
 have HW0 := hidb hW0
 have hmk2 : ∀ W,(Instr.makeMap 213 none).run Tryz.prog W = .ok (.map (some W.heap.size)) (W.alloc (.map #[] 0)) := fun W => by first | exact run_makeMap | exact hmk _ _ _ _ | (kernel_rfl)
 cases hb1 : (xs.any fun x => (cutAtP v.ks x).isNone) with
 | true =>
  rw [hb1] at c1 hany
  have HE : Hid (gGive v.plain xs = (v.plain,2)) := hidb (xWj hany)
  clear HC2 k0 o k hs hs0 hA hAl hmp hsc htc hW0 hz0 hany hb1
  go_enter Tryz.func68,Tryz.ntmps68
  go_wp2_with (first
   | (go_at_call 103;rw [<- HW0.out];(with_reducible refine c1.mono ?_);rintro e w1 ⟨rfl,hb1⟩;have P := hidb (HREF.out w1 (HB0.out.trans (hb1.mono HB0.out.size)) 2 HE.out)))
  go_ret
  exact P.out
 | false =>
  rw [hb1] at c1 hany
  have hnn : ∀ x ∈ xs,(cutAtP v.ks x).isNone = false := fun x hx => Bool.eq_false_iff.2 ((List.any_eq_false.1 hb1) x hx)
  have HG : Hid (∀ w1 w2,Below W0.heap.size W0 w1 -> w1.grownBy w2 (some (w.heap.size + 1)) -> GiveSt w w2 Sh p hp ap g mb n m w.heap.size D v AI N xs 0 v) := hidb (fun w1 w2 hb1 hg => by
   have hsz1 := hb1.size
   have hbw := hb0.trans (hb1.mono hb0.size)
   refine ⟨(k0.below hb1).keep (S' := fun b => b = w.heap.size + 1) ((Kept.refl _ w1).grown hg (fun b e => by injection e with e;exact Or.inl e.symm)) (fun b hb e => by have := hplS b hb;omega),o,PutSt.start v xs,⟨rfl,rfl⟩,(Kept.of_below hbw _).grown hg (fun b e => by injection e with e;exact Or.inr (by omega)),(((hs0.below hb1).more hsz1).beside hg (fun hn2 a ha e => by have := hAl hn2 a ha;omega)).more hg.size,?_,Stays.refl _ _⟩
   exact (World.cell?_of_block (w := w1) (a := ⟨w.heap.size,0,none⟩) (hg.block w.heap.size (by omega) (fun e => by have e2 := Option.some.inj e;omega))).trans ((hb1.cell (p := ⟨w.heap.size,0,none⟩) (xq0 htc)).trans htc))
  cases hb2 : gBad v.ks xs with
  | true =>
   rw [hb2] at HC2
   have HE : Hid (gGive v.plain xs = (v.plain,9)) := hidb (xWk hany (gBad_yes o hnn hb2))
   have HREF2 : Hid (∀ w1 w2,Below W0.heap.size W0 w1 -> w1.grownBy w2 (some (w.heap.size + 1)) -> Gave w Sh p hp ap g mb n v xs (.returned (.int .i64 9)) w2) := hidb (fun w1 w2 h1 h2 => by
    have hG := HG.out w1 w2 h1 h2
    exact ⟨9,v,rfl,⟨Sh,m,D,hG.pl,o,hG.kept,fun b h => Or.inl h⟩,HE.out,Stays.refl _ _⟩)
   clear HG k0 o k hs hs0 hA hAl hmp hsc htc hW0 hz0 hany hb1 hb2 hnn HREF
   go_enter Tryz.func68,Tryz.ntmps68
   go_wp2_with (first
    | (go_at_call 103;rw [<- HW0.out];(with_reducible refine c1.mono ?_);rintro e w1 ⟨rfl,hb1⟩;have c2 := HC2.out w1 hb1)
    | (go_at_call 103;(with_reducible refine c2.mono ?_);rintro e w2 ⟨rfl,hg2⟩;have P := hidb (HREF2.out w1 w2 hb1 hg2)))
   go_ret
   exact P.out
  | false =>
   rw [hb2] at HC2
   have hgd : ∀ (j : Nat) x,xs[j]? = some x -> (xs.take j).contains x = false /\ decide (orderP v.ks x < 0) = false := fun j x hj => by
    unfold gBad at hb2
    have h1 := (List.any_eq_false.1 hb2) j (List.mem_range.2 (List.getElem?_eq_some_iff.1 hj).1)
    have e : xs.getD j 0 = x := by rw [List.getD_eq_getElem?_getD,hj];rfl
    rw [e] at h1
    simpa [Bool.or_eq_false_iff] using h1
   have hok := k.hp_.ok
   have htS : ¬ PlS Sh p ap g mb v.ks w.heap.size := fun h => Nat.lt_irrefl _ (hplS _ h)
   have hgl := k.ar.lt
   have HRD : Hid (∀ wr j v2 x,GiveSt w wr Sh p hp ap g mb n m w.heap.size D v AI N xs j v2 -> xs[j]? = some x -> ∃ (cb : Nat) (c1 c2 : Int) (c' : Int × Int),Calls Tryz.prog 78 #[.pointer (some ⟨p,0,none⟩),.int .i64 x] wr (fun e w' => e = .returned (.pointer (some ⟨cb,0,none⟩)) /\ Below wr.heap.size wr w') /\
     (∀ W,Below wr.heap.size wr W -> W.cell? ⟨cb,4,none⟩ = some (.int .i64 c1) /\ W.cell? ⟨cb,5,none⟩ = some (.int .i64 c2) /\ W.cell? ⟨p,1,none⟩ = some (.pointer (some ⟨ap,0,none⟩)) /\ ∀ A d,Sl W W.heap.size A 1 ([x].map iv) -> (∀ a,A = some a -> w.heap.size <= a.block) -> Calls Tryz.prog 143 #[.pointer (some ⟨ap,0,none⟩),.agg #[.int .i64 c1,.int .i64 c2],.slice A 1 d] W fun e w' => e = .returned (.tuple #[.agg #[.int .i64 c'.1,.int .i64 c'.2],.int .i64 0]) /\
      (w'.cell? ⟨cb,4,none⟩ = some (.int .i64 c1) /\ w'.cell? ⟨cb,5,none⟩ = some (.int .i64 c2) /\ w'.frozen? ⟨cb,4,none⟩ = false /\ w'.frozen? ⟨cb,5,none⟩ = false) /\ ∃ v3,GiveSt w ((w'.setCell ⟨cb,4,none⟩ (.int .i64 c'.1)).setCell ⟨cb,5,none⟩ (.int .i64 c'.2)) Sh p hp ap g mb n m w.heap.size D v AI N xs (j + 1) v3)) := hidb (fun wr j v2 x hG hxj => by
    obtain ⟨h1,h2⟩ := hgd j x hxj
    obtain ⟨c,i,e1,e2,e3,e4,e5⟩ := PutSt.step o hok hG.put hxj (hnn x (List.mem_of_getElem? hxj)) h1 h2
    have hcm := List.mem_of_getElem? e2
    have cc := xvi hG.pl hG.ok x (hx x (List.mem_of_getElem? hxj))
    rw [e1,Option.map_some,show ptrv (some c.b) = .pointer (some ⟨c.b,0,none⟩) from rfl] at cc
    have hrange := hG.ok.block_range hG.pl.hp_.ok hcm e4
    have hwl : v2.ws.length = n := hG.pl.ar.hlen
    obtain ⟨ws',c',q1,q2,q3,q4,q5⟩ := xXm (hG.ok.lst c hcm) (m := [x]) (by
     rw [List.singleton_append]
     exact List.nodup_cons.2 ⟨e3,(xqs (hG.ok.lst c hcm) (by rw [hwl];exact hG.pl.ar.small)).2.2.2.2.1⟩) (fun y hy => by
     obtain rfl := List.mem_singleton.1 hy
     rw [hwl];exact hrange) hG.ok.wide (by rw [hwl];exact hG.pl.ar.small)
    have hcbS : PlS Sh p ap g mb v.ks c.b := yqp hG.put.bs (Or.inr (Or.inr (Or.inr (Or.inr (Or.inr ⟨c,hcm,rfl⟩)))))
    refine ⟨c.b,c.c.1,c.c.2,c',cc,fun W hb => ?_⟩
    have hGW := hG.below hb
    have hcW := hGW.pl.cuts c hcm
    refine ⟨hcW.c4,hcW.c5,hGW.pl.c1,fun A d hsl hAa => ?_⟩
    obtain ⟨_,r2,r3,_⟩ := xqs (hG.ok.lst c hcm) (by rw [hwl];exact hG.pl.ar.small)
    have cp := xXj hGW.pl.ar c.c.1 c.c.2 r2 r3 hG.ok.wide A 1 d [x] hsl (fun _ a ha e => by have := hAa a ha;omega) (by omega) (fun y hy => by
     obtain rfl := List.mem_singleton.1 hy
     exact hx _ (List.mem_of_getElem? hxj))
    rw [show cPush v2.ws (c.c.1,c.c.2) [x] = (ws',c',0) from q1] at cp
    refine cp.mono ?_
    rintro e w' ⟨rfl,ha,hg⟩
    have hp' := hGW.pl.words hg ha
    have hcw := hp'.cuts c hcm
    refine ⟨rfl,⟨hcw.c4,hcw.c5,hcw.fz 4,hcw.fz 5⟩,_,hGW.next (hA (by have := (List.getElem?_eq_some_iff.1 hxj).1;omega)) htS hcbS ?_ (hp'.chain (i := i) (c := c) e2 c'.1 c'.2 (x :: c.l)) ?_ (e5 _) ⟨rfl,rfl⟩ (hG.st.trans (T' := (· ∈ [x])) (fun c9 l9 h9 hn9 => q5 c9 l9 h9 fun z hz hzl => hn9 z hzl hz) (fun _ h => h) (fun z hz => by obtain rfl := List.mem_singleton.1 hz;exact List.mem_of_getElem? hxj))⟩
    ·exact ((((Kept.refl (fun b => b = g \/ b = c.b) W).grown hg (fun b e => by injection e with e;exact Or.inl (Or.inl e.symm)))).set (a := ⟨c.b,4,none⟩) (Or.inl (Or.inr rfl)) _).set (a := ⟨c.b,5,none⟩) (Or.inl (Or.inr rfl)) _
    ·exact hG.ok.chain hG.pl.nd e2 q4 q2 (fun y hy => by
      rcases List.mem_cons.1 hy with rfl | hy
      ·exact e4
      ·exact hG.ok.sub c hcm y hy) (fun y hy hne => q5 _ _ (hG.ok.lst y hy) (fun z hz hzy => by
      obtain rfl := List.mem_singleton.1 hz
      exact hne (by rw [hG.ok.blocks_apart hG.pl.hp_.ok hcm hy e4 (hG.ok.sub y hy z hzy)]))))
   clear HREF k0 k hs hs0 hmp hsc htc hW0 hz0 hb1 hb2 hnn hgd HB0 hok hA htS hgl
   have HANY := hidb hany
   have HEND : Hid (∀ wr v2 w5,GiveSt w wr Sh p hp ap g mb n m w.heap.size D v AI N xs N v2 -> Trimmed wr Sh p hp ap g mb n m v2 (.returned (.tuple #[])) w5 -> Gave w Sh p hp ap g mb n v xs (.returned (.int .i64 0)) w5) := hidb (fun wr v2 w5 hG hT => by
    have h1 := hT.went
    refine ⟨0,_,rfl,Went.trans (v' := v2) hG.kept (fun b hb => Or.inl (yqp hG.put.bs hb)) h1,?_,by rw [trimV_ws];exact hG.st⟩
    have h2 := hG.put.puts
    rw [List.take_of_length_le (by omega)] at h2
    rw [ykt HANY.out h2,hG.ok.trim_plain (by rw [hG.pl.ar.hlen];exact hG.pl.ar.small)]
    unfold PoolW.plain
    rw [hG.hh.1,hG.hh.2])
   clear hany hplS hAl o hb0
   go_enter Tryz.func68,Tryz.ntmps68
   go_wp2_with (first
    | (go_at_call 103;rw [<- HW0.out];(with_reducible refine c1.mono ?_);rintro e w1 ⟨rfl,hb1⟩;have c2 := HC2.out w1 hb1)
    | (go_at_call 103;(with_reducible refine c2.mono ?_);rintro e w2 ⟨rfl,hg2⟩;have HG0 := hidb (HG.out w1 w2 hb1 hg2)))
   clear hg2 hb1 c2 c1 HC2 HG hmk hmk2
   go_loopw [7,8,20] (fun _ _ s20 wr => ∃ (j : Nat) (v2 : PoolW),s20 = .int .i64 j /\ j <= N /\ Hid (GiveSt w wr Sh p hp ap g mb n m w.heap.size D v AI N xs j v2)) (fun _ _ s20 _ => (N - intOf s20).toNat)
   case atStart => exact ⟨0,v,rfl,by omega,HG0⟩
   case round =>
    obtain ⟨j,v2,rfl,hj,HGS⟩ := hrel
    by_cases hlt : j < N
    ·obtain ⟨b,off,x,rfl,hxj,hc⟩ := HGS.out.sl.int_ hlt
     obtain ⟨cb,c1,c2,c',hcut1,hpush⟩ := HRD.out wr j v2 x HGS.out hxj
     have HPU := hidb hpush
     have tc := HGS.out.tc
     have HTC : Hid (∀ W,Below wr.heap.size wr W -> W.cell? ⟨w.heap.size,0,none⟩ = some (.pointer (some ⟨p,0,none⟩))) := hidb (fun W hb => (HGS.out.below hb).tc)
     have hj0 : (0 : Int) <= (j : Int) := by omega
     have hj1 : (j : Int) < (N : Int) := by omega
     clear hpush hxj
     go_wp2_with (first
      | (go_at_call 78;(with_reducible refine hcut1.mono ?_);rintro e w3 ⟨rfl,hb3⟩;obtain ⟨d4,d5,d1,_⟩ := HPU.out w3 hb3;have tc3 := HTC.out w3 hb3))
     have hbW : Below wr.heap.size wr ((w3.alloc (.cells #[.int .i64 x] 3)).drew) := (hb3.alloc hb3.size _).drew
     obtain ⟨_,_,_,cpu⟩ := HPU.out _ hbW
     have cp := cpu (some ⟨w3.heap.size,0,none⟩) 1 (Sl.oneI w3 x 3) (fun a ha => by
      injection ha with ha
      subst ha
      have h1 := hb3.size
      have h2 := HGS.out.kept.size
      show w.heap.size <= w3.heap.size
      omega)
     have z4 := xq1 (.cells #[.int .i64 x] 3) d4
     have z5 := xq1 (.cells #[.int .i64 x] 3) d5
     have z1 := xq1 (.cells #[.int .i64 x] 3) d1
     have zt := xq1 (.cells #[.int .i64 x] 3) tc3
     clear cpu hbW HPU HTC tc hc hcut1
     go_region_law (first | (go_simp;go_at_call 143;(with_reducible refine cp.mono ?_);rintro e w7 ⟨rfl,⟨e4,e5,f4,f5⟩,v3,hG7⟩;have HG7 := hidb hG7;clear hG7))
     all_goals go_wp2
     all_goals go_roundw
     all_goals first
      | exact ⟨j + 1,v3,by go_num,by omega,HG7⟩
      | (simp [intOf];omega)
    ·obtain rfl : j = N := by omega
     have ct := xXk HGS.out.pl HGS.out.ok
     have tc := HGS.out.tc
     have HT : Hid (∀ w5,Trimmed wr Sh p hp ap g mb n m v2 (.returned (.tuple #[])) w5 -> Gave w Sh p hp ap g mb n v xs (.returned (.int .i64 0)) w5) := hidb (fun w5 h => HEND.out wr v2 w5 HGS.out h)
     clear HEND HRD HG0
     go_wp2_with (go_at_call 144;(with_reducible refine ct.mono ?_);rintro e w5 ht;have he := ht.1;subst he;have P := hidb (HT.out w5 ht);clear ht)
     go_ret
     exact P.out
end Go.Proofs.YtlcdgmjinhbncaaGreat
