import Derived.Test.YtlcdgmjinhbncaaGreatRRowWords
import Derived.Test.YtlcdgmjinhbncaaGreatRRunsBase
import Derived.Test.YtlcdgmjinhbncaaGreatRPlain7
import Derived.Deep.Onto
import Derived.Lib.Builder
namespace Go.Proofs.YtlcdgmjinhbncaaGreat
open Go.RowKit
set_option linter.unusedVariables false
def scells (y : Int × Int × Int × Int) : List Value := [iv y.1,iv y.2.1,iv y.2.2.1,iv y.2.2.2]
theorem xqg : ∀ y,(scells y).length = 4 := fun _ => rfl
def Sn (w : World) (B : Nat) (A : Option Addr) (n : Nat) (l : List (Int × Int × Int × Int)) : Prop := RowOf (fun cs y => cs = scells y) 4 w B A n l
theorem Sn.span {w : World} {B n : Nat} {A : Option Addr} {l : List (Int × Int × Int × Int)} {j : Nat} (h : Sn w B A n l) (hj : j < n) :
  ∃ b off i s k o,A = some ⟨b,off,none⟩ /\ l[j]? = some (i,s,k,o) /\ w.cell? ⟨b,off + j * 4,none⟩ = some (.int .i64 i) /\ w.cell? ⟨b,off + j * 4 + 1,none⟩ = some (.int .i64 s) /\ w.cell? ⟨b,off + j * 4 + 2,none⟩ = some (.int .i64 k) /\ w.cell? ⟨b,off + j * 4 + 3,none⟩ = some (.int .i64 o) := by
 obtain ⟨b,off,y,cs,e,_,hy,_,hc,rfl⟩ := RowOf.at_ h hj
 exact ⟨b,off,y.1,y.2.1,y.2.2.1,y.2.2.2,e,hy,hc 0 (by omega),hc 1 (by omega),hc 2 (by omega),hc 3 (by omega)⟩
theorem xjf : (Tryz.prog.info? 49).map (fun i => (i.zero,i.size,i.bytes)) = some (some (.agg #[.int .i64 0,.int .i64 0,.int .i64 0,.int .i64 0]),4,32) := by kernel_rfl
def hval (p : Int) (A : Option Addr) (n c : Nat) (A2 : Option Addr) (n2 c2 : Nat) (last : Int) : Value := .agg #[.int .i64 p,.slice A n c,.slice A2 n2 c2,.int .i64 last]
theorem yjw (p last : Int) (A A2 : Option Addr) (n c n2 c2 : Nat) (l : List (Int × Int × Int × Int)) (id : Int) (w : World) (hs : Sn w w.heap.size A2 n2 l) (hn : n2 <= 65536) :
  Calls Tryz.prog 233 #[.agg #[.int .i64 p,.slice A n c,.slice A2 n2 c2,.int .i64 last],.int .i64 id] w fun e w' => e = .returned (.int .i64 (hFind l id)) /\ Below w.heap.size w w' := by
 have l1 : l.length = n2 := hs.1
 have L1 := hidb l1
 obtain ⟨W,hW⟩ : ∃ W,W = w.alloc (.cells #[.int .i64 p,.slice A n c,.slice A2 n2 c2,.int .i64 last] 32) := ⟨_,rfl⟩
 have HS : Hid (Sn W w.heap.size A2 n2 l) := hidb (by rw [hW];exact RowOf.alloc hs (Nat.le_refl _) _)
 have HB : Hid (Below w.heap.size w W) := hidb (by rw [hW];exact (Below.refl _ _).alloc (Nat.le_refl _) _)
 have q2 : W.cell? ⟨w.heap.size,2,none⟩ = some (.slice A2 n2 c2) := by rw [hW];simp
 have HW := hidb hW
 clear hs hW l1
 go_enter Tryz.func233,Tryz.ntmps233
 go_wp2
 rw [<- HW.out]
 go_loop [9] (fun k => ∃ j : Nat,j <= n2 /\ Hid (∀ i,i < j -> ∀ y,l[i]? = some y -> (y.1 == id) = false) /\ k = .int .i64 j) (fun k => (n2 - intOf k).toNat)
 case atStart => exact ⟨0,by omega,hidb (fun i h => absurd h (Nat.not_lt_zero _)),rfl⟩
 case round =>
  obtain ⟨j,hj,HA,rfl⟩ := hrel
  by_cases hlt : j < n2
  ·obtain ⟨b,off,i,s,k,o,rfl,hx,hc,_,_,_⟩ := HS.out.span hlt
   have hi0 : (0 : Int) <= (j : Int) := by omega
   have hi1 : (j : Int) < (n2 : Int) := by omega
   cases he : (i == id) with
   | true =>
    have E : Hid (hFind l id = (j : Int)) := hidb (by
     unfold hFind
     rw [xzw (fun s => s.1 == id) l j HA.out (fun y hy => by rw [hx] at hy;injection hy with hy;subst hy;exact he) (by rw [L1.out];exact hlt)];rfl)
    clear hx
    go_wp2
    go_ret
    exact ⟨by rw [E.out];rfl,HB.out⟩
   | false =>
    have H2 : Hid (∀ i',i' < j + 1 -> ∀ y,l[i']? = some y -> (y.1 == id) = false) := hidb (fun i' h y hy => by
     by_cases h3 : i' = j
     ·subst h3;rw [hx] at hy;injection hy with hy;subst hy;exact he
     ·exact HA.out i' (by omega) y hy)
    clear hx
    go_wp2
    go_round
    case rel => exact ⟨j + 1,by omega,H2,by go_num⟩
    case measure => simp [intOf];omega
  ·have E : Hid (hFind l id = -1) := hidb (by
    unfold hFind
    rw [xjb (fun s => s.1 == id) l (fun i y hy => HA.out i (by have := (List.getElem?_eq_some_iff.1 hy).1;have := L1.out;omega) y hy)];rfl)
   go_wp2
   go_ret
   exact ⟨by rw [E.out];rfl,HB.out⟩
theorem yqb (a b c d a2 b2 c2 d2 : Int) (W : World) : (binOp .neq 49 (.agg #[.int .i64 a,.int .i64 b,.int .i64 c,.int .i64 d]) (.agg #[.int .i64 a2,.int .i64 b2,.int .i64 c2,.int .i64 d2])).run Tryz.prog W = .ok (.bool (!(decide ((a,b,c,d) = (a2,b2,c2,d2))))) W := by
 simp [go_sem]
 by_cases h1 : a = a2 <;> by_cases h2 : b = b2 <;> by_cases h3 : c = c2 <;> by_cases h4 : d = d2 <;> simp [h1,h2,h3,h4]
theorem yjx (A A2 : Option Addr) (n c m d : Nat) (xs ys : List (Int × Int × Int × Int)) (w : World) (B B2 : Nat) (hs : Sn w B A n xs) (hs2 : Sn w B2 A2 m ys) (hn : n <= 9223372036854775806) (hm : m <= 9223372036854775806) :
  Calls Tryz.prog 24 #[.slice A n c,.slice A2 m d] w fun e w' => e = .returned (.bool (decide (xs = ys))) /\ ∃ q,w' = w.drewN q := by
 have l1 : xs.length = n := hs.1
 have l2 : ys.length = m := hs2.1
 by_cases hnm : n = m
 ·subst hnm
  have L1 := hidb l1
  have L2 := hidb l2
  have HS := hidb hs
  have HS2 := hidb hs2
  clear hs hs2 l1 l2
  go_enter Tryz.func24,Tryz.ntmps24
  go_wp2
  go_loopw [13] (fun k wr => ∃ j q : Nat,j <= n /\ Hid (∀ i,i < j -> xs[i]? = ys[i]?) /\ k = .int .i64 j /\ wr = w.drewN q) (fun k _ => (n - intOf k).toNat)
  case atStart => exact ⟨0,0,by omega,hidb (fun i h => absurd h (Nat.not_lt_zero _)),rfl,rfl⟩
  case round =>
   obtain ⟨j,q,hj,HA,rfl,rfl⟩ := hrel
   by_cases hlt : j < n
   ·obtain ⟨b,off,a1,a2,a3,a4,rfl,hx,ha1,ha2,ha3,ha4⟩ := HS.out.span hlt
    obtain ⟨b2,off2,e1,e2,e3,e4,rfl,hy,he1,he2,he3,he4⟩ := HS2.out.span hlt
    have HX := hidb hx
    have HY := hidb hy
    clear hx hy
    have hi0 : (0 : Int) <= (j : Int) := by omega
    have hi1 : (j : Int) < (n : Int) := by omega
    have hq := fun W => yqb a1 a2 a3 a4 e1 e2 e3 e4 W
    cases hc : decide ((a1,a2,a3,a4) = (e1,e2,e3,e4)) with
    | true =>
     rw [hc] at hq
     have HC := hidb (of_decide_eq_true hc)
     clear hc
     go_wp2
     go_quiet (fail)
     go_wp2
     go_roundw
     case rel =>
      refine ⟨j + 1,_,by omega,hidb (fun i hi => ?_),by go_num,rfl⟩
      by_cases h : i = j
      ·subst h;rw [HX.out,HY.out,HC.out]
      ·exact HA.out i (by omega)
     case measure => simp [intOf];omega
    | false =>
     rw [hc] at hq
     have HF : Hid (decide (xs = ys) = false) := hidb (decide_eq_false (fun h => of_decide_eq_false hc (by have := HX.out;rw [h,HY.out] at this;injection this with this;exact this.symm)))
     clear hc
     go_wp2
     go_quiet (fail)
     go_wp2
     go_ret
     exact ⟨by rw [HF.out];rfl,_,World.drewN_drewN _ _ _⟩
   ·have HF : Hid (decide (xs = ys) = true) := hidb (decide_eq_true (List.ext_getElem? (fun i => by
     by_cases h : i < n
     ·exact HA.out i (by omega)
     ·rw [List.getElem?_eq_none (by rw [L1.out];omega),List.getElem?_eq_none (by rw [L2.out];omega)])))
    go_wp2
    go_ret
    exact ⟨by rw [HF.out];rfl,_,rfl⟩
 ·have HF : Hid (decide (xs = ys) = false) := hidb (decide_eq_false (fun h => hnm (by rw [<- l1,<- l2,h])))
  have eb : ((n : Int) != (m : Int)) = true := by simp;omega
  clear hs hs2 l1 l2
  go_enter Tryz.func24,Tryz.ntmps24
  go_wp2
  go_ret
  exact ⟨by rw [HF.out];rfl,0,rfl⟩
def OwnSpans (w : World) (l : List (Int × Int × Int × Int)) (e : Ending) (w' : World) : Prop := ∃ A c,e = .returned (.slice A l.length c) /\ w'.ownsRow w.heap.size 49 4 (.slice A l.length c) l.length (cellsAll scells l) /\ Below w.heap.size w w'
theorem yxs (l : List (Int × Int × Int × Int)) (q : Nat) : (List.range (q + 1)).flatMap (fun (p : Nat) => l.filter fun s => s.2.1 == (p : Int)) = (List.range q).flatMap (fun (p : Nat) => l.filter fun s => s.2.1 == (p : Int)) ++ l.filter fun s => s.2.1 == (q : Int) := by
 rw [List.range_succ,List.flatMap_append,List.flatMap_singleton]
set_option maxHeartbeats 1000000 in
set_option maxRecDepth 100000 in
theorem yxt (P : Nat) (last : Int) (A A2 : Option Addr) (n c n2 c2 : Nat) (f : List Bool) (l : List (Int × Int × Int × Int)) (w : World) (hs : Sn w w.heap.size A2 n2 l) (hn : n2 <= 65536) (hP : P <= 1024) :
  Calls Tryz.prog 26 #[.agg #[.int .i64 (P : Int),.slice A n c,.slice A2 n2 c2,.int .i64 last]] w (OwnSpans w (hSpans ⟨P,f,l,last⟩)) := by
 obtain ⟨i0,hi,hz0,hz1,hz2⟩ := info_parts xjf
 have l1 : l.length = n2 := hs.1
 have L1 := hidb l1
 have E0 : Hid (hSpans ⟨P,f,l,last⟩ = (List.range P).flatMap (fun (p : Nat) => l.filter fun s => s.2.1 == (p : Int))) := hidb (by unfold hSpans;simp)
 rw [E0.out]
 obtain ⟨W,hW⟩ : ∃ W,W = w.alloc (.cells #[.int .i64 (P : Int),.slice A n c,.slice A2 n2 c2,.int .i64 last] 32) := ⟨_,rfl⟩
 have HS : Hid (Sn W w.heap.size A2 n2 l) := hidb (by rw [hW];exact RowOf.alloc hs (Nat.le_refl _) _)
 have HB : Hid (Below w.heap.size w W) := hidb (by rw [hW];exact (Below.refl _ _).alloc (Nat.le_refl _) _)
 have hWs : W.heap.size = w.heap.size + 1 := by rw [hW];simp
 have q0 : W.cell? ⟨w.heap.size,0,none⟩ = some (.int .i64 (P : Int)) := by rw [hW];simp
 have q2 : W.cell? ⟨w.heap.size,2,none⟩ = some (.slice A2 n2 c2) := by rw [hW];simp
 have HQ : Hid (∀ W',Below W.heap.size W W' -> W'.cell? ⟨w.heap.size,0,none⟩ = some (.int .i64 (P : Int)) /\ W'.cell? ⟨w.heap.size,2,none⟩ = some (.slice A2 n2 c2)) := hidb (fun W' hb => ⟨(hb.cell (p := ⟨w.heap.size,0,none⟩) (by show w.heap.size < W.heap.size;omega)).trans q0,(hb.cell (p := ⟨w.heap.size,2,none⟩) (by show w.heap.size < W.heap.size;omega)).trans q2⟩)
 have HW := hidb hW
 clear hs hW l1 q0 q2
 go_enter Tryz.func26,Tryz.ntmps26
 go_wp2
 rw [<- HW.out]
 go_loopw [3,4] (fun v k wr => ∃ (q : Nat) (d : List (Int × Int × Int × Int)),q <= P /\ k = .int .i64 q /\ Hid (d = (List.range q).flatMap (fun (p : Nat) => l.filter fun s => s.2.1 == (p : Int))) /\ d.length <= q * 65536 /\ wr.ownsRow W.heap.size 49 4 v d.length (cellsAll scells d) /\ Below W.heap.size W wr) (fun _ k _ => (P - intOf k).toNat)
 case atStart => exact ⟨0,[],by omega,rfl,hidb rfl,Nat.zero_le _,by have h := World.ownsRow_made (base := W.heap.size) (e := 49) (size := 4) W #[] 0 (Nat.le_refl _) (by unfold maxLen;omega) rfl;rw [hWs] at h ⊢;exact h,(Below.refl _ _).alloc (Nat.le_refl _) _⟩
 case round =>
  obtain ⟨q,d,hq,rfl,HD,hdl,hown,hbel⟩ := hrel
  obtain ⟨c0,c2'⟩ := HQ.out _ hbel
  by_cases hlt : q < P
  ·have HOWN := hidb hown
   have HBEL := hidb hbel
   clear hown hbel
   obtain ⟨wo,rfl⟩ : ∃ wo : World,wo = wr := ⟨_,rfl⟩
   go_wp2
   go_loopw [3,16] (fun v k wr => ∃ (j : Nat) (d2 : List (Int × Int × Int × Int)),j <= n2 /\ k = .int .i64 j /\ Hid (d2 = d ++ (l.take j).filter fun s => s.2.1 == (q : Int)) /\ d2.length <= q * 65536 + j /\ wr.ownsRow W.heap.size 49 4 v d2.length (cellsAll scells d2) /\ Below W.heap.size W wr) (fun _ k _ => (n2 - intOf k).toNat)
   case atStart => exact ⟨0,d,Nat.zero_le _,rfl,hidb (by simp),Nat.le_trans hdl (Nat.le_add_right _ _),HOWN.out,HBEL.out⟩
   case round =>
    obtain ⟨j,d2,hj,rfl,HD2,hdl2,hown,hbel⟩ := hrel
    obtain ⟨c0,c2''⟩ := HQ.out _ hbel
    have hbsz := hbel.size
    by_cases hlt2 : j < n2
    ·obtain ⟨b,off,i,s,k,o,rfl,hx,hc0,hc1,hc2,hc3⟩ := Sn.span (RowOf.below HS.out (hbel.mono (by omega))) hlt2
     have hi0 : (0 : Int) <= (j : Int) := by omega
     have hi1 : (j : Int) < (n2 : Int) := by omega
     have htk : l.take (j + 1) = l.take j ++ [(i,s,k,o)] := by rw [List.take_add_one,hx];rfl
     cases he : (s == (q : Int)) with
     | true =>
      have H2 : Hid (d2 ++ [(i,s,k,o)] = d ++ (l.take (j + 1)).filter fun s => s.2.1 == (q : Int)) := hidb (by
       rw [htk,List.filter_append,<- List.append_assoc,<- HD2.out]
       congr 1
       simp [he])
      have HBEL2 := hidb hbel
      clear hx htk hbel
      obtain ⟨wp,rfl⟩ : ∃ wp : World,wp = wr := ⟨_,rfl⟩
      go_wp2_with (at_builtin;refine xjw wp rfl _ _ 30 rfl W.heap.size 49 i0 (.agg #[.int .i64 0,.int .i64 0,.int .i64 0,.int .i64 0]) 4 32 Tryz.underlying30 hi hz0 hz1 hz2 rfl (by decide) _ _ _ rfl (by exact hown) hbsz #[.int .i64 i,.int .i64 s,.int .i64 k,.int .i64 o] rfl (by simp [Value.oneCell']) _ rfl (by unfold maxLen;omega) (by omega) ?_;intro v1 w1 hown1 hb1)
      have HO : Hid (w1.ownsRow W.heap.size 49 4 v1 (d2 ++ [(i,s,k,o)]).length (cellsAll scells (d2 ++ [(i,s,k,o)]))) := hidb (by rw [List.length_append,xq7,xx6];exact hown1)
      have HB1 := hidb hb1
      have hl3 : (d2 ++ [(i,s,k,o)]).length = d2.length + 1 := by simp
      clear hown1 hb1 hown
      go_roundw
      case rel => exact ⟨j + 1,d2 ++ [(i,s,k,o)],by omega,by go_num,H2,by rw [hl3];omega,HO.out,HBEL2.out.trans HB1.out⟩
      case measure => simp [intOf];omega
     | false =>
      have H2 : Hid (d2 = d ++ (l.take (j + 1)).filter fun s => s.2.1 == (q : Int)) := hidb (by
       rw [htk,List.filter_append,<- List.append_assoc,<- HD2.out]
       simp [he])
      have HO := hidb hown
      have HBEL2 := hidb hbel
      clear hx htk hown hbel
      go_wp2
      go_roundw
      case rel => exact ⟨j + 1,d2,by omega,by go_num,H2,by omega,HO.out,HBEL2.out⟩
      case measure => simp [intOf];omega
    ·have H2 : Hid (d2 = (List.range (q + 1)).flatMap (fun (p : Nat) => l.filter fun s => s.2.1 == (p : Int))) := hidb (by
      rw [yxs,<- HD.out,HD2.out,List.take_of_length_le (by rw [L1.out];omega)])
     have HO := hidb hown
     have HBEL2 := hidb hbel
     clear hown hbel
     go_wp2
     go_roundw
     case rel => exact ⟨q + 1,d2,by omega,by go_num,H2,by omega,HO.out,HBEL2.out⟩
     case measure => simp [intOf];omega
  ·have hqP : q = P := by omega
   have Pf : Hid (OwnSpans w ((List.range P).flatMap (fun (p : Nat) => l.filter fun s => s.2.1 == (p : Int))) (.returned u3) wr) := hidb (by
    rw [<- hqP,<- HD.out]
    obtain ⟨A',c',rfl⟩ := xj5 hown
    exact ⟨A',c',rfl,hown.mono (by omega),HB.out.trans (hbel.mono (by omega))⟩)
   clear hown hbel hqP
   go_wp2
   go_ret
   exact Pf.out
def InP (P : Nat -> Prop) (A : Option Addr) : Prop := ∀ a,A = some a -> P a.block
theorem InP.none_ {P : Nat -> Prop} : InP P none := fun a h => by cases h
def HIs (w : World) (P : Nat -> Prop) (h : HeapV) (v : Value) : Prop := ∃ A c A2 c2,v = .agg #[.int .i64 h.pages,.slice A h.free.length c,.slice A2 h.l.length c2,.int .i64 h.last] /\ h.free.length <= c /\ c <= 9223372036854775807 /\ (A = none -> c = 0) /\ Sl w w.heap.size A h.free.length (h.free.map bv) /\
 h.l.length <= c2 /\ c2 <= 9223372036854775807 /\ (A2 = none -> c2 = 0) /\ Sn w w.heap.size A2 h.l.length h.l /\ InP P A /\ InP P A2 /\ InP (· < w.heap.size) A2
theorem yqc (w : World) (P : Nat -> Prop) : HIs w P hNone (.agg #[.int .i64 0,.slice none 0 0,.slice none 0 0,.int .i64 0]) := ⟨none,0,none,0,rfl,Nat.le_refl _,by omega,fun _ => rfl,Sl.nil_,Nat.le_refl _,by omega,fun _ => rfl,RowOf.nil_,InP.none_,InP.none_,InP.none_⟩
theorem HIs.below {w w' : World} {P : Nat -> Prop} {h : HeapV} {v : Value} (hv : HIs w P h v) (hb : Below w.heap.size w w') : HIs w' P h v := by
 obtain ⟨A,c,A2,c2,e,h1,h2,h3,h4,h5,h6,h7,h8,h9,h10,h11⟩ := hv
 exact ⟨A,c,A2,c2,e,h1,h2,h3,(h4.below hb).more hb.size,h5,h6,h7,(RowOf.below h8 hb).more hb.size,h9,h10,fun a ha => Nat.lt_of_lt_of_le (h11 a ha) hb.size⟩
theorem xve (w : World) (cs : Array Value) (e : TypeId) (j : Nat) : (w.alloc (.cells cs e)).frozen? ⟨w.heap.size,j,none⟩ = false := by
 have h : (w.alloc (.cells cs e)).heap[w.heap.size]? = some (.cells cs e (0,0)) := by
  show (w.heap.push _)[w.heap.size]? = _
  simp
 exact Lib.frozen_of_heap h j
theorem xqy (w : World) (b : Nat) (u0 u1 u2 u3 x0 x1 x2 x3 : Value) (h0 : w.cell? ⟨b,0,none⟩ = some x0) (h1 : w.cell? ⟨b,1,none⟩ = some x1) (h2 : w.cell? ⟨b,2,none⟩ = some x2) (h3 : w.cell? ⟨b,3,none⟩ = some x3) :
  ((((w.setCell ⟨b,0,none⟩ u0).setCell ⟨b,1,none⟩ u1).setCell ⟨b,2,none⟩ u2).setCell ⟨b,3,none⟩ u3).cell? ⟨b,0,none⟩ = some u0 /\ ((((w.setCell ⟨b,0,none⟩ u0).setCell ⟨b,1,none⟩ u1).setCell ⟨b,2,none⟩ u2).setCell ⟨b,3,none⟩ u3).cell? ⟨b,1,none⟩ = some u1 /\
  ((((w.setCell ⟨b,0,none⟩ u0).setCell ⟨b,1,none⟩ u1).setCell ⟨b,2,none⟩ u2).setCell ⟨b,3,none⟩ u3).cell? ⟨b,2,none⟩ = some u2 /\ ((((w.setCell ⟨b,0,none⟩ u0).setCell ⟨b,1,none⟩ u1).setCell ⟨b,2,none⟩ u2).setCell ⟨b,3,none⟩ u3).cell? ⟨b,3,none⟩ = some u3 := by
 have o : ∀ (w : World) (i j : Nat) (v : Value),i ≠ j -> (w.setCell ⟨b,i,none⟩ v).cell? ⟨b,j,none⟩ = w.cell? ⟨b,j,none⟩ := fun w i j v h => World.cell?_setCell_other w _ _ _ (fun e => h (by injection e))
 have s : ∀ (w : World) (i : Nat) (v x : Value),w.cell? ⟨b,i,none⟩ = some x -> (w.setCell ⟨b,i,none⟩ v).cell? ⟨b,i,none⟩ = some v := fun w i v x h => World.cell?_setCell_same w _ _ h
 refine ⟨?_,?_,?_,?_⟩
 ·rw [o _ 3 0 _ (by decide),o _ 2 0 _ (by decide),o _ 1 0 _ (by decide),s _ 0 _ x0 h0]
 ·rw [o _ 3 1 _ (by decide),o _ 2 1 _ (by decide),s _ 1 _ x1 (by rw [o _ 0 1 _ (by decide)];exact h1)]
 ·rw [o _ 3 2 _ (by decide),s _ 2 _ x2 (by rw [o _ 1 2 _ (by decide),o _ 0 2 _ (by decide)];exact h2)]
 ·rw [s _ 3 _ x3 (by rw [o _ 2 3 _ (by decide),o _ 1 3 _ (by decide),o _ 0 3 _ (by decide)];exact h3)]
theorem Sl.aside {w : World} {B n : Nat} {A : Option Addr} {xs : List Value} (h : Sl w B A n xs) {p : Addr} (hp : ∀ a,A = some a -> a.block ≠ p.block) (u : Value) : Sl (w.setCell p u) B A n xs :=
 ⟨h.1,fun hn => by
  obtain ⟨b,off,e,hb,hc⟩ := h.2 hn
  exact ⟨b,off,e,hb,fun j hj => (World.cell?_setCell_other w p ⟨b,off + j,none⟩ u (fun e2 => hp _ e (by rw [e2]))).trans (hc j hj)⟩⟩
theorem Rn.one {w : World} (s l : Int) (e : TypeId) : Rn (w.alloc (.cells #[.int .i64 s,.int .i64 l] e)) (w.alloc (.cells #[.int .i64 s,.int .i64 l] e)).heap.size (some ⟨w.heap.size,0,none⟩) 1 [(s,l)] := by
 refine ⟨rfl,fun _ => ⟨w.heap.size,0,rfl,by simp,fun j r hj => ?_⟩⟩
 match j,hj with
 | 0,hj =>
  obtain rfl : (s,l) = r := by simpa using hj
  constructor <;> simp [iv]
 | j + 1,hj => simp at hj
theorem yqd (P : Nat -> Prop) (pages : Int) (w : World) (hP : ∀ b,w.heap.size <= b -> P b) (h0 : -9223372036854775808 <= pages) (h1 : pages <= 9223372036854775807) :
  Calls Tryz.prog 13 #[.int .i64 pages] w fun e w' => (∃ v,e = .returned (.tuple #[v,.int .i64 (hNew pages).2]) /\ HIs w' P (hNew pages).1 v) /\ Below w.heap.size w w' := by
 by_cases hbad : pages < 4 \/ 1024 < pages
 ·have E : Hid (hNew pages = (hNone,1)) := hidb (by unfold hNew;rw [if_pos hbad])
  rw [E.out]
  by_cases h4 : pages < 4
  ·clear hbad
   go_enter Tryz.func13,Tryz.ntmps13
   go_wp2
   refine bodyPost_ret (v := .tuple #[.agg #[.int .i64 0,.slice none 0 0,.slice none 0 0,.int .i64 0],.int .i64 1]) (by simp [results,Tryz.results13,go_sem]) rfl ?_
   exact ⟨⟨_,rfl,yqc _ _⟩,(Below.refl _ _).alloc (Nat.le_refl _) _⟩
  ·have h5 : 1024 < pages := by omega
   clear hbad
   go_enter Tryz.func13,Tryz.ntmps13
   go_wp2
   refine bodyPost_ret (v := .tuple #[.agg #[.int .i64 0,.slice none 0 0,.slice none 0 0,.int .i64 0],.int .i64 1]) (by simp [results,Tryz.results13,go_sem]) rfl ?_
   exact ⟨⟨_,rfl,yqc _ _⟩,(Below.refl _ _).alloc (Nat.le_refl _) _⟩
 ·have h4 : 4 <= pages := by omega
  have h5 : pages <= 1024 := by omega
  obtain ⟨F,hF⟩ : ∃ F,F = List.replicate 1024 false := ⟨_,rfl⟩
  have hFl : F.length = 1024 := by rw [hF,List.length_replicate]
  have E : Hid (hNew pages = (⟨pages,(fPut F [(0,pages)] true).1,[],0⟩,0)) := hidb (by unfold hNew;rw [if_neg hbad,hF])
  rw [E.out]
  clear hbad
  obtain ⟨w0,hw0⟩ : ∃ w0,w0 = w.alloc (.cells #[.int .i64 0,.slice none 0 0,.slice none 0 0,.int .i64 0] 32) := ⟨_,rfl⟩
  have cn := ref_fnew w0
  rw [<- hF] at cn
  have hz0 : w0.heap.size = w.heap.size + 1 := by rw [hw0];simp
  have HB0 : Hid (Below w.heap.size w w0) := hidb (by rw [hw0];exact (Below.refl _ _).alloc (Nat.le_refl _) _)
  have q0 : w0.cell? ⟨w.heap.size,0,none⟩ = some (.int .i64 0) := by rw [hw0];simp
  have q1 : w0.cell? ⟨w.heap.size,1,none⟩ = some (.slice none 0 0) := by rw [hw0];simp
  have q2 : w0.cell? ⟨w.heap.size,2,none⟩ = some (.slice none 0 0) := by rw [hw0];simp
  have q3 : w0.cell? ⟨w.heap.size,3,none⟩ = some (.int .i64 0) := by rw [hw0];simp
  have z : ∀ j,w0.frozen? ⟨w.heap.size,j,none⟩ = false := fun j => by rw [hw0];exact xve w _ _ j
  have HC : Hid (∀ W,Below w0.heap.size w0 W -> W.cell? ⟨w.heap.size,0,none⟩ = some (.int .i64 0) /\ W.cell? ⟨w.heap.size,1,none⟩ = some (.slice none 0 0) /\ W.cell? ⟨w.heap.size,2,none⟩ = some (.slice none 0 0) /\ W.cell? ⟨w.heap.size,3,none⟩ = some (.int .i64 0) /\ ∀ j,W.frozen? ⟨w.heap.size,j,none⟩ = false) := hidb (fun W hb => by
   have hlt : w.heap.size < w0.heap.size := by omega
   exact ⟨(hb.cell (p := ⟨w.heap.size,0,none⟩) hlt).trans q0,(hb.cell (p := ⟨w.heap.size,1,none⟩) hlt).trans q1,(hb.cell (p := ⟨w.heap.size,2,none⟩) hlt).trans q2,(hb.cell (p := ⟨w.heap.size,3,none⟩) hlt).trans q3,fun j => (hb.frozen (p := ⟨w.heap.size,j,none⟩) hlt).trans (z j)⟩)
  have HW0 := hidb hw0
  clear hF hw0 q0 q1 q2 q3 z
  go_enter Tryz.func13,Tryz.ntmps13
  go_wp2_with (go_at_call 65;rw [<- HW0.out];refine cn.mono ?_)
  rintro e w1 ⟨A1,c1,rfl,hown1,hb1⟩
  have hs1 := hb1.size
  have hcaps := xw3 hown1
  obtain ⟨L,hL⟩ : ∃ L,F.length = L := ⟨_,rfl⟩
  rw [hL] at hown1 hcaps hFl ⊢
  have cp := xZe A1 (some ⟨w1.heap.size,0,none⟩) L c1 1 1 F [(0,pages)] true (w1.alloc (.cells #[.int .i64 0,.int .i64 pages] 47)) (((Sl.of_own hown1).alloc (Nat.le_refl _) _).more (by simp)) (Rn.one 0 pages _) (by omega) (by omega) (by omega) hcaps.1 hcaps.2.1 (fun r hr => by rw [List.mem_singleton.1 hr];exact ⟨by unfold in64;omega,by unfold in64;omega⟩)
  have hPl := xz4 F [(0,pages)] true
  rw [hL] at hPl
  have HFL := hidb hFl
  have HBA : Hid (Below w0.heap.size w0 (w1.alloc (.cells #[.int .i64 0,.int .i64 pages] 47))) := hidb (hb1.alloc (by omega) _)
  have hown1lt : ∀ a,A1 = some a -> w0.heap.size <= a.block := fun a ha => (hown1.lt a.block (by rw [ha];rfl)).1
  clear hown1 hb1 cn hFl hL
  go_wp2_with (go_at_call 64;refine cp.mono ?_)
  rintro e w2 ⟨A2,c2,rfl,hle2,hcap2,hA2,hsl2,hb2,hblk⟩
  have HBB : Hid (Below w0.heap.size w0 w2) := hidb (HBA.out.trans (hb2.mono (by simp;omega)))
  obtain ⟨r0,r1,r2,r3,rz⟩ := HC.out _ HBB.out
  have r4 := rz 0
  have r5 := rz 1
  have r6 := rz 2
  have r7 := rz 3
  have hPA : Hid (InP P A2) := hidb (fun a ha => hP _ (by
   rcases hblk with h | h
   ·have := hown1lt a (h ▸ ha)
    omega
   ·have := h a ha
    simp at this;omega))
  have hne : Hid (∀ a,A2 = some a -> a.block ≠ w.heap.size) := hidb (fun a ha => by
   rcases hblk with h | h
   ·have := hown1lt a (h ▸ ha)
    omega
   ·have := h a ha
    simp at this;omega)
  have hs2 := hb2.size
  have hs2' : w.heap.size < w2.heap.size := by simp at hs2;omega
  have HTC := hidb (xqy w2 w.heap.size (.int .i64 pages) (.slice A2 L c2) (.slice none 0 0) (.int .i64 0) _ _ _ _ r0 r1 r2 r3)
  have HSL := hidb ((((hsl2.aside (p := ⟨w.heap.size,0,none⟩) hne.out (.int .i64 pages)).aside (p := ⟨w.heap.size,1,none⟩) hne.out (.slice A2 L c2)).aside (p := ⟨w.heap.size,2,none⟩) hne.out (.slice none 0 0)).aside (p := ⟨w.heap.size,3,none⟩) hne.out (.int .i64 0))
  have HBC := hidb ((((((HB0.out.trans (HBB.out.mono (by omega))).setCell (p := ⟨w.heap.size,0,none⟩) (Nat.le_refl _) (.int .i64 pages)).setCell (p := ⟨w.heap.size,1,none⟩) (Nat.le_refl _) (.slice A2 L c2)).setCell (p := ⟨w.heap.size,2,none⟩) (Nat.le_refl _) (.slice none 0 0)).setCell (p := ⟨w.heap.size,3,none⟩) (Nat.le_refl _) (.int .i64 0)))
  clear cp hb2 rz hsl2 hblk hown1lt
  have HPL := hidb hPl
  rw [hPl]
  clear hPl
  go_wp2
  obtain ⟨s0,s1,s2,s3⟩ := HTC.out
  refine bodyPost_ret (v := .tuple #[.agg #[.int .i64 pages,.slice A2 L c2,.slice none 0 0,.int .i64 0],.int .i64 0]) (by simp [results,Tryz.results13,go_sem,s0,s1,s2,s3]) rfl ?_
  refine ⟨⟨_,rfl,A2,c2,none,0,by rw [HPL.out];rfl,hle2,hcap2,hA2,?_,Nat.le_refl _,by omega,fun _ => rfl,RowOf.nil_,hPA.out,InP.none_,InP.none_⟩,HBC.out⟩
  simpa using HSL.out
end Go.Proofs.YtlcdgmjinhbncaaGreat
