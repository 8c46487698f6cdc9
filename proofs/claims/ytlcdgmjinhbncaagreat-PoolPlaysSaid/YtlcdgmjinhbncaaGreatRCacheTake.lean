import Derived.Test.YtlcdgmjinhbncaaGreatRPoolGiveR0
import Derived.Deep.RegionHeld3
import Derived.Test.YtlcdgmjinhbncaaGreatRPoolKeep
import Derived.Test.YtlcdgmjinhbncaaGreatRPoolTakeN
import Derived.Test.YtlcdgmjinhbncaaGreatRPoolGiveR
import Derived.Test.YtlcdgmjinhbncaaGreatRRowWords
import Derived.Test.YtlcdgmjinhbncaaGreatRPoolAt
import Derived.Test.YtlcdgmjinhbncaaGreatRPoolAdd
import Derived.Deep.Cut
import Derived.Deep.CutRange
import Derived.Deep.RegionLaw
namespace Go.Proofs.YtlcdgmjinhbncaaGreat
open Go.RowKit
set_option linter.unusedVariables false
set_option maxRecDepth 100000 in
set_option maxHeartbeats 4000000 in
theorem xQu (P : Nat -> Prop) (q : PoolV) (v : Value) (order : Int) (i : Nat) (w : World) (hP : ∀ b,w.heap.size <= b -> P b) (o : POk q) (hv : PoIs w P q v) (h0 : 0 <= order /\ order <= 3) (hn : q.l.length <= 65536) (hf : pFirst q.l order 0 true = some i) :
  Calls Tryz.prog 66 #[v,.int .i64 order] w (PoolRet3 w P (pTake q order)) := by
 obtain ⟨A,n,c,A2,n2,c2,A3,n3,c3,ys,hv',h1,h2,h3,h4,h5,h6⟩ := hv
 have l3 : ys.length = n3 := h2.row.1
 have lq : q.l.length = n3 := by rw [<- h3,List.length_map,l3]
 rw [lq] at hn
 obtain ⟨d,hd0,hfit⟩ : ∃ d,q.l[i]? = some d /\ pFits order 0 true d = true := by
  rcases xz9 q.l order 0 true with ⟨e,_⟩ | ⟨b,d,e,hd0,hfd,_⟩
  ·rw [hf] at e;cases e
  ·rw [hf] at e
   obtain rfl := Option.some.inj e
   exact ⟨d,hd0,hfd⟩
 have hT := xvk h0 hf hd0
 rw [<- h3,List.getElem?_map] at hd0
 obtain ⟨y,hy,rfl⟩ := Option.map_eq_some_iff.1 hd0
 have hi : i < n3 := by rw [<- l3];exact (List.getElem?_eq_some_iff.1 hy).1
 have hym := List.mem_of_getElem? hy
 obtain ⟨g1,g2,g3,g4,g5,g6⟩ := h2.lists y hym
 have g7 := h6 y hym
 have hok := h2.ok y hym
 obtain ⟨⟨s1,s2,s3,s4⟩,yA,yn,yc,yl⟩ := y
 unfold CV.plain at hfit hT
 simp only at g1 g2 g3 g4 g5 g6 g7 hfit hT
 obtain ⟨a,r,rfl⟩ : ∃ a r,yl = a :: r := by
  cases yl with
  | nil => unfold pFits at hfit;simp at hfit
  | cons a r => exact ⟨a,r,rfl⟩
 simp only [List.tail_cons,List.headD_cons] at hT
 have hyl : r.length + 1 = yn := by have := g1.1;simpa using this
 obtain ⟨lb,lo,rfl,hlb,hlc⟩ := g1.2 (by omega)
 have ha0 := hlc 0 (by omega)
 have hlb : lb < w.heap.size := hlb
 rw [Nat.add_zero] at ha0
 have ha0 : w.cell? ⟨lb,lo,none⟩ = some (.int .i64 a) := ha0
 obtain ⟨P',hP'⟩ : ∃ P' : Nat -> Prop,P' = fun x => P x /\ x ≠ w.heap.size /\ x ≠ w.heap.size + 1 := ⟨_,rfl⟩
 have hPP : ∀ b,w.heap.size + 2 <= b -> P' b := fun b h => by rw [hP'];exact ⟨hP b (by omega),by omega,by omega⟩
 have hPL : ∀ b,P b -> b < w.heap.size -> P' b := fun b h h2 => by rw [hP'];exact ⟨h,by omega,by omega⟩
 obtain ⟨A',hA'⟩ : ∃ A' : Option Addr,A' = if 1 < yc then some ⟨lb,lo + 1,none⟩ else some ⟨lb,lo,none⟩ := ⟨_,rfl⟩
 have hA'b : ∀ x,A' = some x -> x.block = lb := fun x hx => by
  rw [hA'] at hx
  split at hx <;> (injection hx with hx;rw [<- hx])
 have hsl : Sl w w.heap.size A' (yn - 1) (r.map iv) := by
  refine ⟨by rw [List.length_map];omega,fun hp => ?_⟩
  refine ⟨lb,lo + 1,by rw [hA',if_pos (by omega)],hlb,fun j hj => ?_⟩
  have := hlc (j + 1) (by omega)
  rw [show lo + 1 + j = lo + (j + 1) by omega,this]
  rfl
 have hv3 : PoIs w P' q (pval q.heap.pages A n c A2 n2 c2 q.heap.last A3 n3 c3 q.held) :=
  (PoIs.apart ⟨A,n,c,A2,n2,c2,A3,n3,c3,ys,rfl,h1,h2,h3,h4,h5,h6⟩ (by rw [o.hok.fl];omega)).weaken fun b h => hPL b h.1 h.2
 have h1' : HIs w P' q.heap (hval q.heap.pages A n c A2 n2 c2 q.heap.last) := (h1.apart (by rw [o.hok.fl];omega)).weaken fun b h => hPL b h.1 h.2
 have h2' : Cn w P' A3 n3 ys := ⟨h2.row,fun z hz => by
  obtain ⟨k1,k2,k3,k4,k5,k6⟩ := h2.lists z hz
  exact ⟨k1,k2,k3,k4,fun x hx => hPL _ (k5 x hx) (h6 z hz x hx),k6⟩,fun x hx => hPL _ (h2.inp x hx) (h5 x hx),h2.ok⟩
 have hlbP : P' lb := hPL lb (g5 _ rfl) hlb
 have CW : Hid (∀ W,Below w.heap.size w W -> w.heap.size + 2 <= W.heap.size -> Calls Tryz.prog 139 #[.agg #[.int .i64 q.heap.pages,.slice A n c,.slice A2 n2 c2,.int .i64 q.heap.last,.slice A3 n3 c3,.bool q.held],.int .i64 (i : Int),.agg #[.int .i64 s1,.int .i64 s2,.int .i64 s3,.int .i64 s4,.slice A' (yn - 1) (yc - 1)]] W fun e w5 => ∃ A5 c5,e = .returned (.agg #[.int .i64 q.heap.pages,.slice A n c,.slice A2 n2 c2,.int .i64 q.heap.last,.slice A5 n3 c5,.bool q.held]) /\ Below W.heap.size W w5 /\ PoIs w5 P' ⟨q.heap,q.l.set i ((s1,s2,s3,s4),r),q.held⟩ (.agg #[.int .i64 q.heap.pages,.slice A n c,.slice A2 n2 c2,.int .i64 q.heap.last,.slice A5 n3 c5,.bool q.held])) := hidb (fun W hb hW => by
  have hne : A' = none -> yc - 1 = 0 := fun e => by
   rw [hA'] at e
   split at e <;> cases e
  have hip : InP P' A' := fun x hx => by rw [hA'b x hx];exact hlbP
  have hlo : ListOk W P' ⟨(s1,s2,s3,s4),A',yn - 1,yc - 1,r⟩ := ⟨(hsl.below hb).more hb.size,by show yn - 1 <= yc - 1;omega,by show yc - 1 <= _;omega,hne,hip,by show yn - 1 <= _;omega⟩
  refine (xQe P' q.heap.pages q.heap.last A A2 A3 n c n2 c2 n3 c3 q.held ys i ⟨(s1,s2,s3,s4),A',yn - 1,yc - 1,r⟩ W (fun b h => hPP b (by omega)) (h2'.below hb) hn hi hlo hok).mono ?_
  rintro e w5 ⟨A5,c5,rfl,k1,k2,k3,k4,k5⟩
  refine ⟨A5,c5,rfl,k2,A,n,c,A2,n2,c2,A5,n3,c5,_,rfl,(h1'.below hb).below k2,k1,?_,⟨k4,k5,fun e => ?_⟩,fun x hx => ?_,fun z hz x hx => ?_⟩
  ·show (ys.set i _).map CV.plain = q.l.set i _
   rw [List.map_set,h3];rfl
  ·obtain ⟨b5,off5,_,_,e5,_⟩ := RowOf.at_ k1.row hi
   rw [e] at e5;cases e5
  ·obtain ⟨b5,off5,e5,hb5,_⟩ := k1.row.2 (by omega)
   rw [hx] at e5
   injection e5 with e5
   rw [e5];exact hb5
  ·have hw5 : w.heap.size <= w5.heap.size := Nat.le_trans hb.size k2.size
   rcases List.mem_or_eq_of_mem_set hz with hz | rfl
   ·exact Nat.lt_of_lt_of_le (h6 z hz x hx) hw5
   ·show x.block < _
    rw [hA'b x hx]
    omega)
 obtain ⟨b3,off3,z0,e3,hz0,_,_⟩ := h2.at_ hi
 subst e3
 obtain ⟨W0,hW0⟩ : ∃ W0,W0 = (w.alloc (.cells #[.int .i64 q.heap.pages,.slice A n c,.slice A2 n2 c2,.int .i64 q.heap.last,.slice (some ⟨b3,off3,none⟩) n3 c3,.bool q.held] 35)).alloc (.cells #[.int .i64 0,.slice none 0 0,.slice none 0 0,.int .i64 0,.slice none 0 0,.bool false] 35) := ⟨_,rfl⟩
 have hz : W0.heap.size = w.heap.size + 2 := by rw [hW0];simp
 have hB : Below w.heap.size w W0 := by rw [hW0];exact ((Below.refl _ _).alloc (Nat.le_refl _) _).alloc (by simp) _
 have BX : Hid (∀ W,Below W0.heap.size W0 W -> (W.cell? ⟨w.heap.size,0,none⟩ = some (.int .i64 q.heap.pages) /\ W.cell? ⟨w.heap.size,1,none⟩ = some (.slice A n c) /\ W.cell? ⟨w.heap.size,2,none⟩ = some (.slice A2 n2 c2) /\ W.cell? ⟨w.heap.size,3,none⟩ = some (.int .i64 q.heap.last) /\ W.cell? ⟨w.heap.size,4,none⟩ = some (.slice (some ⟨b3,off3,none⟩) n3 c3) /\ W.cell? ⟨w.heap.size,5,none⟩ = some (.bool q.held)) /\
   (W.cell? ⟨w.heap.size + 1,0,none⟩ = some (.int .i64 0) /\ W.cell? ⟨w.heap.size + 1,1,none⟩ = some (.slice none 0 0) /\ W.cell? ⟨w.heap.size + 1,2,none⟩ = some (.slice none 0 0) /\ W.cell? ⟨w.heap.size + 1,3,none⟩ = some (.int .i64 0) /\ W.cell? ⟨w.heap.size + 1,4,none⟩ = some (.slice none 0 0) /\ W.cell? ⟨w.heap.size + 1,5,none⟩ = some (.bool false)) /\ (∀ j,W.frozen? ⟨w.heap.size + 1,j,none⟩ = false) /\
   (W.cell? ⟨b3,off3 + i * 5,none⟩ = some (.int .i64 s1) /\ W.cell? ⟨b3,off3 + i * 5 + 1,none⟩ = some (.int .i64 s2) /\ W.cell? ⟨b3,off3 + i * 5 + 2,none⟩ = some (.int .i64 s3) /\ W.cell? ⟨b3,off3 + i * 5 + 3,none⟩ = some (.int .i64 s4) /\ W.cell? ⟨b3,off3 + i * 5 + 4,none⟩ = some (.slice (some ⟨lb,lo,none⟩) yn yc)) /\ W.cell? ⟨lb,lo,none⟩ = some (.int .i64 a) /\ Below w.heap.size w W /\ w.heap.size + 2 <= W.heap.size) := hidb (fun W hb => by
  have hbw := hB.trans (hb.mono (by omega))
  have hbz := hb.size
  have q0 : ∀ j,W.cell? ⟨w.heap.size,j,none⟩ = W0.cell? ⟨w.heap.size,j,none⟩ := fun j => hb.cell (p := ⟨w.heap.size,j,none⟩) (by show w.heap.size < _;omega)
  have q1 : ∀ j,W.cell? ⟨w.heap.size + 1,j,none⟩ = W0.cell? ⟨w.heap.size + 1,j,none⟩ := fun j => hb.cell (p := ⟨w.heap.size + 1,j,none⟩) (by show w.heap.size + 1 < _;omega)
  have qf : ∀ j,W.frozen? ⟨w.heap.size + 1,j,none⟩ = W0.frozen? ⟨w.heap.size + 1,j,none⟩ := fun j => hb.frozen (p := ⟨w.heap.size + 1,j,none⟩) (by show w.heap.size + 1 < _;omega)
  obtain ⟨b6,o6,y6,e6,hy6,_,t0,t1,t2,t3,t4⟩ := (h2.below hbw).at_ hi
  injection e6 with e6
  injection e6 with e6 e7 e8
  subst e6 e7
  rw [hy] at hy6
  obtain rfl := Option.some.inj hy6
  refine ⟨?_,?_,fun j => ?_,⟨t0,t1,t2,t3,t4⟩,?_,hbw,by omega⟩
  ·rw [q0,q0,q0,q0,q0,q0,hW0];simp [go_sem]
  ·rw [q1,q1,q1,q1,q1,q1,hW0];simp [go_sem]
  ·rw [qf,hW0];simp [go_sem]
  ·rw [hbw.cell (p := ⟨lb,lo,none⟩) hlb];exact ha0)
 have cf := xvn P q.heap.pages q.heap.last A A2 (some ⟨b3,off3,none⟩) n c n2 c2 n3 c3 q.held ys order 0 true W0 (h2.below hB) hn ⟨by omega,by omega⟩ ⟨by omega,by omega⟩
 rw [h3,hf,show idxInt (some i) = (i : Int) from rfl] at cf
 have HFIN : Hid (∀ w5 A5 c5,Below w.heap.size w w5 -> PoIs w5 P' ⟨q.heap,q.l.set i ((s1,s2,s3,s4),r),q.held⟩ (.agg #[.int .i64 q.heap.pages,.slice A n c,.slice A2 n2 c2,.int .i64 q.heap.last,.slice A5 n3 c5,.bool q.held]) -> PoolRet3 w P (pTake q order) (.returned (.tuple #[.agg #[.int .i64 q.heap.pages,.slice A n c,.slice A2 n2 c2,.int .i64 q.heap.last,.slice A5 n3 c5,.bool q.held],.int .i64 a,.int .i64 0])) ((((((w5.setCell ⟨w.heap.size + 1,0,none⟩ (.int .i64 q.heap.pages)).setCell ⟨w.heap.size + 1,1,none⟩ (.slice A n c)).setCell ⟨w.heap.size + 1,2,none⟩ (.slice A2 n2 c2)).setCell ⟨w.heap.size + 1,3,none⟩ (.int .i64 q.heap.last)).setCell ⟨w.heap.size + 1,4,none⟩ (.slice A5 n3 c5)).setCell ⟨w.heap.size + 1,5,none⟩ (.bool q.held))) := hidb (fun w5 A5 c5 hb hp => by
  have nb : ¬ P' (w.heap.size + 1) := by rw [hP'];exact fun h => h.2.2 rfl
  have hs6 := (((((hp.aside nb 0 (.int .i64 q.heap.pages)).aside nb 1 (.slice A n c)).aside nb 2 (.slice A2 n2 c2)).aside nb 3 (.int .i64 q.heap.last)).aside nb 4 (.slice A5 n3 c5)).aside nb 5 (.bool q.held)
  rw [hT]
  exact ⟨_,rfl,hs6.weaken fun b h => by rw [hP'] at h;exact h.1,xqu hb (by omega) _ _ _ _ _ _⟩)
 have HW0 := hidb hW0
 have HYC := hidb (⟨g2,g3⟩ : yn <= yc /\ yc <= 9223372036854775807)
 obtain ⟨pg,hpg⟩ : ∃ x,q.heap.pages = x := ⟨_,rfl⟩
 obtain ⟨la,hla⟩ : ∃ x,q.heap.last = x := ⟨_,rfl⟩
 obtain ⟨hd,hhd⟩ : ∃ x,q.held = x := ⟨_,rfl⟩
 rw [hpg,hla,hhd] at BX CW cf HW0 hv'
 rw [hpg,hla,hhd] at HFIN
 have hw1 : (1 : Int) <= (yn : Int) := by omega
 have hw0 : 0 < yn := by omega
 have hw00 : (0 : Int) < (yn : Int) := by omega
 have hw2 : (yn : Int) <= (yc : Int) := by omega
 have hi0 : (0 : Int) <= (i : Int) := by omega
 have hi1 : (i : Int) < (n3 : Int) := by omega
 clear hd0 hW0 hz hB hpg hla hhd h1 h2 h3 h4 h5 h6 h1' h2' hv3 hsl hlc hP' hPP hPL hlbP hT hfit hf hok hym hy hz0 lq l3 g1 g4 g5 g7 o
 unfold pval at hv' cf
 subst hv'
 by_cases hyc : 1 < yc
 ·rw [if_pos hyc] at hA'
  subst hA'
  have hyc2 : ¬ yc = 1 := by omega
  go_enter Tryz.func66,Tryz.ntmps66
  go_wp2_with (first
   | (go_at_call 75;go_loud (rw [<- HW0.out]);(with_reducible refine cf.mono ?_);rintro e w2 ⟨rfl,hb2⟩;have HB2 := hidb hb2;clear hb2;obtain ⟨⟨j0,j1,j2,j3,j4,j5⟩,_,_,⟨d0,d1,d2,d3,d4⟩,kl,_,_⟩ := BX.out w2 HB2.out))
  obtain ⟨W3,hW3⟩ : ∃ W3,W3 = w2.alloc (.cells #[.int .i64 s1,.int .i64 s2,.int .i64 s3,.int .i64 s4,.slice (some ⟨lb,lo,none⟩) yn yc] 51) := ⟨_,rfl⟩
  have HB3 : Hid (Below W0.heap.size W0 W3) := hidb (by rw [hW3];exact HB2.out.alloc HB2.out.size _)
  have HK : Hid (∀ W,Below W3.heap.size W3 W -> W.cell? ⟨w2.heap.size,0,none⟩ = some (.int .i64 s1) /\ W.cell? ⟨w2.heap.size,1,none⟩ = some (.int .i64 s2) /\ W.cell? ⟨w2.heap.size,2,none⟩ = some (.int .i64 s3) /\ W.cell? ⟨w2.heap.size,3,none⟩ = some (.int .i64 s4) /\ W.cell? ⟨w2.heap.size,4,none⟩ = some (.slice (some ⟨lb,lo,none⟩) yn yc)) := hidb (fun W hb => by
   have z : ∀ j,W.cell? ⟨w2.heap.size,j,none⟩ = W3.cell? ⟨w2.heap.size,j,none⟩ := fun j => hb.cell (p := ⟨w2.heap.size,j,none⟩) (by rw [hW3];simp)
   rw [z,z,z,z,z,hW3]
   simp [go_sem])
  rw [<- hW3]
  clear hW3 j0 j1 j2 j3 j4 j5 d0 d1 d2 d3 d4 kl
  obtain ⟨⟨j0,j1,j2,j3,j4,j5⟩,_,_,_,kl,hbw3,hz3⟩ := BX.out W3 HB3.out
  obtain ⟨k0,k1,k2,k3,k4⟩ := HK.out W3 (Below.refl _ _)
  have hw2s : w.heap.size + 2 <= w2.heap.size := (BX.out w2 HB2.out).2.2.2.2.2.2
  have nn1 : ¬ w2.heap.size = w.heap.size + 1 := by omega
  have nn2 : ¬ w.heap.size + 1 = w2.heap.size := by omega
  have nn3 : ¬ lb = w.heap.size + 1 := by omega
  have nn4 : ¬ w.heap.size + 1 = lb := by omega
  have nn5 : ¬ w.heap.size + 1 = w.heap.size := by omega
  have nn6 : ¬ w.heap.size = w.heap.size + 1 := by omega
  clear hw2s
  have cw := CW.out W3.drew hbw3.drew hz3
  have HX : Hid (∀ w5,Below W3.drew.heap.size W3.drew w5 -> Below W0.heap.size W0 w5 /\ Below W3.heap.size W3 w5) := hidb (fun w5 hb => by
   have h1 : Below W3.heap.size W3 w5 := (Below.refl W3.heap.size W3).drew.trans hb
   exact ⟨HB3.out.trans (h1.mono HB3.out.size),h1⟩)
  clear hbw3 hz3 CW cf HW0 HYC HB2 HB3 ha0 hA'b g6 hyl hlb
  go_region_held3 (fun W' => W'.cell? ⟨w.heap.size,0,none⟩ = some (.int .i64 pg) /\ W'.cell? ⟨w.heap.size,1,none⟩ = some (.slice A n c) /\ W'.cell? ⟨w.heap.size,2,none⟩ = some (.slice A2 n2 c2) /\ W'.cell? ⟨w.heap.size,3,none⟩ = some (.int .i64 la) /\ W'.cell? ⟨w.heap.size,4,none⟩ = some (.slice (some ⟨b3,off3,none⟩) n3 c3) /\ W'.cell? ⟨w.heap.size,5,none⟩ = some (.bool hd) /\ W'.cell? ⟨w2.heap.size,0,none⟩ = some (.int .i64 s1) /\ W'.cell? ⟨w2.heap.size,1,none⟩ = some (.int .i64 s2) /\ W'.cell? ⟨w2.heap.size,2,none⟩ = some (.int .i64 s3) /\ W'.cell? ⟨w2.heap.size,3,none⟩ = some (.int .i64 s4) /\ W'.cell? ⟨w2.heap.size,4,none⟩ = some (.slice (some ⟨lb,lo,none⟩) yn yc) /\ W'.cell? ⟨lb,lo,none⟩ = some (.int .i64 a)) (go_keep)
   (first | (go_at_call 139;(with_reducible refine cw.mono ?_);rintro e w5 ⟨A5,c5,rfl,hb5,hp5⟩;obtain ⟨x1,x2⟩ := HX.out w5 hb5;obtain ⟨⟨q0,q1,q2,q3,q4,q5⟩,⟨r0,r1,r2,r3,r4,r5⟩,rf,_,kl5,hbw5,_⟩ := BX.out w5 x1;obtain ⟨k50,k51,k52,k53,k45⟩ := HK.out w5 x2;have rf0 := rf 0;have rf1 := rf 1;have rf2 := rf 2;have rf3 := rf 3;have rf4 := rf 4;have rf5 := rf 5;have HP := hidb (HFIN.out w5 A5 c5 hbw5 hp5);clear rf hb5 hp5 x1 x2 hbw5))
  obtain ⟨t0,t1,t2,t3,t4,t5⟩ := xx0 (.int .i64 pg) (.slice A n c) (.slice A2 n2 c2) (.int .i64 la) (.slice A5 n3 c5) (.bool hd) r0 r1 r2 r3 r4 r5
  go_wp2
  refine bodyPost_ret (v := .tuple #[.agg #[.int .i64 pg,.slice A n c,.slice A2 n2 c2,.int .i64 la,.slice A5 n3 c5,.bool hd],.int .i64 a,.int .i64 0]) (by simp [results,Tryz.results66,go_sem,t0,t1,t2,t3,t4,t5]) rfl ?_
  exact HP.out
 ·rw [if_neg hyc] at hA'
  subst hA'
  obtain rfl : yc = 1 := by omega
  obtain rfl : yn = 1 := by omega
  simp only [Nat.sub_self] at CW
  clear hw1 hw2 hyc hw0 hw00
  go_enter Tryz.func66,Tryz.ntmps66
  go_wp2_with (first
   | (go_at_call 75;go_loud (rw [<- HW0.out]);(with_reducible refine cf.mono ?_);rintro e w2 ⟨rfl,hb2⟩;have HB2 := hidb hb2;clear hb2;obtain ⟨⟨j0,j1,j2,j3,j4,j5⟩,_,_,⟨d0,d1,d2,d3,d4⟩,kl,_,_⟩ := BX.out w2 HB2.out))
  obtain ⟨W3,hW3⟩ : ∃ W3,W3 = w2.alloc (.cells #[.int .i64 s1,.int .i64 s2,.int .i64 s3,.int .i64 s4,.slice (some ⟨lb,lo,none⟩) 1 1] 51) := ⟨_,rfl⟩
  have HB3 : Hid (Below W0.heap.size W0 W3) := hidb (by rw [hW3];exact HB2.out.alloc HB2.out.size _)
  have HK : Hid (∀ W,Below W3.heap.size W3 W -> W.cell? ⟨w2.heap.size,0,none⟩ = some (.int .i64 s1) /\ W.cell? ⟨w2.heap.size,1,none⟩ = some (.int .i64 s2) /\ W.cell? ⟨w2.heap.size,2,none⟩ = some (.int .i64 s3) /\ W.cell? ⟨w2.heap.size,3,none⟩ = some (.int .i64 s4) /\ W.cell? ⟨w2.heap.size,4,none⟩ = some (.slice (some ⟨lb,lo,none⟩) 1 1)) := hidb (fun W hb => by
   have z : ∀ j,W.cell? ⟨w2.heap.size,j,none⟩ = W3.cell? ⟨w2.heap.size,j,none⟩ := fun j => hb.cell (p := ⟨w2.heap.size,j,none⟩) (by rw [hW3];simp)
   rw [z,z,z,z,z,hW3]
   simp [go_sem])
  rw [<- hW3]
  clear hW3 j0 j1 j2 j3 j4 j5 d0 d1 d2 d3 d4 kl
  obtain ⟨⟨j0,j1,j2,j3,j4,j5⟩,_,_,_,kl,hbw3,hz3⟩ := BX.out W3 HB3.out
  obtain ⟨k0,k1,k2,k3,k4⟩ := HK.out W3 (Below.refl _ _)
  have hw2s : w.heap.size + 2 <= w2.heap.size := (BX.out w2 HB2.out).2.2.2.2.2.2
  have nn1 : ¬ w2.heap.size = w.heap.size + 1 := by omega
  have nn2 : ¬ w.heap.size + 1 = w2.heap.size := by omega
  have nn3 : ¬ lb = w.heap.size + 1 := by omega
  have nn4 : ¬ w.heap.size + 1 = lb := by omega
  have nn5 : ¬ w.heap.size + 1 = w.heap.size := by omega
  have nn6 : ¬ w.heap.size = w.heap.size + 1 := by omega
  clear hw2s
  have cw := CW.out W3.drew hbw3.drew hz3
  have HX : Hid (∀ w5,Below W3.drew.heap.size W3.drew w5 -> Below W0.heap.size W0 w5 /\ Below W3.heap.size W3 w5) := hidb (fun w5 hb => by
   have h1 : Below W3.heap.size W3 w5 := (Below.refl W3.heap.size W3).drew.trans hb
   exact ⟨HB3.out.trans (h1.mono HB3.out.size),h1⟩)
  clear hbw3 hz3 CW cf HW0 HYC HB2 HB3 ha0 hA'b g6 hyl hlb
  go_region_held3 (fun W' => W'.cell? ⟨w.heap.size,0,none⟩ = some (.int .i64 pg) /\ W'.cell? ⟨w.heap.size,1,none⟩ = some (.slice A n c) /\ W'.cell? ⟨w.heap.size,2,none⟩ = some (.slice A2 n2 c2) /\ W'.cell? ⟨w.heap.size,3,none⟩ = some (.int .i64 la) /\ W'.cell? ⟨w.heap.size,4,none⟩ = some (.slice (some ⟨b3,off3,none⟩) n3 c3) /\ W'.cell? ⟨w.heap.size,5,none⟩ = some (.bool hd) /\ W'.cell? ⟨w2.heap.size,0,none⟩ = some (.int .i64 s1) /\ W'.cell? ⟨w2.heap.size,1,none⟩ = some (.int .i64 s2) /\ W'.cell? ⟨w2.heap.size,2,none⟩ = some (.int .i64 s3) /\ W'.cell? ⟨w2.heap.size,3,none⟩ = some (.int .i64 s4) /\ W'.cell? ⟨w2.heap.size,4,none⟩ = some (.slice (some ⟨lb,lo,none⟩) 1 1) /\ W'.cell? ⟨lb,lo,none⟩ = some (.int .i64 a)) (go_keep)
   (first | (go_at_call 139;(with_reducible refine cw.mono ?_);rintro e w5 ⟨A5,c5,rfl,hb5,hp5⟩;obtain ⟨x1,x2⟩ := HX.out w5 hb5;obtain ⟨⟨q0,q1,q2,q3,q4,q5⟩,⟨r0,r1,r2,r3,r4,r5⟩,rf,_,kl5,hbw5,_⟩ := BX.out w5 x1;obtain ⟨k50,k51,k52,k53,k45⟩ := HK.out w5 x2;have rf0 := rf 0;have rf1 := rf 1;have rf2 := rf 2;have rf3 := rf 3;have rf4 := rf 4;have rf5 := rf 5;have HP := hidb (HFIN.out w5 A5 c5 hbw5 hp5);clear rf hb5 hp5 x1 x2 hbw5))
  obtain ⟨t0,t1,t2,t3,t4,t5⟩ := xx0 (.int .i64 pg) (.slice A n c) (.slice A2 n2 c2) (.int .i64 la) (.slice A5 n3 c5) (.bool hd) r0 r1 r2 r3 r4 r5
  go_wp2
  refine bodyPost_ret (v := .tuple #[.agg #[.int .i64 pg,.slice A n c,.slice A2 n2 c2,.int .i64 la,.slice A5 n3 c5,.bool hd],.int .i64 a,.int .i64 0]) (by simp [results,Tryz.results66,go_sem,t0,t1,t2,t3,t4,t5]) rfl ?_
  exact HP.out
def set6 (W : World) (b : Nat) (u0 u1 u2 u3 u4 u5 : Value) : World := (((((W.setCell ⟨b,0,none⟩ u0).setCell ⟨b,1,none⟩ u1).setCell ⟨b,2,none⟩ u2).setCell ⟨b,3,none⟩ u3).setCell ⟨b,4,none⟩ u4).setCell ⟨b,5,none⟩ u5
theorem xx1 {T : Nat -> Prop} {w W : World} (h : Kept T w W) {b : Nat} (hb : T b \/ w.heap.size <= b) (u0 u1 u2 u3 u4 u5 : Value) : Kept T w (set6 W b u0 u1 u2 u3 u4 u5) :=
 (((((h.set (a := ⟨b,0,none⟩) hb u0).set (a := ⟨b,1,none⟩) hb u1).set (a := ⟨b,2,none⟩) hb u2).set (a := ⟨b,3,none⟩) hb u3).set (a := ⟨b,4,none⟩) hb u4).set (a := ⟨b,5,none⟩) hb u5
def F6 (W : World) (b : Nat) (u0 u1 u2 u3 u4 u5 : Value) : Prop :=
 W.cell? ⟨b,0,none⟩ = some u0 /\ W.cell? ⟨b,1,none⟩ = some u1 /\ W.cell? ⟨b,2,none⟩ = some u2 /\ W.cell? ⟨b,3,none⟩ = some u3 /\ W.cell? ⟨b,4,none⟩ = some u4 /\ W.cell? ⟨b,5,none⟩ = some u5 /\ ∀ j,W.frozen? ⟨b,j,none⟩ = false
section
variable {W W' : World} {b b' : Nat} {x0 x1 x2 x3 x4 x5 : Value}
theorem F6.lt (h : F6 W b x0 x1 x2 x3 x4 x5) : b < W.heap.size := xq0 h.1
theorem F6.same (h : F6 W b x0 x1 x2 x3 x4 x5) (hb : W'.heap[b]? = W.heap[b]?) : F6 W' b x0 x1 x2 x3 x4 x5 := by
 obtain ⟨h0,h1,h2,h3,h4,h5,hf⟩ := h
 have q : ∀ j,W'.cell? ⟨b,j,none⟩ = W.cell? ⟨b,j,none⟩ := fun j => World.cell?_of_block (w := W) (a := ⟨b,j,none⟩) hb
 exact ⟨(q 0).trans h0,(q 1).trans h1,(q 2).trans h2,(q 3).trans h3,(q 4).trans h4,(q 5).trans h5,fun j => (World.frozen?_of_block (w := W) (a := ⟨b,j,none⟩) hb).trans (hf j)⟩
theorem F6.kept {T : Nat -> Prop} (h : F6 W b x0 x1 x2 x3 x4 x5) (hK : Kept T W W') (hn : ¬ T b) : F6 W' b x0 x1 x2 x3 x4 x5 := h.same (hK.block b h.lt hn)
theorem F6.below (h : F6 W b x0 x1 x2 x3 x4 x5) (hb : Below W.heap.size W W') : F6 W' b x0 x1 x2 x3 x4 x5 := h.same (hb.block b h.lt)
theorem F6.made (W : World) (u0 u1 u2 u3 u4 u5 : Value) (t : TypeId) : F6 (W.alloc (.cells #[u0,u1,u2,u3,u4,u5] t)) W.heap.size u0 u1 u2 u3 u4 u5 :=
 ⟨World.cell?_alloc_at _ _ _ 0 (by simp),World.cell?_alloc_at _ _ _ 1 (by simp),World.cell?_alloc_at _ _ _ 2 (by simp),World.cell?_alloc_at _ _ _ 3 (by simp),World.cell?_alloc_at _ _ _ 4 (by simp),World.cell?_alloc_at _ _ _ 5 (by simp),fun j => World.frozen?_alloc_at _ _ _ _ rfl⟩
theorem F6.put (h : F6 W b x0 x1 x2 x3 x4 x5) (u0 u1 u2 u3 u4 u5 : Value) : F6 (set6 W b u0 u1 u2 u3 u4 u5) b u0 u1 u2 u3 u4 u5 := by
 obtain ⟨h0,h1,h2,h3,h4,h5,hf⟩ := h
 have o : ∀ (X : World) (i j : Nat) (v : Value),i ≠ j -> (X.setCell ⟨b,i,none⟩ v).cell? ⟨b,j,none⟩ = X.cell? ⟨b,j,none⟩ := fun X i j v hij => World.cell?_setCell_other X _ _ _ (fun e => hij (by injection e))
 have s : ∀ (X : World) (i : Nat) (u x : Value),X.cell? ⟨b,i,none⟩ = some x -> (X.setCell ⟨b,i,none⟩ u).cell? ⟨b,i,none⟩ = some u := fun X i u x h => World.cell?_setCell_same _ _ _ h
 unfold set6
 refine ⟨?_,?_,?_,?_,?_,?_,fun j => ?_⟩
 ·rw [o _ _ _ _ (by decide),o _ _ _ _ (by decide),o _ _ _ _ (by decide),o _ _ _ _ (by decide),o _ _ _ _ (by decide)]
  exact s _ _ _ _ h0
 ·rw [o _ _ _ _ (by decide),o _ _ _ _ (by decide),o _ _ _ _ (by decide),o _ _ _ _ (by decide)]
  exact s _ _ _ _ (by rw [o _ _ _ _ (by decide)];exact h1)
 ·rw [o _ _ _ _ (by decide),o _ _ _ _ (by decide),o _ _ _ _ (by decide)]
  exact s _ _ _ _ (by rw [o _ _ _ _ (by decide),o _ _ _ _ (by decide)];exact h2)
 ·rw [o _ _ _ _ (by decide),o _ _ _ _ (by decide)]
  exact s _ _ _ _ (by rw [o _ _ _ _ (by decide),o _ _ _ _ (by decide),o _ _ _ _ (by decide)];exact h3)
 ·rw [o _ _ _ _ (by decide)]
  exact s _ _ _ _ (by rw [o _ _ _ _ (by decide),o _ _ _ _ (by decide),o _ _ _ _ (by decide),o _ _ _ _ (by decide)];exact h4)
 ·exact s _ _ _ _ (by rw [o _ _ _ _ (by decide),o _ _ _ _ (by decide),o _ _ _ _ (by decide),o _ _ _ _ (by decide),o _ _ _ _ (by decide)];exact h5)
 ·simp only [World.frozen?_setCell];exact hf j
theorem F6.al (h : F6 W b x0 x1 x2 x3 x4 x5) (o : Obj) : F6 (W.alloc o) b x0 x1 x2 x3 x4 x5 := h.below ((Below.refl _ _).alloc (Nat.le_refl _) o)
end
def setG4 (W : World) (b : Nat) (u0 u1 u2 u3 : Value) : World := (((W.setCell ⟨b,0,none⟩ u0).setCell ⟨b,1,none⟩ u1).setCell ⟨b,2,none⟩ u2).setCell ⟨b,3,none⟩ u3
def G4 (W : World) (b : Nat) (u0 u1 u2 u3 : Value) : Prop :=
 W.cell? ⟨b,0,none⟩ = some u0 /\ W.cell? ⟨b,1,none⟩ = some u1 /\ W.cell? ⟨b,2,none⟩ = some u2 /\ W.cell? ⟨b,3,none⟩ = some u3 /\ ∀ j,W.frozen? ⟨b,j,none⟩ = false
theorem xjv {T : Nat -> Prop} {w W : World} (h : Kept T w W) {b : Nat} (hb : T b \/ w.heap.size <= b) (u0 u1 u2 u3 : Value) : Kept T w (setG4 W b u0 u1 u2 u3) :=
 (((h.set (a := ⟨b,0,none⟩) hb u0).set (a := ⟨b,1,none⟩) hb u1).set (a := ⟨b,2,none⟩) hb u2).set (a := ⟨b,3,none⟩) hb u3
section
variable {W W' : World} {b b' : Nat} {x0 x1 x2 x3 x4 x5 : Value}
theorem G4.lt (h : G4 W b x0 x1 x2 x3) : b < W.heap.size := xq0 h.1
theorem G4.same (h : G4 W b x0 x1 x2 x3) (hb : W'.heap[b]? = W.heap[b]?) : G4 W' b x0 x1 x2 x3 := by
 obtain ⟨h0,h1,h2,h3,hf⟩ := h
 have q : ∀ j,W'.cell? ⟨b,j,none⟩ = W.cell? ⟨b,j,none⟩ := fun j => World.cell?_of_block (w := W) (a := ⟨b,j,none⟩) hb
 exact ⟨(q 0).trans h0,(q 1).trans h1,(q 2).trans h2,(q 3).trans h3,fun j => (World.frozen?_of_block (w := W) (a := ⟨b,j,none⟩) hb).trans (hf j)⟩
theorem G4.kept {T : Nat -> Prop} (h : G4 W b x0 x1 x2 x3) (hK : Kept T W W') (hn : ¬ T b) : G4 W' b x0 x1 x2 x3 := h.same (hK.block b h.lt hn)
theorem G4.below (h : G4 W b x0 x1 x2 x3) (hb : Below W.heap.size W W') : G4 W' b x0 x1 x2 x3 := h.same (hb.block b h.lt)
theorem G4.made (W : World) (u0 u1 u2 u3 : Value) (t : TypeId) : G4 (W.alloc (.cells #[u0,u1,u2,u3] t)) W.heap.size u0 u1 u2 u3 :=
 ⟨World.cell?_alloc_at _ _ _ 0 (by simp),World.cell?_alloc_at _ _ _ 1 (by simp),World.cell?_alloc_at _ _ _ 2 (by simp),World.cell?_alloc_at _ _ _ 3 (by simp),fun j => World.frozen?_alloc_at _ _ _ _ rfl⟩
theorem G4.al (h : G4 W b x0 x1 x2 x3) (o : Obj) : G4 (W.alloc o) b x0 x1 x2 x3 := h.below ((Below.refl _ _).alloc (Nat.le_refl _) o)
theorem F6.setG4_ (h : F6 W b x0 x1 x2 x3 x4 x5) (u0 u1 u2 u3 : Value) : F6 (setG4 W b u0 u1 u2 u3) b u0 u1 u2 u3 x4 x5 := by
 obtain ⟨h0,h1,h2,h3,h4,h5,hf⟩ := h
 have o : ∀ (X : World) (i j : Nat) (v : Value),i ≠ j -> (X.setCell ⟨b,i,none⟩ v).cell? ⟨b,j,none⟩ = X.cell? ⟨b,j,none⟩ := fun X i j v hij => World.cell?_setCell_other X _ _ _ (fun e => hij (by injection e))
 have s : ∀ (X : World) (i : Nat) (u x : Value),X.cell? ⟨b,i,none⟩ = some x -> (X.setCell ⟨b,i,none⟩ u).cell? ⟨b,i,none⟩ = some u := fun X i u x h => World.cell?_setCell_same _ _ _ h
 unfold setG4
 refine ⟨?_,?_,?_,?_,?_,?_,fun j => ?_⟩
 ·rw [o _ _ _ _ (by decide),o _ _ _ _ (by decide),o _ _ _ _ (by decide)]
  exact s _ _ _ _ h0
 ·rw [o _ _ _ _ (by decide),o _ _ _ _ (by decide)]
  exact s _ _ _ _ (by rw [o _ _ _ _ (by decide)];exact h1)
 ·rw [o _ _ _ _ (by decide)]
  exact s _ _ _ _ (by rw [o _ _ _ _ (by decide),o _ _ _ _ (by decide)];exact h2)
 ·exact s _ _ _ _ (by rw [o _ _ _ _ (by decide),o _ _ _ _ (by decide),o _ _ _ _ (by decide)];exact h3)
 ·rw [o _ _ _ _ (by decide),o _ _ _ _ (by decide),o _ _ _ _ (by decide),o _ _ _ _ (by decide)];exact h4
 ·rw [o _ _ _ _ (by decide),o _ _ _ _ (by decide),o _ _ _ _ (by decide),o _ _ _ _ (by decide)];exact h5
 ·simp only [World.frozen?_setCell];exact hf j
end
section
variable {w w' : World} {P P' T : Nat -> Prop}
theorem Sn.keptP {A : Option Addr} {n : Nat} {l : List (Int × Int × Int × Int)} (h : Sn w w.heap.size A n l) (hK : Kept T w w') (hn : ∀ a,A = some a -> ¬ T a.block) : Sn w' w'.heap.size A n l := by
 refine ⟨h.1,fun hn' => ?_⟩
 obtain ⟨b,off,e,hb,hc⟩ := h.2 hn'
 refine ⟨b,off,e,Nat.lt_of_lt_of_le hb hK.size,fun j y hj => ?_⟩
 obtain ⟨cs,h1,h2,h3⟩ := hc j y hj
 exact ⟨cs,h1,fun k hk => (hK.cell (a := ⟨b,off + j * 4 + k,none⟩) hb (show ¬ T b from hn ⟨b,off,none⟩ e)).trans (h2 k hk),h3⟩
theorem HIs.keptP {h : HeapV} {v : Value} (hv : HIs w P h v) (hK : Kept T w w') (hn : ∀ b,P b -> ¬ T b) : HIs w' P h v := by
 obtain ⟨A,c,A2,c2,e,h1,h2,h3,h4,h5,h6,h7,h8,h9,h10,h11⟩ := hv
 exact ⟨A,c,A2,c2,e,h1,h2,h3,Sl.kept (B := 0) h4 hK fun a e => hn _ (h9 a e),h5,h6,h7,Sn.keptP h8 hK fun a e => hn _ (h10 a e),h9,h10,fun a ha => Nat.lt_of_lt_of_le (h11 a ha) hK.size⟩
theorem Cn.kept {A : Option Addr} {n : Nat} {ys : List CV} (h : Cn w P A n ys) (hK : Kept T w w') (hn : ∀ b,P b -> ¬ T b) : Cn w' P A n ys := by
 refine ⟨⟨h.row.1,fun hn' => ?_⟩,fun y hy => ?_,h.inp,h.ok⟩
 ·obtain ⟨b,off,e,hb,hc⟩ := h.row.2 hn'
  refine ⟨b,off,e,Nat.lt_of_lt_of_le hb hK.size,fun j y hj => ?_⟩
  obtain ⟨cs,h1,h2,h3⟩ := hc j y hj
  exact ⟨cs,h1,fun k hk => (hK.cell (a := ⟨b,off + j * 5 + k,none⟩) hb (show ¬ T b from hn b (h.inp _ e))).trans (h2 k hk),h3⟩
 ·obtain ⟨h1,h2,h3,h4,h5,h6⟩ := h.lists y hy
  exact ⟨Sl.kept (B := 0) h1 hK fun a e => hn _ (h5 a e),h2,h3,h4,h5,h6⟩
theorem PoIs.kept {q : PoolV} {v : Value} (h : PoIs w P q v) (hK : Kept T w w') (hn : ∀ b,P b -> ¬ T b) : PoIs w' P q v := by
 obtain ⟨A,n,c,A2,n2,c2,A3,n3,c3,ys,e,h1,h2,h3,h4,h5,h6⟩ := h
 exact ⟨A,n,c,A2,n2,c2,A3,n3,c3,ys,e,h1.keptP hK hn,h2.kept hK hn,h3,h4,fun a ha => Nat.lt_of_lt_of_le (h5 a ha) hK.size,fun y hy a ha => Nat.lt_of_lt_of_le (h6 y hy a ha) hK.size⟩
end
end Go.Proofs.YtlcdgmjinhbncaaGreat
namespace Go.Proofs.YtlcdgmjinhbncaaGreat
open Go.RowKit Go.Maps
set_option linter.unusedVariables false
def qStep (v : PoolV) (a : Act9) : PoolV :=
 if a.kind = 0 then (pTake v a.order).1 else if a.kind = 1 then (pGive v a.at').1 else if a.kind = 2 then pSweep { v with held := a.on } else { v with heap := (hMake v.heap a.order (-1)).1 }
section
variable {v : PoolV}
theorem qStep_0 {a : Act9} (h : a.kind = 0) : qStep v a = (pTake v a.order).1 := by unfold qStep;rw [if_pos h]
theorem qStep_1 {a : Act9} (h : a.kind = 1) : qStep v a = (pGive v a.at').1 := by unfold qStep;rw [if_neg (by omega),if_pos h]
theorem qStep_2 {a : Act9} (h : a.kind = 2) : qStep v a = pSweep { v with held := a.on } := by unfold qStep;rw [if_neg (by omega),if_neg (by omega),if_pos h]
theorem qStep_3 {a : Act9} (h0 : a.kind ≠ 0) (h1 : a.kind ≠ 1) (h2 : a.kind ≠ 2) : qStep v a = { v with heap := (hMake v.heap a.order (-1)).1 } := by unfold qStep;rw [if_neg h0,if_neg h1,if_neg h2]
theorem Calm.step (k : Calm v) (o : POk v) (a : Act9) : Calm (qStep v a) := by
 unfold qStep
 split
 ·exact k.take o _
 ·split
  ·exact k.give _
  ·split
   ·exact Calm.sweep _
   ·exact k
end
def DoesTo9 (w W : World) (p hp : Nat) (S D : Nat -> Prop) (q' : PoolV) (k : Nat) (pages : Int) (e : Ending) (WF : World) : Prop :=
 ∃ mv,e = .returned (.tuple #[.bool true,mv]) /\ ∃ S' u,PoolSt w WF p hp S' u k pages /\ u.plain = q' /\ PoIs WF (fun b => ¬ S' b /\ D b) q' mv /\ SideP S W S' WF
theorem xv3 {w W W2 w3 W4 WF : World} {p hp : Nat} {S S' T D : Nat -> Prop} {u : PoolW} {k' : Nat} {pages : Int} {mv : Value} {q' : PoolV}
  (hB2 : Below W.heap.size W W2) (hT : ∀ b,T b -> W.heap.size <= b /\ b < W2.heap.size) (hS : ∀ b,S b -> b < W.heap.size) (hw : w.heap.size <= W.heap.size) (d : PoIs W2 (fun b => (¬ S b /\ D b) /\ ¬ T b) q' mv) (h0 : 0 < q'.heap.free.length)
  (s3 : PoolSt w w3 p hp S' u k' pages) (e : u.plain = q') (hs : SideP S W2 S' w3) (hb4 : Below w3.heap.size w3 W4) (hK : Kept T W4 WF) :
  DoesTo9 w W p hp S D q' k' pages (.returned (.tuple #[.bool true,mv])) WF := by
 have h2 := hB2.size
 have hn : ∀ b,S' b -> ¬ T b := fun b c e => by
  have h3 := hT b e
  rcases hs.2 _ c with h | h
  ·have := hS _ h;omega
  ·omega
 have d3 := ((d.apart h0).kept hs.1 (fun b hb => hb.1.1.1)).below hb4 |>.kept hK (fun b hb => hb.1.2)
 refine ⟨_,rfl,S',u,((s3.below hb4).kept hK hn (fun b e => by have := hT b e;omega)),e,d3.weaken (fun b hb => ⟨fun c => ?_,hb.1.1.2⟩),⟨?_,fun b hb => ?_⟩⟩
 ·rcases hs.2 b c with h | h
  ·exact hb.1.1.1 h
  ·have := hb.2;omega
 ·refine (((Kept.of_below hB2 S).trans hs.1 (fun b _ h => h)).trans (Kept.of_below hb4 S) (fun b _ h => h)).trans hK (fun b hb e => ?_)
  have := hT b e
  omega
 ·rcases hs.2 b hb with h | h
  ·exact Or.inl h
  ·exact Or.inr (by omega)
theorem SideP.f6 {S S' : Nat -> Prop} {W W' : World} {b : Nat} {x0 x1 x2 x3 x4 x5 : Value} (h : SideP S W S' W') (f : F6 W b x0 x1 x2 x3 x4 x5) (hn : ¬ S b) : F6 W' b x0 x1 x2 x3 x4 x5 := f.kept h.1 hn
theorem SideP.g4 {S S' : Nat -> Prop} {W W' : World} {b : Nat} {x0 x1 x2 x3 : Value} (h : SideP S W S' W') (f : G4 W b x0 x1 x2 x3) (hn : ¬ S b) : G4 W' b x0 x1 x2 x3 := f.kept h.1 hn
structure ActSt9 (w W W0 : World) (p hp : Nat) (S D : Nat -> Prop) (v : PoolW) (k : Nat) (pages : Int) (a : Act9) (A : Option Addr) (n c : Nat) (A2 : Option Addr) (n2 c2 : Nat) (A3 : Option Addr) (n3 c3 : Nat) : Prop where
 st : PoolSt w W p hp S v k pages
 po : PoIs W0 (fun b => (¬ S b /\ D b) /\ ¬ (W.heap.size <= b /\ b < W.heap.size + 3)) v.plain (pval v.h.pages A n c A2 n2 c2 v.h.last A3 n3 c3 v.held)
 m6 : F6 W0 W.heap.size (.int .i64 v.h.pages) (.slice A n c) (.slice A2 n2 c2) (.int .i64 v.h.last) (.slice A3 n3 c3) (.bool v.held)
 a4 : ∀ W',Below W0.heap.size W0 W' -> W'.cell? ⟨W.heap.size + 1,0,none⟩ = some (.int .i64 a.kind) /\ W'.cell? ⟨W.heap.size + 1,1,none⟩ = some (.int .i64 a.order) /\ W'.cell? ⟨W.heap.size + 1,2,none⟩ = some (.bool a.on) /\ W'.cell? ⟨W.heap.size + 1,3,none⟩ = some (.slice a.A a.len a.cap)
 r6 : F6 W0 (W.heap.size + 2) (.int .i64 0) (.slice none 0 0) (.slice none 0 0) (.int .i64 0) (.slice none 0 0) (.bool false)
 bel : Below W.heap.size W W0
 sz : W0.heap.size = W.heap.size + 3
theorem ActSt9.start {w W : World} {p hp : Nat} {S D : Nat -> Prop} {v : PoolW} {k : Nat} {pages : Int} (s : PoolSt w W p hp S v k pages) (a : Act9) {A A2 A3 : Option Addr} {n c n2 c2 n3 c3 : Nat} (d : PoIs W (fun b => ¬ S b /\ D b) v.plain (pval v.h.pages A n c A2 n2 c2 v.h.last A3 n3 c3 v.held)) (t1 t2 t3 : TypeId) :
  ActSt9 w W (((W.alloc (.cells #[.int .i64 v.h.pages,.slice A n c,.slice A2 n2 c2,.int .i64 v.h.last,.slice A3 n3 c3,.bool v.held] t1)).alloc (.cells #[.int .i64 a.kind,.int .i64 a.order,.bool a.on,.slice a.A a.len a.cap] t2)).alloc (.cells #[.int .i64 0,.slice none 0 0,.slice none 0 0,.int .i64 0,.slice none 0 0,.bool false] t3)) p hp S D v k pages a A n c A2 n2 c2 A3 n3 c3 := by
 have hB : Below W.heap.size W (((W.alloc (.cells #[.int .i64 v.h.pages,.slice A n c,.slice A2 n2 c2,.int .i64 v.h.last,.slice A3 n3 c3,.bool v.held] t1)).alloc (.cells #[.int .i64 a.kind,.int .i64 a.order,.bool a.on,.slice a.A a.len a.cap] t2)).alloc (.cells #[.int .i64 0,.slice none 0 0,.slice none 0 0,.int .i64 0,.slice none 0 0,.bool false] t3)) :=
  (((Below.refl _ _).alloc (Nat.le_refl _) _).alloc (by simp) _).alloc (by simp;omega) _
 have e3 := F6.made ((W.alloc (.cells #[.int .i64 v.h.pages,.slice A n c,.slice A2 n2 c2,.int .i64 v.h.last,.slice A3 n3 c3,.bool v.held] t1)).alloc (.cells #[.int .i64 a.kind,.int .i64 a.order,.bool a.on,.slice a.A a.len a.cap] t2)) (.int .i64 0) (.slice none 0 0) (.slice none 0 0) (.int .i64 0) (.slice none 0 0) (.bool false) t3
 simp only [World.size_alloc] at e3
 refine ⟨s,((d.apart (by have := s.pok.hok.fl;omega)).weaken (fun b h => ⟨h.1,fun e => by have := h.2;omega⟩)).below hB,((F6.made W _ _ _ _ _ _ _).al _).al _,fun W' hb => ?_,e3,hB,by simp⟩
 have q : ∀ j,W'.cell? ⟨W.heap.size + 1,j,none⟩ = _ := fun j => hb.cell (p := ⟨W.heap.size + 1,j,none⟩) (by simp)
 rw [q,q,q,q]
 simp [go_sem]
theorem yvj (P : Nat -> Prop) (q : PoolV) (v : Value) (order : Int) (w : World) (hP : ∀ b,w.heap.size <= b -> P b) (o : POk q) (hv : PoIs w P q v) (ho : in64 order) (hn : q.l.length <= 60000) (hl : q.heap.l.length <= 60000) (hla0 : q.heap.last <= 1000000000) :
  Calls Tryz.prog 66 #[v,.int .i64 order] w fun e w' => ∃ v',e = .returned (.tuple #[v',.int .i64 (pTake q order).2.1,.int .i64 (pTake q order).2.2]) /\ PoIs w' P (pTake q order).1 v' /\ Below w.heap.size w w' := by
 by_cases c : order < 0 \/ 3 < order
 ·have e : pTake q order = (q,0,1) := by unfold pTake;rw [if_pos c]
  rw [e]
  exact xJa P q v order w hv ho c
 ·cases hf : pFirst q.l order 0 true with
  | some i => exact xQu P q v order i w hP o hv (by omega) (by omega) hf
  | none => exact xQt P q v order w hP o hv (by omega) hn hl hla0 hf
set_option maxRecDepth 100000 in
set_option maxHeartbeats 4000000 in
theorem yzq {w W : World} {p hp : Nat} {S D : Nat -> Prop} {v : PoolW} {k : Nat} {pages : Int} {mv : Value} (hD : ∀ b,W.heap.size <= b -> D b) (s : PoolSt w W p hp S v k pages) (hk : k + 1 <= 60000) (d : PoIs W (fun b => ¬ S b /\ D b) v.plain mv) (a : Act9) (ha : a.kind = 0) (hor : in64 a.order) :
  Calls Tryz.prog 14 #[.pointer (some ⟨hp,0,none⟩),.pointer (some ⟨p,0,none⟩),mv,.agg #[.int .i64 a.kind,.int .i64 a.order,.bool a.on,.slice a.A a.len a.cap]] W (DoesTo9 w W p hp S D (qStep v.plain a) (k + 1) pages) := by
 obtain ⟨A,m,c,A2,m2,c2,A3,m3,c3,hmv,d⟩ : ∃ A m c A2 m2 c2 A3 m3 c3,mv = pval v.h.pages A m c A2 m2 c2 v.h.last A3 m3 c3 v.held /\ PoIs W (fun b => ¬ S b /\ D b) v.plain mv := by
  obtain ⟨A,n,c,A2,n2,c2,A3,n3,c3,ys,e,_⟩ := id d
  exact ⟨A,n,c,A2,n2,c2,A3,n3,c3,e,d⟩
 subst hmv
 obtain ⟨W0,hW0⟩ : ∃ W0,W0 = (((W.alloc (.cells #[.int .i64 v.h.pages,.slice A m c,.slice A2 m2 c2,.int .i64 v.h.last,.slice A3 m3 c3,.bool v.held] 35)).alloc (.cells #[.int .i64 a.kind,.int .i64 a.order,.bool a.on,.slice a.A a.len a.cap] 40)).alloc (.cells #[.int .i64 0,.slice none 0 0,.slice none 0 0,.int .i64 0,.slice none 0 0,.bool false] 35)) := ⟨_,rfl⟩
 have HA := ActSt9.start s a d 35 40 35
 rw [<- hW0] at HA
 rw [qStep_0 ha]
 obtain ⟨⟨q',at',no⟩,hT⟩ : ∃ r,pTake v.plain a.order = r := ⟨_,rfl⟩
 rw [hT]
 obtain ⟨pg,hpg⟩ : ∃ x,v.h.pages = x := ⟨_,rfl⟩
 obtain ⟨la,hla⟩ : ∃ x,v.h.last = x := ⟨_,rfl⟩
 obtain ⟨hd,hhd⟩ : ∃ x,v.held = x := ⟨_,rfl⟩
 obtain ⟨pg',hpg'⟩ : ∃ x,q'.heap.pages = x := ⟨_,rfl⟩
 obtain ⟨la',hla'⟩ : ∃ x,q'.heap.last = x := ⟨_,rfl⟩
 obtain ⟨hd',hhd'⟩ : ∃ x,q'.held = x := ⟨_,rfl⟩
 have hSlt := s.lt
 have CT : Hid (Calls Tryz.prog 66 #[.agg #[.int .i64 pg,.slice A m c,.slice A2 m2 c2,.int .i64 la,.slice A3 m3 c3,.bool hd],.int .i64 a.order] W0 fun e w1 => ∃ B j1 d1 B2 j2 d2 B3 j3 d3,e = .returned (.tuple #[.agg #[.int .i64 pg',.slice B j1 d1,.slice B2 j2 d2,.int .i64 la',.slice B3 j3 d3,.bool hd'],.int .i64 at',.int .i64 no]) /\ Hid (PoIs w1 (fun b => (¬ S b /\ D b) /\ ¬ (W.heap.size <= b /\ b < W.heap.size + 3)) q' (.agg #[.int .i64 pg',.slice B j1 d1,.slice B2 j2 d2,.int .i64 la',.slice B3 j3 d3,.bool hd'])) /\ Hid (Below W0.heap.size W0 w1)) := hidb (by
  obtain ⟨f1,f2,f3⟩ := s.few (by omega)
  have := yvj (fun b => (¬ S b /\ D b) /\ ¬ (W.heap.size <= b /\ b < W.heap.size + 3)) v.plain _ a.order W0 (fun b hb => ⟨⟨fun c => by have := hSlt b c;have := HA.sz;omega,hD b (by have := HA.sz;omega)⟩,by have := HA.sz;omega⟩) s.pok HA.po hor f2 f1 f3
  unfold pval at this
  rw [hT,hpg,hla,hhd] at this
  refine this.mono ?_
  rintro e w1 ⟨v'',rfl,k1,hb⟩
  obtain ⟨B,j1,d1,B2,j2,d2,B3,j3,d3,ys,e,_⟩ := id k1
  unfold pval at e
  rw [hpg',hla',hhd'] at e
  subst e
  exact ⟨B,j1,d1,B2,j2,d2,B3,j3,d3,rfl,hidb k1,hidb hb⟩)
 have CK : Hid (∀ W2,Below W.heap.size W W2 -> Calls Tryz.prog 60 #[.pointer (some ⟨p,0,none⟩),.int .i64 a.order] W2 fun e w3 => e = .returned (.tuple #[.int .i64 at',.int .i64 no]) /\ ∃ S' u,Hid (PoolSt w w3 p hp S' u (k + 1) pages /\ u.plain = q' /\ SideP S W2 S' w3)) := hidb (fun W2 hb => (k_ptake (s.below hb) (by omega) a.order hor q' at' no hT).mono fun e w3 ⟨x,S',u,y,y2,z⟩ => ⟨x,S',u,hidb ⟨y,y2,z⟩⟩)
 have HA0 := HA
 clear HA
 have HA := hidb HA0
 clear HA0
 have HS := hidb hSlt
 have hwW := s.bel.size
 have HW0 := hidb hW0
 obtain ⟨a0,a1,a2,a3⟩ := HA.out.a4 W0 (Below.refl _ _)
 obtain ⟨c0,c1,c2',c3',c4',c5',_⟩ := HA.out.m6
 rw [hpg] at c0
 rw [hla] at c3'
 rw [hhd] at c5'
 rw [hpg,hla,hhd] at HW0
 unfold pval
 rw [hpg,hla,hhd]
 rw [ha] at HW0 a0 ⊢
 have hz := HA.out.sz
 clear hW0 s hT hSlt d hpg hla hhd hpg' hla' hhd' hor hk
 go_enter Tryz.func14,Tryz.ntmps14
 go_wp2_with (first
  | (go_at_call 66;go_loud (rw [<- HW0.out]);(with_reducible refine CT.out.mono ?_);rintro e w1 ⟨B,j1,d1,B2,j2,d2,B3,j3,d3,rfl,HK1,HB1⟩;obtain ⟨a0,a1,a2,a3⟩ := HA.out.a4 w1 HB1.out;have hw1 := HB1.out.size;have hlt1 : W.heap.size + 1 < w1.heap.size := (by omega);have hlt0 : W.heap.size < w1.heap.size := (by omega))
  | (go_at_call 60;(with_reducible refine (CK.out _ (by repeat (first | exact HA.out.bel.trans (HB1.out.mono HA.out.bel.size) | refine Below.alloc ?_ (by first | omega | (simp;done) | (simp;omega)) _))).mono ?_);rintro e w3 ⟨rfl,S3,u3,HS3⟩))
 have hnS : ∀ b,W.heap.size <= b -> ¬ S b := fun b hb c => by have := HS.out b c;omega
 obtain ⟨W2,hW2⟩ : ∃ W2,W2 = w1.alloc (.cells #[.int .i64 pg',.slice B j1 d1,.slice B2 j2 d2,.int .i64 la',.slice B3 j3 d3,.bool hd'] 35) := ⟨_,rfl⟩
 rw [<- hW2] at HS3
 have hb12 : Below w1.heap.size w1 W2 := by rw [hW2];exact (Below.refl _ _).alloc (Nat.le_refl _) _
 have hz2 : W2.heap.size = w1.heap.size + 1 := by rw [hW2];simp
 have hB2 : Below W.heap.size W W2 := (HA.out.bel.trans (HB1.out.mono HA.out.bel.size)).trans (hb12.mono (by omega))
 have hz3 := HS3.out.2.2.1.size
 have f10 : F6 w3 w1.heap.size (.int .i64 pg') (.slice B j1 d1) (.slice B2 j2 d2) (.int .i64 la') (.slice B3 j3 d3) (.bool hd') := HS3.out.2.2.f6 (by rw [hW2];exact F6.made w1 _ _ _ _ _ _ _) (hnS _ (by omega))
 have f9 : F6 w3 (W.heap.size + 1 + 1) (.int .i64 0) (.slice none 0 0) (.slice none 0 0) (.int .i64 0) (.slice none 0 0) (.bool false) := HS3.out.2.2.f6 ((HA.out.r6.below HB1.out).below hb12) (hnS _ (by omega))
 have HE9 := hidb (f9.put (.int .i64 pg') (.slice B j1 d1) (.slice B2 j2 d2) (.int .i64 la') (.slice B3 j3 d3) (.bool hd'))
 have HEND : Hid (∀ WF,Kept (fun b => W.heap.size + 2 = b) w3 WF -> DoesTo9 w W p hp S D q' (k + 1) pages (.returned (.tuple #[.bool true,.agg #[.int .i64 pg',.slice B j1 d1,.slice B2 j2 d2,.int .i64 la',.slice B3 j3 d3,.bool hd']])) WF) := hidb (fun WF hK =>
  xv3 (T := fun b => W.heap.size <= b /\ b < W.heap.size + 3) hB2 (fun b hb => by omega) HS.out hwW (HK1.out.below hb12) (by have := HS3.out.1.pok.hok.fl;rw [HS3.out.2.1] at this;omega) HS3.out.1 HS3.out.2.1 HS3.out.2.2 (Below.refl _ _) (⟨hK.os,hK.tape,hK.output,hK.size,fun b hb hn => hK.block b hb (fun e => hn (by omega))⟩))
 obtain ⟨x0,x1,x2,x3,x4,x5,_⟩ := f10
 obtain ⟨r0,r1,r2,r3,r4,r5,rf⟩ := f9
 have rf0 := rf 0
 have rf1 := rf 1
 have rf2 := rf 2
 have rf3 := rf 3
 have rf4 := rf 4
 have rf5 := rf 5
 have nn1 : ¬ W.heap.size + 1 + 1 = w1.heap.size := by omega
 have nn4 : ¬ W.heap.size + 1 = w1.heap.size := by omega
 have nn5 : ¬ w1.heap.size = W.heap.size + 1 + 1 := by omega
 have nn6 : ¬ w1.heap.size = W.heap.size + 1 := by omega
 clear hW2 hb12 hz2 hB2 hz3 rf CT CK HS3 HK1 HB1 a0 a1 a2 a3 c0 c1 c2' c3' c4' c5' hnS
 go_region_held3 (fun W' => W'.cell? ⟨w1.heap.size,0,none⟩ = some (.int .i64 pg') /\ W'.cell? ⟨w1.heap.size,1,none⟩ = some (.slice B j1 d1) /\ W'.cell? ⟨w1.heap.size,2,none⟩ = some (.slice B2 j2 d2) /\ W'.cell? ⟨w1.heap.size,3,none⟩ = some (.int .i64 la') /\ W'.cell? ⟨w1.heap.size,4,none⟩ = some (.slice B3 j3 d3) /\ W'.cell? ⟨w1.heap.size,5,none⟩ = some (.bool hd')) (go_keep) (fail)
 go_wp2
 obtain ⟨b0,b1,b2,b3,b4,b5,_⟩ := HE9.out
 unfold set6 at b0 b1 b2 b3 b4 b5
 refine bodyPost_ret (v := .tuple #[.bool true,.agg #[.int .i64 pg',.slice B j1 d1,.slice B2 j2 d2,.int .i64 la',.slice B3 j3 d3,.bool hd']]) (by simp [results,Tryz.results14,go_sem,b0,b1,b2,b3,b4,b5]) rfl ?_
 exact HEND.out _ (Kept.drew (xx1 (Kept.refl _ _) (Or.inl rfl) _ _ _ _ _ _))
set_option maxRecDepth 100000 in
set_option maxHeartbeats 4000000 in
theorem yzr {w W : World} {p hp : Nat} {S D : Nat -> Prop} {v : PoolW} {k : Nat} {pages : Int} {mv : Value} (hD : ∀ b,W.heap.size <= b -> D b) (s : PoolSt w W p hp S v k pages) (hc : Calm v.plain) (hk : k + 1 <= 60000) (d : PoIs W (fun b => ¬ S b /\ D b) v.plain mv) (a : Act9) (ha : a.kind = 1) (hsw : Sl w w.heap.size a.A a.len (a.at'.map iv)) (hN : a.len <= 60000) (hid : ∀ i ∈ a.at',in64 i) :
  Calls Tryz.prog 14 #[.pointer (some ⟨hp,0,none⟩),.pointer (some ⟨p,0,none⟩),mv,.agg #[.int .i64 a.kind,.int .i64 a.order,.bool a.on,.slice a.A a.len a.cap]] W (DoesTo9 w W p hp S D (qStep v.plain a) (k + 1) pages) := by
 obtain ⟨A,m,c,A2,m2,c2,A3,m3,c3,hmv,d⟩ : ∃ A m c A2 m2 c2 A3 m3 c3,mv = pval v.h.pages A m c A2 m2 c2 v.h.last A3 m3 c3 v.held /\ PoIs W (fun b => ¬ S b /\ D b) v.plain mv := by
  obtain ⟨A,n,c,A2,n2,c2,A3,n3,c3,ys,e,_⟩ := id d
  exact ⟨A,n,c,A2,n2,c2,A3,n3,c3,e,d⟩
 subst hmv
 obtain ⟨W0,hW0⟩ : ∃ W0,W0 = (((W.alloc (.cells #[.int .i64 v.h.pages,.slice A m c,.slice A2 m2 c2,.int .i64 v.h.last,.slice A3 m3 c3,.bool v.held] 35)).alloc (.cells #[.int .i64 a.kind,.int .i64 a.order,.bool a.on,.slice a.A a.len a.cap] 40)).alloc (.cells #[.int .i64 0,.slice none 0 0,.slice none 0 0,.int .i64 0,.slice none 0 0,.bool false] 35)) := ⟨_,rfl⟩
 have HA0 := ActSt9.start s a d 35 40 35
 rw [<- hW0] at HA0
 rw [qStep_1 ha]
 obtain ⟨⟨q',no⟩,hT⟩ : ∃ r,pGive v.plain a.at' = r := ⟨_,rfl⟩
 have hT2 : gGive v.plain a.at' = (q',no) := by rw [gGive_eq hc];exact hT
 rw [hT]
 have hs : Sl W W.heap.size a.A a.len (a.at'.map iv) := (hsw.below s.bel).more s.bel.size
 have hAS : 0 < a.len -> ∀ x,a.A = some x -> ¬ S x.block := fun h0 x hx hS => by
  obtain ⟨b,off,e,hb,_⟩ := hsw.2 h0
  rw [hx] at e
  injection e with e
  have := s.low _ hS
  rw [e] at this
  exact absurd this (by show ¬ w.heap.size <= b;omega)
 obtain ⟨pg,hpg⟩ : ∃ x,v.h.pages = x := ⟨_,rfl⟩
 obtain ⟨la,hla⟩ : ∃ x,v.h.last = x := ⟨_,rfl⟩
 obtain ⟨hd,hhd⟩ : ∃ x,v.held = x := ⟨_,rfl⟩
 obtain ⟨pg',hpg'⟩ : ∃ x,q'.heap.pages = x := ⟨_,rfl⟩
 obtain ⟨la',hla'⟩ : ∃ x,q'.heap.last = x := ⟨_,rfl⟩
 obtain ⟨hd',hhd'⟩ : ∃ x,q'.held = x := ⟨_,rfl⟩
 have hSlt := s.lt
 have CT : Hid (Calls Tryz.prog 67 #[.agg #[.int .i64 pg,.slice A m c,.slice A2 m2 c2,.int .i64 la,.slice A3 m3 c3,.bool hd],.slice a.A a.len a.cap] W0 fun e w1 => ∃ B j1 d1 B2 j2 d2 B3 j3 d3,e = .returned (.tuple #[.agg #[.int .i64 pg',.slice B j1 d1,.slice B2 j2 d2,.int .i64 la',.slice B3 j3 d3,.bool hd'],.int .i64 no]) /\ Hid (PoIs w1 (fun b => (¬ S b /\ D b) /\ ¬ (W.heap.size <= b /\ b < W.heap.size + 3)) q' (.agg #[.int .i64 pg',.slice B j1 d1,.slice B2 j2 d2,.int .i64 la',.slice B3 j3 d3,.bool hd'])) /\ Hid (Below W0.heap.size W0 w1)) := hidb (by
  obtain ⟨f1,f2,f3⟩ := s.few (by omega)
  have := yvi (fun b => (¬ S b /\ D b) /\ ¬ (W.heap.size <= b /\ b < W.heap.size + 3)) v.plain _ a.A a.len a.cap a.at' W0 (fun b hb => ⟨⟨fun c => by have := hSlt b c;have := HA0.sz;omega,hD b (by have := HA0.sz;omega)⟩,by have := HA0.sz;omega⟩) s.pok HA0.po f2 f1 f3 ((hs.below HA0.bel).more HA0.bel.size) hN hid
  unfold pval at this
  rw [hT,hpg,hla,hhd] at this
  refine this.mono ?_
  rintro e w1 ⟨v'',rfl,k1,hb⟩
  obtain ⟨B,j1,d1,B2,j2,d2,B3,j3,d3,ys,e,_⟩ := id k1
  unfold pval at e
  rw [hpg',hla',hhd'] at e
  subst e
  exact ⟨B,j1,d1,B2,j2,d2,B3,j3,d3,rfl,hidb k1,hidb hb⟩)
 have CK : Hid (∀ W2,Below W.heap.size W W2 -> Calls Tryz.prog 68 #[.pointer (some ⟨p,0,none⟩),.slice a.A a.len a.cap] W2 fun e w3 => e = .returned (.int .i64 no) /\ ∃ S' u,Hid (PoolSt w w3 p hp S' u (k + 1) pages /\ u.plain = q' /\ SideP S W2 S' w3)) := hidb (fun W2 hb => (k_pgive (s.below hb) a.A a.len a.cap a.at' ((hs.below hb).more hb.size) hAS (by omega) hid q' no hT2).mono fun e w3 ⟨x,S',u,y,y2,z⟩ => ⟨x,S',u,hidb ⟨y.later (by omega),y2,z⟩⟩)
 have HA := hidb HA0
 have HS := hidb hSlt
 have hwW := s.bel.size
 have HW0 := hidb hW0
 obtain ⟨a0,a1,a2,a3⟩ := HA.out.a4 W0 (Below.refl _ _)
 obtain ⟨c0,c1,c2',c3',c4',c5',_⟩ := HA.out.m6
 rw [hpg] at c0
 rw [hla] at c3'
 rw [hhd] at c5'
 rw [hpg,hla,hhd] at HW0
 unfold pval
 rw [hpg,hla,hhd]
 rw [ha] at HW0 a0 ⊢
 have hz := HA.out.sz
 clear HA0 hW0 s hT hT2 hSlt d hpg hla hhd hpg' hla' hhd' hk hs hsw hN hid hAS hc
 go_enter Tryz.func14,Tryz.ntmps14
 go_wp2_with (first
  | (go_at_call 67;go_loud (rw [<- HW0.out]);(with_reducible refine CT.out.mono ?_);rintro e w1 ⟨B,j1,d1,B2,j2,d2,B3,j3,d3,rfl,HK1,HB1⟩;have hw1 := HB1.out.size;clear a0 a1 a2 a3 c0 c1 c2' c3' c4' c5'))
 have hnS : ∀ b,W.heap.size <= b -> ¬ S b := fun b hb c => by have := HS.out b c;omega
 obtain ⟨W2,hW2⟩ : ∃ W2,W2 = w1.alloc (.cells #[.int .i64 pg',.slice B j1 d1,.slice B2 j2 d2,.int .i64 la',.slice B3 j3 d3,.bool hd'] 35) := ⟨_,rfl⟩
 rw [<- hW2]
 have hb12 : Below w1.heap.size w1 W2 := by rw [hW2];exact (Below.refl _ _).alloc (Nat.le_refl _) _
 have hz2 : W2.heap.size = w1.heap.size + 1 := by rw [hW2];simp
 have hB2 : Below W.heap.size W W2.drew := ((HA.out.bel.trans (HB1.out.mono HA.out.bel.size)).trans (hb12.mono (by omega))).drew
 have g10 : F6 W2 w1.heap.size (.int .i64 pg') (.slice B j1 d1) (.slice B2 j2 d2) (.int .i64 la') (.slice B3 j3 d3) (.bool hd') := by rw [hW2];exact F6.made w1 _ _ _ _ _ _ _
 have g9 : F6 W2 (W.heap.size + 1 + 1) (.int .i64 0) (.slice none 0 0) (.slice none 0 0) (.int .i64 0) (.slice none 0 0) (.bool false) := (HA.out.r6.below HB1.out).below hb12
 have hb02 : Below W0.heap.size W0 W2 := HB1.out.trans (hb12.mono hw1)
 have CK2 : Hid (Calls Tryz.prog 68 #[.pointer (some ⟨p,0,none⟩),.slice a.A a.len a.cap] W2.drew fun e w3 => e = .returned (.int .i64 no) /\ F6 w3 w1.heap.size (.int .i64 pg') (.slice B j1 d1) (.slice B2 j2 d2) (.int .i64 la') (.slice B3 j3 d3) (.bool hd') /\ F6 w3 (W.heap.size + 1 + 1) (.int .i64 0) (.slice none 0 0) (.slice none 0 0) (.int .i64 0) (.slice none 0 0) (.bool false) /\ w3.cell? ⟨W.heap.size + 1,3,none⟩ = some (.slice a.A a.len a.cap) /\
   Hid (∀ WF,Kept (fun b => W.heap.size + 2 = b) w3 WF -> DoesTo9 w W p hp S D q' (k + 1) pages (.returned (.tuple #[.bool true,.agg #[.int .i64 pg',.slice B j1 d1,.slice B2 j2 d2,.int .i64 la',.slice B3 j3 d3,.bool hd']])) WF)) := hidb ((CK.out _ hB2).mono (by
  rintro e w3 ⟨rfl,S3,u3,HS3⟩
  have hz3 := HS3.out.2.2.1.size
  refine ⟨rfl,HS3.out.2.2.f6 (g10.below (Below.refl _ _).drew) (hnS _ (by omega)),HS3.out.2.2.f6 (g9.below (Below.refl _ _).drew) (hnS _ (by omega)),(World.cell?_of_block (w := W2.drew) (a := ⟨W.heap.size + 1,3,none⟩) (HS3.out.2.2.1.block (W.heap.size + 1) (by show _ < W2.heap.size;omega) (hnS _ (by omega)))).trans (by have := HA.out.a4 W2 hb02;exact this.2.2.2),hidb (fun WF hK => ?_)⟩
  exact xv3 (T := fun b => W.heap.size <= b /\ b < W.heap.size + 3) hB2 (fun b hb => by show _ /\ b < W2.heap.size;omega) HS.out hwW ((HK1.out.below hb12).below (Below.refl _ _).drew) (by have := HS3.out.1.pok.hok.fl;rw [HS3.out.2.1] at this;omega) HS3.out.1 HS3.out.2.1 HS3.out.2.2 (Below.refl _ _) (⟨hK.os,hK.tape,hK.output,hK.size,fun b hb hn => hK.block b hb (fun e => hn (by omega))⟩)))
 obtain ⟨a0,a1,a2,a3⟩ := HA.out.a4 W2 hb02
 obtain ⟨x0,x1,x2,x3,x4,x5,_⟩ := g10
 obtain ⟨r0,r1,r2,r3,r4,r5,rf⟩ := g9
 have rf0 := rf 0
 have rf1 := rf 1
 have rf2 := rf 2
 have rf3 := rf 3
 have rf4 := rf 4
 have rf5 := rf 5
 have nn1 : ¬ W.heap.size + 1 + 1 = w1.heap.size := by omega
 have nn4 : ¬ W.heap.size + 1 = w1.heap.size := by omega
 have nn5 : ¬ w1.heap.size = W.heap.size + 1 + 1 := by omega
 have nn6 : ¬ w1.heap.size = W.heap.size + 1 := by omega
 clear hW2 hb12 hz2 hB2 rf CT CK HK1 HB1 hnS hb02
 go_region_held3 (fun W' => W'.cell? ⟨w1.heap.size,0,none⟩ = some (.int .i64 pg') /\ W'.cell? ⟨w1.heap.size,1,none⟩ = some (.slice B j1 d1) /\ W'.cell? ⟨w1.heap.size,2,none⟩ = some (.slice B2 j2 d2) /\ W'.cell? ⟨w1.heap.size,3,none⟩ = some (.int .i64 la') /\ W'.cell? ⟨w1.heap.size,4,none⟩ = some (.slice B3 j3 d3) /\ W'.cell? ⟨w1.heap.size,5,none⟩ = some (.bool hd') /\ W'.cell? ⟨W.heap.size + 1,3,none⟩ = some (.slice a.A a.len a.cap)) (go_keep)
  (first | (go_at_call 68;(with_reducible refine CK2.out.mono ?_);rintro e w3 ⟨rfl,⟨y0,y1,y2,y3,y4,y5,_⟩,t9,y7,HEND⟩;have HE9 := hidb (t9.put (.int .i64 pg') (.slice B j1 d1) (.slice B2 j2 d2) (.int .i64 la') (.slice B3 j3 d3) (.bool hd'));obtain ⟨u0,u1,u2,u3,u4,u5,uf⟩ := t9;have uf0 := uf 0;have uf1 := uf 1;have uf2 := uf 2;have uf3 := uf 3;have uf4 := uf 4;have uf5 := uf 5;clear uf))
 go_wp2
 obtain ⟨b0,b1,b2,b3,b4,b5,_⟩ := HE9.out
 unfold set6 at b0 b1 b2 b3 b4 b5
 refine bodyPost_ret (v := .tuple #[.bool true,.agg #[.int .i64 pg',.slice B j1 d1,.slice B2 j2 d2,.int .i64 la',.slice B3 j3 d3,.bool hd']]) (by simp [results,Tryz.results14,go_sem,b0,b1,b2,b3,b4,b5]) rfl ?_
 first
  | exact HEND.out _ (xx1 (Kept.refl _ _) (Or.inl rfl) _ _ _ _ _ _)
  | exact HEND.out _ (Kept.drew (xx1 (Kept.refl _ _) (Or.inl rfl) _ _ _ _ _ _))
set_option maxRecDepth 100000 in
set_option maxHeartbeats 4000000 in
theorem yzs {w W : World} {p hp : Nat} {S D : Nat -> Prop} {v : PoolW} {k : Nat} {pages : Int} {mv : Value} (hD : ∀ b,W.heap.size <= b -> D b) (s : PoolSt w W p hp S v k pages) (hk : k + 1 <= 60000) (d : PoIs W (fun b => ¬ S b /\ D b) v.plain mv) (a : Act9) (ha : a.kind = 2) :
  Calls Tryz.prog 14 #[.pointer (some ⟨hp,0,none⟩),.pointer (some ⟨p,0,none⟩),mv,.agg #[.int .i64 a.kind,.int .i64 a.order,.bool a.on,.slice a.A a.len a.cap]] W (DoesTo9 w W p hp S D (qStep v.plain a) (k + 1) pages) := by
 obtain ⟨A,m,c,A2,m2,c2,A3,m3,c3,hmv,d⟩ : ∃ A m c A2 m2 c2 A3 m3 c3,mv = pval v.h.pages A m c A2 m2 c2 v.h.last A3 m3 c3 v.held /\ PoIs W (fun b => ¬ S b /\ D b) v.plain mv := by
  obtain ⟨A,n,c,A2,n2,c2,A3,n3,c3,ys,e,_⟩ := id d
  exact ⟨A,n,c,A2,n2,c2,A3,n3,c3,e,d⟩
 subst hmv
 obtain ⟨W0,hW0⟩ : ∃ W0,W0 = (((W.alloc (.cells #[.int .i64 v.h.pages,.slice A m c,.slice A2 m2 c2,.int .i64 v.h.last,.slice A3 m3 c3,.bool v.held] 35)).alloc (.cells #[.int .i64 a.kind,.int .i64 a.order,.bool a.on,.slice a.A a.len a.cap] 40)).alloc (.cells #[.int .i64 0,.slice none 0 0,.slice none 0 0,.int .i64 0,.slice none 0 0,.bool false] 35)) := ⟨_,rfl⟩
 have HA0 := ActSt9.start s a d 35 40 35
 rw [<- hW0] at HA0
 rw [qStep_2 ha]
 obtain ⟨q',hT⟩ : ∃ r,pSweep { v.plain with held := a.on } = r := ⟨_,rfl⟩
 rw [hT]
 obtain ⟨pg,hpg⟩ : ∃ x,v.h.pages = x := ⟨_,rfl⟩
 obtain ⟨la,hla⟩ : ∃ x,v.h.last = x := ⟨_,rfl⟩
 obtain ⟨hd,hhd⟩ : ∃ x,v.held = x := ⟨_,rfl⟩
 obtain ⟨pg',hpg'⟩ : ∃ x,q'.heap.pages = x := ⟨_,rfl⟩
 obtain ⟨la',hla'⟩ : ∃ x,q'.heap.last = x := ⟨_,rfl⟩
 obtain ⟨hd',hhd'⟩ : ∃ x,q'.held = x := ⟨_,rfl⟩
 have hSlt := s.lt
 have CT : Hid (Calls Tryz.prog 69 #[.agg #[.int .i64 pg,.slice A m c,.slice A2 m2 c2,.int .i64 la,.slice A3 m3 c3,.bool hd],.bool a.on] W0 fun e w1 => ∃ B j1 d1 B2 j2 d2 B3 j3 d3,e = .returned (.tuple #[.agg #[.int .i64 pg',.slice B j1 d1,.slice B2 j2 d2,.int .i64 la',.slice B3 j3 d3,.bool hd'],.bool hd]) /\ Hid (PoIs w1 (fun b => (¬ S b /\ D b) /\ ¬ (W.heap.size <= b /\ b < W.heap.size + 3)) q' (.agg #[.int .i64 pg',.slice B j1 d1,.slice B2 j2 d2,.int .i64 la',.slice B3 j3 d3,.bool hd'])) /\ Hid (Below W0.heap.size W0 w1)) := hidb (by
  obtain ⟨f1,f2,f3⟩ := s.few (by omega)
  have := yva (fun b => (¬ S b /\ D b) /\ ¬ (W.heap.size <= b /\ b < W.heap.size + 3)) v.plain _ a.on W0 (fun b hb => ⟨⟨fun c => by have := hSlt b c;have := HA0.sz;omega,hD b (by have := HA0.sz;omega)⟩,by have := HA0.sz;omega⟩) s.pok HA0.po (by omega) (by omega) f3
  unfold pval at this
  rw [hT,hpg,hla,show v.plain.held = hd from hhd,hhd] at this
  refine this.mono ?_
  rintro e w1 ⟨v'',rfl,k1,hb⟩
  obtain ⟨B,j1,d1,B2,j2,d2,B3,j3,d3,ys,e,_⟩ := id k1
  unfold pval at e
  rw [hpg',hla',hhd'] at e
  subst e
  exact ⟨B,j1,d1,B2,j2,d2,B3,j3,d3,rfl,hidb k1,hidb hb⟩)
 have CK : Hid (∀ W2,Below W.heap.size W W2 -> Calls Tryz.prog 70 #[.pointer (some ⟨p,0,none⟩),.bool a.on] W2 fun e w3 => e = .returned (.bool hd) /\ ∃ S' u,Hid (PoolSt w w3 p hp S' u (k + 1) pages /\ u.plain = q' /\ SideP S W2 S' w3)) := hidb (fun W2 hb => (k_phold (s.below hb) a.on q' hd hT hhd).mono fun e w3 ⟨x,S',u,y,y2,z⟩ => ⟨x,S',u,hidb ⟨y.later (by omega),y2,z⟩⟩)
 have HA := hidb HA0
 have HS := hidb hSlt
 have hwW := s.bel.size
 have HW0 := hidb hW0
 obtain ⟨a0,a1,a2,a3⟩ := HA.out.a4 W0 (Below.refl _ _)
 obtain ⟨c0,c1,c2',c3',c4',c5',_⟩ := HA.out.m6
 rw [hpg] at c0
 rw [hla] at c3'
 rw [hhd] at c5'
 rw [hpg,hla,hhd] at HW0
 unfold pval
 rw [hpg,hla,hhd]
 rw [ha] at HW0 a0 ⊢
 have hz := HA.out.sz
 clear HA0 hW0 s hT hSlt d hpg hla hhd hpg' hla' hhd' hk
 go_enter Tryz.func14,Tryz.ntmps14
 go_wp2_with (first
  | (go_at_call 69;go_loud (rw [<- HW0.out]);(with_reducible refine CT.out.mono ?_);rintro e w1 ⟨B,j1,d1,B2,j2,d2,B3,j3,d3,rfl,HK1,HB1⟩;have hw1 := HB1.out.size;clear a0 a1 a2 a3 c0 c1 c2' c3' c4' c5'))
 have hnS : ∀ b,W.heap.size <= b -> ¬ S b := fun b hb c => by have := HS.out b c;omega
 obtain ⟨W2,hW2⟩ : ∃ W2,W2 = w1.alloc (.cells #[.int .i64 pg',.slice B j1 d1,.slice B2 j2 d2,.int .i64 la',.slice B3 j3 d3,.bool hd'] 35) := ⟨_,rfl⟩
 rw [<- hW2]
 have hb12 : Below w1.heap.size w1 W2 := by rw [hW2];exact (Below.refl _ _).alloc (Nat.le_refl _) _
 have hz2 : W2.heap.size = w1.heap.size + 1 := by rw [hW2];simp
 have hB2 : Below W.heap.size W W2.drew := ((HA.out.bel.trans (HB1.out.mono HA.out.bel.size)).trans (hb12.mono (by omega))).drew
 have g10 : F6 W2 w1.heap.size (.int .i64 pg') (.slice B j1 d1) (.slice B2 j2 d2) (.int .i64 la') (.slice B3 j3 d3) (.bool hd') := by rw [hW2];exact F6.made w1 _ _ _ _ _ _ _
 have g9 : F6 W2 (W.heap.size + 1 + 1) (.int .i64 0) (.slice none 0 0) (.slice none 0 0) (.int .i64 0) (.slice none 0 0) (.bool false) := (HA.out.r6.below HB1.out).below hb12
 have hb02 : Below W0.heap.size W0 W2 := HB1.out.trans (hb12.mono hw1)
 have CK2 : Hid (Calls Tryz.prog 70 #[.pointer (some ⟨p,0,none⟩),.bool a.on] W2.drew fun e w3 => e = .returned (.bool hd) /\ F6 w3 w1.heap.size (.int .i64 pg') (.slice B j1 d1) (.slice B2 j2 d2) (.int .i64 la') (.slice B3 j3 d3) (.bool hd') /\ F6 w3 (W.heap.size + 1 + 1) (.int .i64 0) (.slice none 0 0) (.slice none 0 0) (.int .i64 0) (.slice none 0 0) (.bool false) /\ w3.cell? ⟨W.heap.size + 1,2,none⟩ = some (.bool a.on) /\
   Hid (∀ WF,Kept (fun b => W.heap.size + 2 = b) w3 WF -> DoesTo9 w W p hp S D q' (k + 1) pages (.returned (.tuple #[.bool true,.agg #[.int .i64 pg',.slice B j1 d1,.slice B2 j2 d2,.int .i64 la',.slice B3 j3 d3,.bool hd']])) WF)) := hidb ((CK.out _ hB2).mono (by
  rintro e w3 ⟨rfl,S3,u3,HS3⟩
  have hz3 := HS3.out.2.2.1.size
  refine ⟨rfl,HS3.out.2.2.f6 (g10.below (Below.refl _ _).drew) (hnS _ (by omega)),HS3.out.2.2.f6 (g9.below (Below.refl _ _).drew) (hnS _ (by omega)),(World.cell?_of_block (w := W2.drew) (a := ⟨W.heap.size + 1,2,none⟩) (HS3.out.2.2.1.block (W.heap.size + 1) (by show _ < W2.heap.size;omega) (hnS _ (by omega)))).trans (by have := HA.out.a4 W2 hb02;exact this.2.2.1),hidb (fun WF hK => ?_)⟩
  exact xv3 (T := fun b => W.heap.size <= b /\ b < W.heap.size + 3) hB2 (fun b hb => by show _ /\ b < W2.heap.size;omega) HS.out hwW ((HK1.out.below hb12).below (Below.refl _ _).drew) (by have := HS3.out.1.pok.hok.fl;rw [HS3.out.2.1] at this;omega) HS3.out.1 HS3.out.2.1 HS3.out.2.2 (Below.refl _ _) (⟨hK.os,hK.tape,hK.output,hK.size,fun b hb hn => hK.block b hb (fun e => hn (by omega))⟩)))
 obtain ⟨a0,a1,a2,a3⟩ := HA.out.a4 W2 hb02
 obtain ⟨x0,x1,x2,x3,x4,x5,_⟩ := g10
 obtain ⟨r0,r1,r2,r3,r4,r5,rf⟩ := g9
 have rf0 := rf 0
 have rf1 := rf 1
 have rf2 := rf 2
 have rf3 := rf 3
 have rf4 := rf 4
 have rf5 := rf 5
 have nn1 : ¬ W.heap.size + 1 + 1 = w1.heap.size := by omega
 have nn4 : ¬ W.heap.size + 1 = w1.heap.size := by omega
 have nn5 : ¬ w1.heap.size = W.heap.size + 1 + 1 := by omega
 have nn6 : ¬ w1.heap.size = W.heap.size + 1 := by omega
 clear hW2 hb12 hz2 hB2 rf CT CK HK1 HB1 hnS hb02
 go_region_held3 (fun W' => W'.cell? ⟨w1.heap.size,0,none⟩ = some (.int .i64 pg') /\ W'.cell? ⟨w1.heap.size,1,none⟩ = some (.slice B j1 d1) /\ W'.cell? ⟨w1.heap.size,2,none⟩ = some (.slice B2 j2 d2) /\ W'.cell? ⟨w1.heap.size,3,none⟩ = some (.int .i64 la') /\ W'.cell? ⟨w1.heap.size,4,none⟩ = some (.slice B3 j3 d3) /\ W'.cell? ⟨w1.heap.size,5,none⟩ = some (.bool hd') /\ W'.cell? ⟨W.heap.size + 1,2,none⟩ = some (.bool a.on)) (go_keep)
  (first | (go_at_call 70;(with_reducible refine CK2.out.mono ?_);rintro e w3 ⟨rfl,⟨y0,y1,y2,y3,y4,y5,_⟩,t9,y7,HEND⟩;have HE9 := hidb (t9.put (.int .i64 pg') (.slice B j1 d1) (.slice B2 j2 d2) (.int .i64 la') (.slice B3 j3 d3) (.bool hd'));obtain ⟨u0,u1,u2,u3,u4,u5,uf⟩ := t9;have uf0 := uf 0;have uf1 := uf 1;have uf2 := uf 2;have uf3 := uf 3;have uf4 := uf 4;have uf5 := uf 5;clear uf))
 go_wp2
 obtain ⟨b0,b1,b2,b3,b4,b5,_⟩ := HE9.out
 unfold set6 at b0 b1 b2 b3 b4 b5
 refine bodyPost_ret (v := .tuple #[.bool true,.agg #[.int .i64 pg',.slice B j1 d1,.slice B2 j2 d2,.int .i64 la',.slice B3 j3 d3,.bool hd']]) (by simp [results,Tryz.results14,go_sem,b0,b1,b2,b3,b4,b5]) rfl ?_
 first
  | exact HEND.out _ (xx1 (Kept.refl _ _) (Or.inl rfl) _ _ _ _ _ _)
  | exact HEND.out _ (Kept.drew (xx1 (Kept.refl _ _) (Or.inl rfl) _ _ _ _ _ _))
theorem kept_alP {T : Nat -> Prop} {w W : World} (h : Kept T w W) (o : Obj) : Kept T w (W.alloc o) :=
 h.trans (S' := fun _ => False) (Kept.of_below ((Below.refl _ W).alloc (Nat.le_refl _) o) _) (fun _ _ => False.elim)
theorem F6.asideG {W : World} {b b' : Nat} {x0 x1 x2 x3 x4 x5 : Value} (h : F6 W b x0 x1 x2 x3 x4 x5) (hne : b' ≠ b) (u0 u1 u2 u3 : Value) : F6 (setG4 W b' u0 u1 u2 u3) b x0 x1 x2 x3 x4 x5 :=
 h.kept (xjv (Kept.refl (fun x => x = b') W) (Or.inl rfl) u0 u1 u2 u3) fun e => hne e.symm
theorem G4.asideG {W : World} {b b' : Nat} {x0 x1 x2 x3 : Value} (h : G4 W b x0 x1 x2 x3) (hne : b' ≠ b) (u0 u1 u2 u3 : Value) : G4 (setG4 W b' u0 u1 u2 u3) b x0 x1 x2 x3 :=
 h.kept (xjv (Kept.refl (fun x => x = b') W) (Or.inl rfl) u0 u1 u2 u3) fun e => hne e.symm
set_option maxRecDepth 100000 in
set_option maxHeartbeats 4000000 in
theorem yzt {w W : World} {p hp : Nat} {S D : Nat -> Prop} {v : PoolW} {k : Nat} {pages : Int} {mv : Value} (hD : ∀ b,W.heap.size <= b -> D b) (s : PoolSt w W p hp S v k pages) (hk : k + 1 <= 60000) (d : PoIs W (fun b => ¬ S b /\ D b) v.plain mv) (a : Act9) (ha0 : a.kind ≠ 0) (ha1 : a.kind ≠ 1) (ha2 : a.kind ≠ 2) (hn : in64 a.order) :
  Calls Tryz.prog 14 #[.pointer (some ⟨hp,0,none⟩),.pointer (some ⟨p,0,none⟩),mv,.agg #[.int .i64 a.kind,.int .i64 a.order,.bool a.on,.slice a.A a.len a.cap]] W (DoesTo9 w W p hp S D (qStep v.plain a) (k + 1) pages) := by
 obtain ⟨A,m,c,A2,m2,c2,A3,m3,c3,hmv,d⟩ : ∃ A m c A2 m2 c2 A3 m3 c3,mv = pval v.h.pages A m c A2 m2 c2 v.h.last A3 m3 c3 v.held /\ PoIs W (fun b => ¬ S b /\ D b) v.plain mv := by
  obtain ⟨A,n,c,A2,n2,c2,A3,n3,c3,ys,e,_⟩ := id d
  exact ⟨A,n,c,A2,n2,c2,A3,n3,c3,e,d⟩
 subst hmv
 obtain ⟨W0,hW0⟩ : ∃ W0,W0 = (((W.alloc (.cells #[.int .i64 v.h.pages,.slice A m c,.slice A2 m2 c2,.int .i64 v.h.last,.slice A3 m3 c3,.bool v.held] 35)).alloc (.cells #[.int .i64 a.kind,.int .i64 a.order,.bool a.on,.slice a.A a.len a.cap] 40)).alloc (.cells #[.int .i64 0,.slice none 0 0,.slice none 0 0,.int .i64 0,.slice none 0 0,.bool false] 35)) := ⟨_,rfl⟩
 have HA := ActSt9.start s a d 35 40 35
 rw [<- hW0] at HA
 rw [qStep_3 ha0 ha1 ha2]
 obtain ⟨⟨g,⟨s1,s2,s3,s4⟩,no⟩,hT⟩ : ∃ r,hMake v.plain.heap a.order (-1) = r := ⟨_,rfl⟩
 rw [hT]
 obtain ⟨T,hTd⟩ : ∃ T : Nat -> Prop,T = fun b => W.heap.size <= b /\ b < W.heap.size + 3 := ⟨_,rfl⟩
 have hpo : PoIs W0 (fun b => (¬ S b /\ D b) /\ ¬ T b) v.plain (pval v.h.pages A m c A2 m2 c2 v.h.last A3 m3 c3 v.held) := by rw [hTd];exact HA.po
 obtain ⟨pg,hpg⟩ : ∃ x,v.h.pages = x := ⟨_,rfl⟩
 obtain ⟨la,hla⟩ : ∃ x,v.h.last = x := ⟨_,rfl⟩
 obtain ⟨hd,hhd⟩ : ∃ x,v.held = x := ⟨_,rfl⟩
 obtain ⟨pg',hpg'⟩ : ∃ x,g.pages = x := ⟨_,rfl⟩
 obtain ⟨la',hla'⟩ : ∃ x,g.last = x := ⟨_,rfl⟩
 have hSlt := s.lt
 have CT : Hid (Calls Tryz.prog 71 #[.agg #[.int .i64 pg,.slice A m c,.slice A2 m2 c2,.int .i64 la],.int .i64 a.order,.int .i64 (-1)] W0 fun e w1 => ∃ B j1 d1 B2 j2 d2,e = .returned (.tuple #[.agg #[.int .i64 pg',.slice B j1 d1,.slice B2 j2 d2,.int .i64 la'],.agg #[.int .i64 s1,.int .i64 s2,.int .i64 s3,.int .i64 s4],.int .i64 no]) /\ Hid (PoIs w1 (fun b => (¬ S b /\ D b) /\ ¬ T b) ⟨g,v.plain.l,v.plain.held⟩ (.agg #[.int .i64 pg',.slice B j1 d1,.slice B2 j2 d2,.int .i64 la',.slice A3 m3 c3,.bool hd])) /\ Hid (Below W0.heap.size W0 w1)) := hidb (by
  obtain ⟨f1,f2,f3⟩ := s.few (by omega)
  obtain ⟨A',n',c',A2',n2',c2',A3',n3',c3',ys,e,hi,q2,q3,q4,q5,q6⟩ := id hpo
  unfold pval at e
  simp only [Value.agg.injEq,Array.mk.injEq,List.cons.injEq,Value.slice.injEq,and_true] at e
  obtain ⟨_,⟨rfl,rfl,rfl⟩,⟨rfl,rfl,rfl⟩,_,⟨rfl,rfl,rfl⟩,_⟩ := e
  have hfl : v.plain.heap.free.length = 1024 := s.pok.hok.fl
  have hll : v.plain.heap.last <= 1000000000 := f3
  have := xV3 (fun b => (¬ S b /\ D b) /\ ¬ T b) v.plain.heap _ a.order (-1) W0 (fun b hb => ⟨⟨fun c => by have := hSlt b c;have := HA.sz;omega,hD b (by have := HA.sz;omega)⟩,fun e => by rw [hTd] at e;have := HA.sz;omega⟩) hi hn ⟨by omega,by omega⟩ hfl (by omega) ⟨s.pok.hok.la,by omega⟩
  unfold hval at this
  rw [hT,show v.plain.heap.pages = pg from hpg,show v.plain.heap.last = la from hla] at this
  refine this.mono ?_
  rintro e w1 ⟨⟨v'',rfl,hv'⟩,hb⟩
  obtain ⟨B,d1,B2,d2,ev,hrest⟩ := hv'
  have hbz := hb.size
  refine ⟨B,g.free.length,d1,B2,g.l.length,d2,?_,hidb ⟨B,g.free.length,d1,B2,g.l.length,d2,A3,m3,c3,ys,?_,⟨B,d1,B2,d2,rfl,hrest⟩,q2.below hb,q3,q4,fun x hx => Nat.lt_of_lt_of_le (q5 x hx) hbz,fun y hy x hx => Nat.lt_of_lt_of_le (q6 y hy x hx) hbz⟩,hidb hb⟩
  ·rw [ev,<- hpg',<- hla'];rfl
  ·unfold pval;rw [<- hpg',<- hla',<- hhd];rfl)
 have CK : Hid (∀ W2,Below W.heap.size W W2 -> Calls Tryz.prog 72 #[.pointer (some ⟨hp,0,none⟩),.int .i64 a.order,.int .i64 (-1)] W2 fun e w3 => e = .returned (.tuple #[.agg #[.int .i64 s1,.int .i64 s2,.int .i64 s3,.int .i64 s4],.int .i64 no]) /\ ∃ S' u,Hid (PoolSt w w3 p hp S' u (k + 1) pages /\ u.plain = ⟨g,v.plain.l,v.plain.held⟩ /\ SideP S W2 S' w3)) := hidb (fun W2 hb => (k_pmake (s.below hb) (by omega) a.order (-1) hn ⟨by omega,by omega⟩ g s1 s2 s3 s4 no hT).mono fun e w3 ⟨x,S',u,y,y2,z⟩ => ⟨x,S',u,hidb ⟨y,y2,z⟩⟩)
 have HA0 := HA
 clear HA
 have HA := hidb HA0
 clear HA0
 have HS := hidb hSlt
 have hwW := s.bel.size
 have HW0 := hidb hW0
 have HE := hidb (hhd : v.held = hd)
 obtain ⟨a0,a1,a2,a3⟩ := HA.out.a4 W0 (Below.refl _ _)
 obtain ⟨c0,c1,c2',c3',c4',c5',_⟩ := HA.out.m6
 rw [hpg] at c0
 rw [hla] at c3'
 rw [hhd] at c5'
 rw [hpg,hla,hhd] at HW0
 have HPL := hidb (⟨hpg,hla⟩ : v.h.pages = pg /\ v.h.last = la)
 unfold pval
 rw [hpg,hla,hhd]
 have hz := HA.out.sz
 have q1 := eql_span s1 s2 s3 s4 s1 s2 s3 s4
 simp only [decide_true] at q1
 have hd0 : decide (a.kind = 0) = false := decide_eq_false ha0
 have hd1 : decide (a.kind = 1) = false := decide_eq_false ha1
 have hd2 : decide (a.kind = 2) = false := decide_eq_false ha2
 clear hW0 s hT hSlt d hpg hla hhd hpg' hla' hn hk hpo
 go_enter Tryz.func14,Tryz.ntmps14
 go_wp2_with (first
  | (go_at_call 71;go_loud (rw [<- HW0.out]);(with_reducible refine CT.out.mono ?_);rintro e w1 ⟨B,j1,d1,B2,j2,d2,rfl,HK1,HB1⟩;obtain ⟨a0,a1,a2,a3⟩ := HA.out.a4 w1 HB1.out;have hw1 := HB1.out.size;have hlt1 : W.heap.size + 1 < w1.heap.size := (by omega);have hlt0 : W.heap.size < w1.heap.size := (by omega))
  | (go_at_call 72;(with_reducible refine (CK.out _ (by repeat (first | exact HA.out.bel.trans (HB1.out.mono HA.out.bel.size) | refine Below.alloc ?_ (by first | omega | (simp;done) | (simp;omega)) _))).mono ?_);rintro e w3 ⟨rfl,S3,u3,HS3⟩;obtain ⟨W2,hW2⟩ : ∃ W2,W2 = (w1.alloc (.cells #[.int .i64 pg',.slice B j1 d1,.slice B2 j2 d2,.int .i64 la'] 32)).alloc (.cells #[.int .i64 s1,.int .i64 s2,.int .i64 s3,.int .i64 s4] 49) := ⟨_,rfl⟩;rw [<- hW2] at HS3;have hz2 : W2.heap.size = w1.heap.size + 2 := (by rw [hW2];simp);have hb12 : Below w1.heap.size w1 W2 := (by rw [hW2];exact ((Below.refl _ _).alloc (Nat.le_refl _) _).alloc (by simp) _);have hnS : ∀ b,W.heap.size <= b -> ¬ S b := (fun b hb c => by have := HS.out b c;omega);have h3m := HS3.out.2.2.f6 ((HA.out.m6.below HB1.out).below hb12) (hnS _ (Nat.le_refl _));have h3h := HS3.out.2.2.g4 (b := w1.heap.size) (by rw [hW2];exact (G4.made w1 _ _ _ _ _).al _) (hnS _ (by omega));obtain ⟨m0,m1,m2',m3',m4',m5,mf⟩ := h3m;obtain ⟨k0,k1,k2,k3,_⟩ := h3h;have mf0 := mf 0;have mf1 := mf 1;have mf2 := mf 2;have mf3 := mf 3;have hz3 := HS3.out.2.2.1.size;have hlt3 : W.heap.size < w3.heap.size := (by omega);have hlt4 : w1.heap.size < w3.heap.size := (by omega);clear mf))
 have hB2 : Below W.heap.size W W2 := (HA.out.bel.trans (HB1.out.mono HA.out.bel.size)).trans (hb12.mono (by omega))
 obtain ⟨W4,hW4⟩ : ∃ W4,W4 = (setG4 w3 W.heap.size (.int .i64 pg') (.slice B j1 d1) (.slice B2 j2 d2) (.int .i64 la')).alloc (.cells #[.int .i64 s1,.int .i64 s2,.int .i64 s3,.int .i64 s4] 49) := ⟨_,rfl⟩
 have hW5 := hW4
 unfold setG4 at hW5
 rw [<- hW5]
 clear hW5
 have hs5 : (setG4 w3 W.heap.size (.int .i64 pg') (.slice B j1 d1) (.slice B2 j2 d2) (.int .i64 la')).heap.size = w3.heap.size := by unfold setG4;simp
 have f10 : F6 W4 W.heap.size (.int .i64 pg') (.slice B j1 d1) (.slice B2 j2 d2) (.int .i64 la') (.slice A3 m3 c3) (.bool hd) := by
  have := (((HS3.out.2.2.f6 ((HA.out.m6.below HB1.out).below hb12) (hnS _ (Nat.le_refl _))).setG4_ (.int .i64 pg') (.slice B j1 d1) (.slice B2 j2 d2) (.int .i64 la')).al (.cells #[.int .i64 s1,.int .i64 s2,.int .i64 s3,.int .i64 s4] 49))
  rw [HE.out,<- hW4] at this
  exact this
 have f11 : G4 W4 (w1.heap.size + 1) (.int .i64 s1) (.int .i64 s2) (.int .i64 s3) (.int .i64 s4) := by
  have h1 := G4.made (w1.alloc (.cells #[.int .i64 pg',.slice B j1 d1,.slice B2 j2 d2,.int .i64 la'] 32)) (.int .i64 s1) (.int .i64 s2) (.int .i64 s3) (.int .i64 s4) 49
  rw [World.size_alloc,<- hW2] at h1
  have := ((HS3.out.2.2.g4 h1 (hnS _ (by omega))).asideG (b' := W.heap.size) (by omega) (.int .i64 pg') (.slice B j1 d1) (.slice B2 j2 d2) (.int .i64 la')).al (.cells #[.int .i64 s1,.int .i64 s2,.int .i64 s3,.int .i64 s4] 49)
  rw [<- hW4] at this
  exact this
 have f13 : G4 W4 w3.heap.size (.int .i64 s1) (.int .i64 s2) (.int .i64 s3) (.int .i64 s4) := by
  have := G4.made (setG4 w3 W.heap.size (.int .i64 pg') (.slice B j1 d1) (.slice B2 j2 d2) (.int .i64 la')) (.int .i64 s1) (.int .i64 s2) (.int .i64 s3) (.int .i64 s4) 49
  rw [hs5,<- hW4] at this
  exact this
 have f9 : F6 W4 (W.heap.size + 1 + 1) (.int .i64 0) (.slice none 0 0) (.slice none 0 0) (.int .i64 0) (.slice none 0 0) (.bool false) := by
  have := ((HS3.out.2.2.f6 ((HA.out.r6.below HB1.out).below hb12) (hnS _ (by omega))).asideG (b' := W.heap.size) (by omega) (.int .i64 pg') (.slice B j1 d1) (.slice B2 j2 d2) (.int .i64 la')).al (.cells #[.int .i64 s1,.int .i64 s2,.int .i64 s3,.int .i64 s4] 49)
  rw [<- hW4] at this
  exact this
 have HE9 := hidb (f9.put (.int .i64 pg') (.slice B j1 d1) (.slice B2 j2 d2) (.int .i64 la') (.slice A3 m3 c3) (.bool hd))
 have HEND : Hid (DoesTo9 w W p hp S D ⟨g,v.plain.l,v.plain.held⟩ (k + 1) pages (.returned (.tuple #[.bool true,.agg #[.int .i64 pg',.slice B j1 d1,.slice B2 j2 d2,.int .i64 la',.slice A3 m3 c3,.bool hd]])) (set6 W4 (W.heap.size + 1 + 1) (.int .i64 pg') (.slice B j1 d1) (.slice B2 j2 d2) (.int .i64 la') (.slice A3 m3 c3) (.bool hd)).drew) := hidb (by
  have hK : Kept T w3 (set6 W4 (W.heap.size + 1 + 1) (.int .i64 pg') (.slice B j1 d1) (.slice B2 j2 d2) (.int .i64 la') (.slice A3 m3 c3) (.bool hd)).drew := by
   rw [hW4]
   exact Kept.drew (xx1 (kept_alP (xjv (Kept.refl _ _) (Or.inl (by rw [hTd];exact ⟨by omega,by omega⟩)) _ _ _ _) _) (Or.inl (by rw [hTd];exact ⟨by omega,by omega⟩)) _ _ _ _ _ _)
  exact xv3 (T := T) hB2 (fun b hb => by rw [hTd] at hb;omega) HS.out hwW (HK1.out.below hb12) (by have := HS3.out.1.pok.hok.fl;rw [HS3.out.2.1] at this;omega) HS3.out.1 HS3.out.2.1 HS3.out.2.2 (Below.refl _ _) hK)
 obtain ⟨x0,x1,x2,x3,x4,x5,_⟩ := f10
 obtain ⟨y0,y1,y2,y3,_⟩ := f11
 obtain ⟨z0,z1,z2,z3,_⟩ := f13
 obtain ⟨r0,r1,r2,r3,r4,r5,rf⟩ := f9
 have rf0 := rf 0
 have rf1 := rf 1
 have rf2 := rf 2
 have rf3 := rf 3
 have rf4 := rf 4
 have rf5 := rf 5
 have nn1 : ¬ W.heap.size + 1 + 1 = w1.heap.size := by omega
 have nn2 : ¬ W.heap.size + 1 + 1 = w1.heap.size + 1 := by omega
 have nn3 : ¬ W.heap.size + 1 + 1 = w3.heap.size := by omega
 have nn4 : ¬ W.heap.size + 1 = w1.heap.size := by omega
 have nn5 : ¬ w1.heap.size = W.heap.size + 1 + 1 := by omega
 have nn6 : ¬ w1.heap.size = W.heap.size + 1 := by omega
 have nn8 : ¬ W.heap.size + 1 + 1 = W.heap.size := by omega
 have nn9 : ¬ W.heap.size = W.heap.size + 1 + 1 := by omega
 have nn7 : ¬ w3.heap.size = W.heap.size + 1 + 1 := by omega
 clear hW2 hW4 hb12 hz2 hB2 hz3 hs5 rf CT CK HS3 HK1 HB1 a0 a1 a2 a3 c0 c1 c2' c3' c4' c5' hnS m0 m1 m2' m3' m4' m5 k0 k1 k2 k3 mf0 mf1 mf2 mf3 hd0 hd1 hd2
 go_region_held3 (fun W' => W'.cell? ⟨W.heap.size,0,none⟩ = some (.int .i64 pg') /\ W'.cell? ⟨W.heap.size,1,none⟩ = some (.slice B j1 d1) /\ W'.cell? ⟨W.heap.size,2,none⟩ = some (.slice B2 j2 d2) /\ W'.cell? ⟨W.heap.size,3,none⟩ = some (.int .i64 la') /\ W'.cell? ⟨W.heap.size,4,none⟩ = some (.slice A3 m3 c3) /\ W'.cell? ⟨W.heap.size,5,none⟩ = some (.bool hd) /\ W'.cell? ⟨(w1.heap.size + 1),0,none⟩ = some (.int .i64 s1) /\ W'.cell? ⟨(w1.heap.size + 1),1,none⟩ = some (.int .i64 s2) /\ W'.cell? ⟨(w1.heap.size + 1),2,none⟩ = some (.int .i64 s3) /\ W'.cell? ⟨(w1.heap.size + 1),3,none⟩ = some (.int .i64 s4) /\ W'.cell? ⟨w3.heap.size,0,none⟩ = some (.int .i64 s1) /\ W'.cell? ⟨w3.heap.size,1,none⟩ = some (.int .i64 s2) /\ W'.cell? ⟨w3.heap.size,2,none⟩ = some (.int .i64 s3) /\ W'.cell? ⟨w3.heap.size,3,none⟩ = some (.int .i64 s4)) (go_keep) (fail)
 go_wp2
 obtain ⟨b0,b1,b2,b3,b4,b5,_⟩ := HE9.out
 unfold set6 at b0 b1 b2 b3 b4 b5
 refine bodyPost_ret (v := .tuple #[.bool true,.agg #[.int .i64 pg',.slice B j1 d1,.slice B2 j2 d2,.int .i64 la',.slice A3 m3 c3,.bool hd]]) (by simp [results,Tryz.results14,go_sem,b0,b1,b2,b3,b4,b5]) rfl ?_
 exact HEND.out
structure L9 (w W : World) (p hp mb : Nat) (S : Nat -> Prop) (v : PoolW) (k : Nat) (pages : Int) (A : Option Addr) (n c : Nat) (A2 : Option Addr) (n2 c2 : Nat) (A3 : Option Addr) (n3 c3 : Nat) : Prop where
 st : PoolSt w W p hp S v k pages
 cm : Calm v.plain
 po : PoIs W (fun b => ¬ S b /\ mb ≠ b) v.plain (pval v.h.pages A n c A2 n2 c2 v.h.last A3 n3 c3 v.held)
 f6 : F6 W mb (.int .i64 v.h.pages) (.slice A n c) (.slice A2 n2 c2) (.int .i64 v.h.last) (.slice A3 n3 c3) (.bool v.held)
 hm : ¬ S mb
 le : w.heap.size <= mb
section
variable {w W W' : World} {p hp mb : Nat} {S : Nat -> Prop} {v : PoolW} {k : Nat} {pages : Int} {A A2 A3 : Option Addr} {n c n2 c2 n3 c3 : Nat}
theorem L9.below (s : L9 w W p hp mb S v k pages A n c A2 n2 c2 A3 n3 c3) (hb : Below W.heap.size W W') : L9 w W' p hp mb S v k pages A n c A2 n2 c2 A3 n3 c3 := ⟨s.st.below hb,s.cm,s.po.below hb,s.f6.below hb,s.hm,s.le⟩
theorem L9.start {w2 w3 : World} {h : HeapV} {ws : List Nat} {t : TypeId} (s : PoolSt w w2 p hp S ⟨h,ws,false,[]⟩ k pages) (hb : Below (w2.alloc (.cells #[.int .i64 0,.slice none 0 0,.slice none 0 0,.int .i64 0,.slice none 0 0,.bool false] t)).heap.size (w2.alloc (.cells #[.int .i64 0,.slice none 0 0,.slice none 0 0,.int .i64 0,.slice none 0 0,.bool false] t)) w3)
  (hh : HIs w3 (fun b => ¬ S b /\ w2.heap.size ≠ b) h (hval h.pages A n c A2 n2 c2 h.last)) : L9 w (setG4 w3 w2.heap.size (.int .i64 h.pages) (.slice A n c) (.slice A2 n2 c2) (.int .i64 h.last)) p hp w2.heap.size S ⟨h,ws,false,[]⟩ k pages A n c A2 n2 c2 none 0 0 := by
 have hz := s.bel.size
 have hb2 := (Below.refl w2.heap.size w2).alloc (Nat.le_refl _) (.cells #[.int .i64 0,.slice none 0 0,.slice none 0 0,.int .i64 0,.slice none 0 0,.bool false] t)
 have hb3 := hb2.trans (hb.mono hb2.size)
 have hK : Kept (fun b => w2.heap.size = b) w3 (setG4 w3 w2.heap.size (.int .i64 h.pages) (.slice A n c) (.slice A2 n2 c2) (.int .i64 h.last)) := xjv (Kept.refl _ _) (Or.inl rfl) _ _ _ _
 have hS : ¬ S w2.heap.size := fun c => by have := s.lt _ c;omega
 have hp : PoIs w3 (fun b => ¬ S b /\ w2.heap.size ≠ b) ⟨h,[],false⟩ (pval h.pages A n c A2 n2 c2 h.last none 0 0 false) :=
  ⟨A,n,c,A2,n2,c2,none,0,0,[],rfl,hh,⟨⟨rfl,fun h => absurd h (Nat.lt_irrefl _)⟩,fun y hy => (by cases hy),InP.none_,fun y hy => (by cases hy)⟩,rfl,⟨Nat.le_refl _,by omega,fun _ => rfl⟩,InP.none_,fun y hy => (by cases hy)⟩
 exact ⟨(s.below hb3).kept hK (fun b hb e => hS (e ▸ hb)) (fun b e => by omega),fun _ c hc => (by cases hc),hp.kept hK (fun b hb => hb.2),((F6.made w2 _ _ _ _ _ _ t).below hb).setG4_ _ _ _ _,hS,hz⟩
theorem yvk {D : Nat -> Prop} {mv : Value} (hD : ∀ b,W.heap.size <= b -> D b) (s : PoolSt w W p hp S v k pages) (cm : Calm v.plain) (hk : k + 1 <= 60000) (d : PoIs W (fun b => ¬ S b /\ D b) v.plain mv) (a : Act9) (hor : in64 a.order) (hs : Sl w w.heap.size a.A a.len (a.at'.map iv)) (hN : a.len <= 60000) (hid : ∀ i ∈ a.at',in64 i) :
  Calls Tryz.prog 14 #[.pointer (some ⟨hp,0,none⟩),.pointer (some ⟨p,0,none⟩),mv,.agg #[.int .i64 a.kind,.int .i64 a.order,.bool a.on,.slice a.A a.len a.cap]] W (DoesTo9 w W p hp S D (qStep v.plain a) (k + 1) pages) := by
 by_cases h0 : a.kind = 0
 ·exact yzq hD s hk d a h0 hor
 by_cases h1 : a.kind = 1
 ·exact yzr hD s cm hk d a h1 hs hN hid
 by_cases h2 : a.kind = 2
 ·exact yzs hD s hk d a h2
 exact yzt hD s hk d a h0 h1 h2 hor
theorem L9.does (s : L9 w W p hp mb S v k pages A n c A2 n2 c2 A3 n3 c3) (hk : k + 1 <= 60000) (a : Act9) (hor : in64 a.order) (hs : Sl w w.heap.size a.A a.len (a.at'.map iv)) (hN : a.len <= 60000) (hid : ∀ i ∈ a.at',in64 i) (la la' : Int) (hd hd' : Bool) (e1 : v.h.last = la) (e2 : v.held = hd) (e3 : (qStep v.plain a).heap.last = la') (e4 : (qStep v.plain a).held = hd') :
  Calls Tryz.prog 14 #[.pointer (some ⟨hp,0,none⟩),.pointer (some ⟨p,0,none⟩),.agg #[.int .i64 pages,.slice A n c,.slice A2 n2 c2,.int .i64 la,.slice A3 n3 c3,.bool hd],.agg #[.int .i64 a.kind,.int .i64 a.order,.bool a.on,.slice a.A a.len a.cap]] W fun e w3 => ∃ B j1 d1 B2 j2 d2 B3 j3 d3,e = .returned (.tuple #[.bool true,.agg #[.int .i64 pages,.slice B j1 d1,.slice B2 j2 d2,.int .i64 la',.slice B3 j3 d3,.bool hd']]) /\
   F6 w3 mb (.int .i64 pages) (.slice A n c) (.slice A2 n2 c2) (.int .i64 la) (.slice A3 n3 c3) (.bool hd) /\ W.heap.size <= w3.heap.size /\
   Hid (∀ W4,Below w3.heap.size w3 W4 -> ∃ S' u,u.plain = qStep v.plain a /\ L9 w (set6 W4 mb (.int .i64 pages) (.slice B j1 d1) (.slice B2 j2 d2) (.int .i64 la') (.slice B3 j3 d3) (.bool hd')) p hp mb S' u (k + 1) pages B j1 d1 B2 j2 d2 B3 j3 d3) := by
 have hlt := s.f6.lt
 have := yvk (D := fun b => mb ≠ b) (fun b hb => by omega) s.st s.cm hk s.po a hor hs hN hid
 unfold pval at this
 rw [s.st.pg,e1,e2] at this
 refine this.mono ?_
 rintro e w3 ⟨mv,rfl,S',u,s',hu,d,hs'⟩
 obtain ⟨B,j1,d1,B2,j2,d2,B3,j3,d3,ys,hmv,_⟩ := id d
 have hpg' : (qStep v.plain a).heap.pages = pages := by rw [<- hu];exact s'.pg
 unfold pval at hmv
 rw [e3,e4,hpg'] at hmv
 subst hmv
 have hf := hs'.f6 s.f6 s.hm
 have hS' : ¬ S' mb := hs'.not hlt s.hm
 rw [s.st.pg,e1,e2] at hf
 have hu1 : u.h.last = la' := by rw [<- e3,<- hu];rfl
 have hu2 : u.held = hd' := by rw [<- e4,<- hu];rfl
 refine ⟨B,j1,d1,B2,j2,d2,B3,j3,d3,rfl,hf,hs'.1.size,hidb (fun W4 hb4 => ⟨S',u,hu,?_⟩)⟩
 have hK : Kept (fun b => mb = b) W4 (set6 W4 mb (.int .i64 pages) (.slice B j1 d1) (.slice B2 j2 d2) (.int .i64 la') (.slice B3 j3 d3) (.bool hd')) := xx1 (Kept.refl _ _) (Or.inl rfl) _ _ _ _ _ _
 have hle := s.le
 exact ⟨(s'.below hb4).kept hK (fun b hb e => hS' (e ▸ hb)) (fun b e => by omega),by rw [hu];exact s.cm.step s.st.pok a,by rw [hu,s'.pg,hu1,hu2];exact (d.below hb4).kept hK (fun b hb => hb.2),by rw [s'.pg,hu1,hu2];exact (hf.below hb4).put _ _ _ _ _ _,hS',hle⟩
end
abbrev CL := (Int × Int) × List Int
end Go.Proofs.YtlcdgmjinhbncaaGreat
