import Derived.Test.YtlcdgmjinhbncaaGreatRPoolSort
import Derived.Test.YtlcdgmjinhbncaaGreatRNamedMap
import Derived.Test.YtlcdgmjinhbncaaGreatRRowWords
import Derived.Test.YtlcdgmjinhbncaaGreatRHeapRefB
import Derived.Test.YtlcdgmjinhbncaaGreatRAppendAt
import Derived.Maps.AppendAt
namespace Go.Proofs.YtlcdgmjinhbncaaGreat
open Go.RowKit
set_option linter.unusedVariables false
theorem xxp {w : World} {base base' size n : Nat} {e : TypeId} {v : Value} {xs : List Value} (h : w.ownsRow base e size v n xs) (hb : base' <= base) : w.ownsRow base' e size v n xs := by
 refine ⟨h.1,?_⟩
 rcases h.2 with h2 | ⟨g,cap,cur,h2,h3,h4⟩
 ·exact Or.inl h2
 ·exact Or.inr ⟨g,cap,cur,h2,Nat.le_trans hb h3,h4⟩
theorem yv2 (o : Int) (w : World) (h0 : -9223372036854775808 <= o) (h1 : o <= 30) :
  Calls Tryz.prog 39 #[.int .i64 o] w fun e w' => e = .returned (.int .i64 (pSize o : Nat)) /\ w = w' := by
 go_enter Tryz.func39,Tryz.ntmps39
 go_wp2
 go_loop [3,4] (fun v i => ∃ (j : Nat) (x : Int),(j : Int) <= max o 0 /\ 0 <= x /\ x <= 17179869184 /\ Hid (x = ((16 * 2 ^ j : Nat) : Int)) /\ v = .int .i64 x /\ i = .int .i64 j) (fun _ i => (o - intOf i).toNat)
 case atStart => exact ⟨0,16,by omega,by omega,by omega,hidb rfl,rfl,rfl⟩
 case round =>
  obtain ⟨j,x,hj,hx0,hx1,HX,rfl,rfl⟩ := hrel
  by_cases hlt : (j : Int) < o
  ·have HN : Hid (2 * x = ((16 * 2 ^ (j + 1) : Nat) : Int) /\ 2 * x <= 17179869184) := hidb (by
    have h1 := HX.out
    have h2 : 2 ^ (j + 1) <= 2 ^ 30 := Nat.pow_le_pow_right (by omega) (by omega)
    have h3 : 2 ^ (j + 1) = 2 * 2 ^ j := by rw [Nat.pow_succ,Nat.mul_comm]
    have h4 : (2 : Nat) ^ 30 = 1073741824 := by decide
    omega)
   have hn2 := HN.out.2
   go_wp2
   go_round
   case rel => exact ⟨j + 1,2 * x,by omega,by omega,hn2,hidb HN.out.1,rfl,by go_num⟩
   case measure => simp [intOf];omega
  ·have E : Hid (x = (pSize o : Nat)) := hidb (by
    rw [HX.out]
    unfold pSize
    rw [show o.toNat = j by omega])
   go_wp2
   go_ret
   exact ⟨by rw [E.out];rfl,rfl⟩
theorem pSize_le (o : Int) (h : o <= 3) : 16 <= pSize o /\ pSize o <= 128 := by
 unfold pSize
 have h1 : 2 ^ o.toNat <= 2 ^ 3 := Nat.pow_le_pow_right (by omega) (by omega)
 have h2 := Nat.pow_pos (n := o.toNat) (show 0 < 2 by omega)
 have h3 : (2 : Nat) ^ 3 = 8 := by decide
 omega
set_option maxRecDepth 100000 in
theorem xkc (id st len o : Int) (w : World) (h0 : 0 <= st) (h1 : 1 <= len) (h2 : st + len <= 1024) (h3 : -1 <= o) (h4 : o <= 3) :
  Calls Tryz.prog 138 #[.agg #[.int .i64 id,.int .i64 st,.int .i64 len,.int .i64 o]] w (OwnInts w (pBlocks (id,st,len,o))) := by
 obtain ⟨i0,hi,hz0,hz1,hz2⟩ := info_parts xqw
 obtain ⟨W0,hW0⟩ : ∃ W0,W0 = w.alloc (.cells #[.int .i64 id,.int .i64 st,.int .i64 len,.int .i64 o] 49) := ⟨_,rfl⟩
 have hz : W0.heap.size = w.heap.size + 1 := by rw [hW0];simp
 have HB0 : Hid (Below w.heap.size w W0) := hidb (by rw [hW0];exact (Below.refl _ _).alloc (Nat.le_refl _) _)
 have q1 : W0.cell? ⟨w.heap.size,1,none⟩ = some (.int .i64 st) := by rw [hW0];simp
 have q2 : W0.cell? ⟨w.heap.size,2,none⟩ = some (.int .i64 len) := by rw [hW0];simp
 have q3 : W0.cell? ⟨w.heap.size,3,none⟩ = some (.int .i64 o) := by rw [hW0];simp
 have HQ : Hid (∀ W,Below W0.heap.size W0 W -> W.cell? ⟨w.heap.size,1,none⟩ = some (.int .i64 st) /\ W.cell? ⟨w.heap.size,2,none⟩ = some (.int .i64 len) /\ W.cell? ⟨w.heap.size,3,none⟩ = some (.int .i64 o)) := hidb (fun W hb => by
  rw [hb.cell (p := ⟨w.heap.size,1,none⟩) (by show w.heap.size < _;omega),hb.cell (p := ⟨w.heap.size,2,none⟩) (by show w.heap.size < _;omega),hb.cell (p := ⟨w.heap.size,3,none⟩) (by show w.heap.size < _;omega)];exact ⟨q1,q2,q3⟩)
 obtain ⟨hs0,hs1⟩ := pSize_le o h4
 have cs := fun W => yv2 o W (by omega) (by omega)
 have HM : Hid (∀ i : Nat,i < pMany len o ↔ i * pSize o < 64 * len.toNat) := hidb (xKf len o)
 have HML : Hid (pMany len o <= 4096) := hidb (yqi len o (by omega))
 obtain ⟨sz,hsz⟩ : ∃ sz,pSize o = sz := ⟨_,rfl⟩
 rw [hsz] at hs0 hs1 cs HM
 obtain ⟨R,hR⟩ : ∃ R,pBlocks (id,st,len,o) = R := ⟨_,rfl⟩
 have HT : Hid (∀ i : Nat,i < pMany len o -> R.take (i + 1) = R.take i ++ [64 * st + ((i * sz : Nat) : Int)]) := hidb (fun i h => by rw [<- hR,xKg _ i h,hsz])
 have HRL : Hid (R.length = pMany len o) := hidb (by rw [<- hR,xq9])
 rw [hR]
 have HW0 := hidb hW0
 have HFIN : Hid (∀ W A' c',W.ownsRow W0.heap.size 3 1 (.slice A' R.length c') R.length (R.map iv) -> Below W0.heap.size W0 W -> OwnInts w R (.returned (.slice A' R.length c')) W) := hidb (fun W A' c' ho hb => ⟨A',c',rfl,xxp ho (by omega),HB0.out.trans (hb.mono HB0.out.size)⟩)
 obtain ⟨N,hN⟩ : ∃ N,pMany len o = N := ⟨_,rfl⟩
 rw [hN] at HM HML HT HRL
 clear hR hsz q1 q2 q3 hN
 go_enter Tryz.func138,Tryz.ntmps138
 go_wp2
 rw [<- hW0,<- hz]
 have hzz : w.heap.size < W0.heap.size := by omega
 clear hW0 hz
 go_loopw [3,4] (fun v k wr => ∃ (i : Nat) (y : Int) (A' : Option Addr) (c' : Nat),i <= N /\ 0 <= y /\ y <= 66000 /\ k = .int .i64 (64 * st + y) /\ v = .slice A' i c' /\ Hid (y = ((i * sz : Nat) : Int)) /\ Hid (wr.ownsRow W0.heap.size 3 1 (.slice A' i c') i ((R.take i).map iv)) /\ Hid (Below W0.heap.size W0 wr)) (fun _ k _ => (64 * (st + len) - intOf k).toNat)
 case atStart => exact ⟨0,0,_,0,by omega,by omega,by omega,by simp,rfl,hidb (by simp),hidb (by rw [List.take_zero];exact xxa W0 _),hidb ((Below.refl _ _).alloc (Nat.le_refl _) _)⟩
 case round =>
  obtain ⟨i,y,A',c',hi',hy0,hy1,rfl,rfl,HY,HOWN,HB⟩ := hrel
  obtain ⟨q1,q2,q3⟩ := HQ.out _ HB.out
  have hown := HOWN.out
  have hsz := HB.out.size
  have hm4 := HML.out
  have HI : Hid (i < N ↔ y < 64 * len) := hidb (by
   rw [HM.out i,HY.out];omega)
  by_cases hlt : y < 64 * len
  ·have hiN := HI.out.2 hlt
   have HT2 := hidb (HT.out i hiN)
   have HY2 : Hid (y + (sz : Int) = (((i + 1) * sz : Nat) : Int)) := hidb (by rw [HY.out,Nat.add_mul,Nat.one_mul];omega)
   go_wp2_with (first
    | (go_at_call 39;(with_reducible refine (cs _).mono ?_);rintro e w' ⟨rfl,rfl⟩)
    | (at_builtin;refine xqo wr rfl _ _ 38 rfl W0.heap.size 3 i0 (.int .i64 0) 8 Tryz.underlying38 hi hz0 hz1 hz2 rfl _ _ _ rfl (by exact hown) hsz (.int .i64 (64 * st + y)) rfl _ rfl (by unfold maxLen;omega) (by omega) ?_;intro v1 w1 hown1 hb1;obtain ⟨A3,c3,rfl⟩ := xzr hown1;obtain ⟨r1,r2,r3⟩ := HQ.out _ (HB.out.trans hb1);have HO1 := hidb hown1;have HB1 := hidb (HB.out.trans hb1);clear hown1 hb1))
   have HO2 : Hid (w1.ownsRow W0.heap.size 3 1 (.slice A3 (i + 1) c3) (i + 1) ((R.take (i + 1)).map iv)) := hidb (by
    have e : 64 * st + ((i * sz : Nat) : Int) = 64 * st + y := by rw [HY.out]
    rw [HT2.out,List.map_append,e]
    exact HO1.out)
   exact ⟨⟨i + 1,y + (sz : Int),A3,c3,by omega,by omega,by omega,by rw [Int.add_assoc],rfl,HY2,HO2,HB1⟩,by simp [intOf];omega⟩
  ·have hiN : i = N := by
    rcases Nat.lt_or_ge i N with c | c
    ·exact absurd (HI.out.1 c) hlt
    ·omega
   subst hiN
   have P : Hid (OwnInts w R (.returned (.slice A' i c')) wr) := hidb (by
    have hl := HRL.out
    rw [List.take_of_length_le (by omega)] at hown
    have h1 := HFIN.out wr A' c' (by rw [hl];exact hown) HB.out
    rw [hl] at h1
    exact h1)
   clear hown HOWN
   go_wp2
   go_ret
   exact P.out
structure CV where
 s : Int × Int × Int × Int
 A : Option Addr
 n : Nat
 c : Nat
 l : List Int
def ccells (y : CV) : List Value := [iv y.s.1,iv y.s.2.1,iv y.s.2.2.1,iv y.s.2.2.2,.slice y.A y.n y.c]
def CV.plain (y : CV) : (Int × Int × Int × Int) × List Int := (y.s,y.l)
def SpanOk (s : Int × Int × Int × Int) : Prop := 0 <= s.2.1 /\ 1 <= s.2.2.1 /\ s.2.1 + s.2.2.1 <= 1024 /\ -1 <= s.2.2.2 /\ s.2.2.2 <= 3
structure Cn (w : World) (P : Nat -> Prop) (A : Option Addr) (n : Nat) (ys : List CV) : Prop where
 row : RowOf (fun cs y => cs = ccells y) 5 w w.heap.size A n ys
 lists : ∀ y ∈ ys,Sl w w.heap.size y.A y.n (y.l.map iv) /\ y.n <= y.c /\ y.c <= 9223372036854775807 /\ (y.A = none -> y.c = 0) /\ InP P y.A /\ y.n <= 65536
 inp : InP P A
 ok : ∀ y ∈ ys,SpanOk y.s
theorem Cn.below {w w' : World} {P : Nat -> Prop} {A : Option Addr} {n : Nat} {ys : List CV} (h : Cn w P A n ys) (hb : Below w.heap.size w w') : Cn w' P A n ys :=
 ⟨(RowOf.below h.row hb).more hb.size,fun y hy => by
  obtain ⟨h1,h2⟩ := h.lists y hy
  exact ⟨(h1.below hb).more hb.size,h2⟩,h.inp,h.ok⟩
theorem Cn.at_ {w : World} {P : Nat -> Prop} {A : Option Addr} {n : Nat} {ys : List CV} (h : Cn w P A n ys) {j : Nat} (hj : j < n) :
  ∃ b off y,A = some ⟨b,off,none⟩ /\ ys[j]? = some y /\ b < w.heap.size /\ w.cell? ⟨b,off + j * 5,none⟩ = some (.int .i64 y.s.1) /\ w.cell? ⟨b,off + j * 5 + 1,none⟩ = some (.int .i64 y.s.2.1) /\ w.cell? ⟨b,off + j * 5 + 2,none⟩ = some (.int .i64 y.s.2.2.1) /\ w.cell? ⟨b,off + j * 5 + 3,none⟩ = some (.int .i64 y.s.2.2.2) /\ w.cell? ⟨b,off + j * 5 + 4,none⟩ = some (.slice y.A y.n y.c) := by
 obtain ⟨b,off,y,cs,e,hb,hy,_,hc,rfl⟩ := RowOf.at_ h.row hj
 exact ⟨b,off,y,e,hy,hb,hc 0 (by omega),hc 1 (by omega),hc 2 (by omega),hc 3 (by omega),hc 4 (by omega)⟩
def pval (pg : Int) (A : Option Addr) (n c : Nat) (A2 : Option Addr) (n2 c2 : Nat) (la : Int) (A3 : Option Addr) (n3 c3 : Nat) (held : Bool) : Value := .agg #[.int .i64 pg,.slice A n c,.slice A2 n2 c2,.int .i64 la,.slice A3 n3 c3,.bool held]
set_option maxRecDepth 100000 in
theorem xJ9 (P : Nat -> Prop) (pg la : Int) (A A2 A3 : Option Addr) (n c n2 c2 n3 c3 : Nat) (held : Bool) (ys : List CV) (at' : Int) (w : World) (hs : Cn w P A3 n3 ys) (hn : n3 <= 65536) (ha : in64 at') :
  Calls Tryz.prog 80 #[pval pg A n c A2 n2 c2 la A3 n3 c3 held,.int .i64 at'] w fun e w' => e = .returned (.int .i64 (idxInt (pOf (ys.map CV.plain) at'))) /\ Below w.heap.size w w' := by
 have l3 : ys.length = n3 := hs.row.1
 obtain ⟨W0,hW0⟩ : ∃ W0,W0 = w.alloc (.cells #[.int .i64 pg,.slice A n c,.slice A2 n2 c2,.int .i64 la,.slice A3 n3 c3,.bool held] 35) := ⟨_,rfl⟩
 have hz : W0.heap.size = w.heap.size + 1 := by rw [hW0];simp
 have HB0 : Hid (Below w.heap.size w W0) := hidb (by rw [hW0];exact (Below.refl _ _).alloc (Nat.le_refl _) _)
 have q4 : W0.cell? ⟨w.heap.size,4,none⟩ = some (.slice A3 n3 c3) := by rw [hW0];simp
 have HQ : Hid (∀ W,Below W0.heap.size W0 W -> W.cell? ⟨w.heap.size,4,none⟩ = some (.slice A3 n3 c3)) := hidb (fun W hb => by
  rw [hb.cell (p := ⟨w.heap.size,4,none⟩) (by show w.heap.size < _;omega)];exact q4)
 have HS : Hid (∀ W,Below W0.heap.size W0 W -> Cn W P A3 n3 ys) := hidb (fun W hb => (hs.below HB0.out).below hb)
 have HE : Hid (∀ W,Below W0.heap.size W0 W -> Below w.heap.size w W) := hidb (fun W hb => HB0.out.trans (hb.mono HB0.out.size))
 obtain ⟨R,hR⟩ : ∃ R,idxInt (pOf (ys.map CV.plain) at') = R := ⟨_,rfl⟩
 rw [hR]
 have HYES : Hid (∀ j y,j < n3 -> ys[j]? = some y -> (∀ i,i < j -> ∀ z,ys[i]? = some z -> at' ∉ pBlocks z.s) -> at' ∈ pBlocks y.s -> R = (j : Int)) := hidb (fun j y hj hy h1 h2 => by
  rw [<- hR]
  unfold pOf
  rw [xzw _ _ j (fun i hi z hz' => ?_) (fun z hz' => ?_) (by rw [List.length_map,l3];exact hj)]
  ·rfl
  ·rw [List.getElem?_map] at hz'
   obtain ⟨z0,hz0,rfl⟩ := Option.map_eq_some_iff.1 hz'
   exact decide_eq_false (h1 i hi z0 hz0)
  ·rw [List.getElem?_map,hy] at hz'
   obtain rfl := Option.some.inj hz'
   exact decide_eq_true h2)
 have HNO : Hid ((∀ i,i < n3 -> ∀ z,ys[i]? = some z -> at' ∉ pBlocks z.s) -> R = -1) := hidb (fun h1 => by
  rw [<- hR]
  unfold pOf
  rw [xjb _ _ (fun i z hz' => ?_)]
  ·rfl
  ·rw [List.getElem?_map] at hz'
   obtain ⟨z0,hz0,rfl⟩ := Option.map_eq_some_iff.1 hz'
   exact decide_eq_false (h1 i (by have := (List.getElem?_eq_some_iff.1 hz0).1;omega) z0 hz0))
 unfold pval
 have ha0 := ha.1
 have ha1 := ha.2
 clear hs q4 hR ha
 go_enter Tryz.func80,Tryz.ntmps80
 go_wp2
 rw [<- hW0]
 clear hW0
 go_loopw [9] (fun k wr => ∃ j : Nat,j <= n3 /\ k = .int .i64 j /\ Hid (∀ i,i < j -> ∀ z,ys[i]? = some z -> at' ∉ pBlocks z.s) /\ Hid (Below W0.heap.size W0 wr)) (fun k _ => (n3 - intOf k).toNat)
 case atStart => exact ⟨0,Nat.zero_le _,rfl,hidb (fun i h => absurd h (Nat.not_lt_zero _)),hidb (Below.refl _ _)⟩
 case round =>
  obtain ⟨j,hj,rfl,HA,HB⟩ := hrel
  have hj0 : (0 : Int) <= (j : Int) := by omega
  by_cases hlt : j < n3
  ·have hj1 : (j : Int) < (n3 : Int) := by omega
   have q4 := HQ.out _ HB.out
   have hcn := HS.out _ HB.out
   obtain ⟨b,off,y,rfl,hy,hb,c0,c1,c2,c3',c4⟩ := hcn.at_ hlt
   obtain ⟨o1,o2,o3,o4,o5⟩ := hcn.ok y (List.mem_of_getElem? hy)
   have cb := xkc y.s.1 y.s.2.1 y.s.2.2.1 y.s.2.2.2 wr o1 o2 o3 o4 o5
   obtain ⟨L,hL⟩ : ∃ L,pBlocks y.s = L := ⟨_,rfl⟩
   have hLl : L.length <= 65536 := by
    rw [<- hL,xq9]
    have := yqi y.s.2.2.1 y.s.2.2.2 (by omega)
    omega
   rw [show pBlocks (y.s.1,y.s.2.1,y.s.2.2.1,y.s.2.2.2) = L from hL] at cb
   unfold OwnInts at cb
   have HY := hidb hy
   have HL := hidb hL
   have hsz := HB.out.size
   clear hcn hy hL hb
   by_cases e : at' ∈ L
   ·have HR2 : Hid (R = (j : Int)) := hidb (HYES.out j y hlt HY.out HA.out (by rw [HL.out];exact e))
    have he : decide (at' ∈ L) = true := decide_eq_true e
    clear e
    go_wp2_with (first
     | (go_at_call 138;(with_reducible refine cb.mono ?_);rintro e w1 ⟨A5,c5,rfl,hown,hb1⟩;have ci := xk8 A5 L.length c5 L at' w1 w1.heap.size (Sl.of_own hown) (by omega);rw [he] at ci;have HB1 := hidb (HB.out.trans (hb1.mono hsz));clear hown hb1)
     | (go_at_call 38;(with_reducible refine ci.mono ?_);rintro e w' ⟨rfl,rfl⟩))
    go_ret
    exact ⟨by rw [HR2.out];rfl,HE.out _ HB1.out⟩
   ·have he : decide (at' ∈ L) = false := decide_eq_false e
    have HA2 : Hid (∀ i,i < j + 1 -> ∀ z,ys[i]? = some z -> at' ∉ pBlocks z.s) := hidb (fun i hi z hz' => by
     by_cases e2 : i = j
     ·subst e2
      rw [HY.out] at hz'
      obtain rfl := Option.some.inj hz'
      rw [HL.out];exact e
     ·exact HA.out i (by omega) z hz')
    clear e
    go_wp2_with (first
     | (go_at_call 138;(with_reducible refine cb.mono ?_);rintro e w1 ⟨A5,c5,rfl,hown,hb1⟩;have ci := xk8 A5 L.length c5 L at' w1 w1.heap.size (Sl.of_own hown) (by omega);rw [he] at ci;have HB1 := hidb (HB.out.trans (hb1.mono hsz));clear hown hb1)
     | (go_at_call 38;(with_reducible refine ci.mono ?_);rintro e w' ⟨rfl,rfl⟩))
    go_roundw
    case rel => exact ⟨j + 1,by omega,by go_num,HA2,HB1⟩
    case measure => simp [intOf];omega
  ·have HR2 : Hid (R = -1) := hidb (HNO.out (fun i hi z hz' => HA.out i (by omega) z hz'))
   go_wp2
   go_ret
   exact ⟨by rw [HR2.out];rfl,HE.out _ HB.out⟩
def pFst (l : List ((Int × Int × Int × Int) × List Int)) (order from' : Int) (some' : Bool) (j : Nat) : Option Nat := (List.range j).foldl (pStep order from' some' l) none
theorem xxf (l : List ((Int × Int × Int × Int) × List Int)) (order from' : Int) (some' : Bool) (j : Nat) : pFst l order from' some' (j + 1) = pStep order from' some' l (pFst l order from' some' j) j := by
 unfold pFst;rw [List.range_succ,List.foldl_append];rfl
theorem xWp (l : List ((Int × Int × Int × Int) × List Int)) (order from' : Int) (some' : Bool) : ∀ j b,pFst l order from' some' j = some b -> b < j
 | 0,b,h => by cases h
 | j + 1,b,h => by
  rw [xxf] at h
  have ih := xWp l order from' some' j
  unfold pStep at h
  split at h
  ·have := ih b h;omega
  ·split at h
   ·cases e : pFst l order from' some' j with
    | none => rw [e] at h;obtain rfl := Option.some.inj h;omega
    | some d =>
     rw [e] at h
     have h1 := ih d e
     simp only at h
     split at h
     ·obtain rfl := Option.some.inj h;omega
     ·split at h
      ·obtain rfl := Option.some.inj h;omega
      ·obtain rfl := Option.some.inj h;omega
   ·have := ih b h;omega
theorem pStep_no {l : List ((Int × Int × Int × Int) × List Int)} {order from' : Int} {some' : Bool} {o : Option Nat} {j : Nat} {c : (Int × Int × Int × Int) × List Int} (hc : l[j]? = some c) (h : pFits order from' some' c = false) : pStep order from' some' l o j = o := by
 unfold pStep;rw [hc];simp only;rw [if_neg (by rw [h];decide)]
theorem xV5 {l : List ((Int × Int × Int × Int) × List Int)} {order from' : Int} {some' : Bool} {j : Nat} {c : (Int × Int × Int × Int) × List Int} (hc : l[j]? = some c) (h : pFits order from' some' c = true) : pStep order from' some' l none j = some j := by
 unfold pStep;rw [hc];simp only;rw [if_pos h]
theorem xv1 {l : List ((Int × Int × Int × Int) × List Int)} {order from' : Int} {some' : Bool} {j b : Nat} {c d : (Int × Int × Int × Int) × List Int} (hc : l[j]? = some c) (h : pFits order from' some' c = true) (hd : l[b]? = some d) : pStep order from' some' l (some b) j = if c.1.2.1 < d.1.2.1 then some j else some b := by
 unfold pStep;rw [hc];simp only;rw [if_pos h,hd]
set_option maxRecDepth 100000 in
set_option maxHeartbeats 2000000 in
theorem xvn (P : Nat -> Prop) (pg la : Int) (A A2 A3 : Option Addr) (n c n2 c2 n3 c3 : Nat) (held : Bool) (ys : List CV) (order from' : Int) (some' : Bool) (w : World) (hs : Cn w P A3 n3 ys) (hn : n3 <= 65536) (ho : in64 order) (hf : in64 from') :
  Calls Tryz.prog 75 #[pval pg A n c A2 n2 c2 la A3 n3 c3 held,.int .i64 order,.int .i64 from',.bool some'] w fun e w' => e = .returned (.int .i64 (idxInt (pFirst (ys.map CV.plain) order from' some'))) /\ Below w.heap.size w w' := by
 have l3 : ys.length = n3 := hs.row.1
 obtain ⟨W0,hW0⟩ : ∃ W0,W0 = w.alloc (.cells #[.int .i64 pg,.slice A n c,.slice A2 n2 c2,.int .i64 la,.slice A3 n3 c3,.bool held] 35) := ⟨_,rfl⟩
 have hz : W0.heap.size = w.heap.size + 1 := by rw [hW0];simp
 have HB0 : Hid (Below w.heap.size w W0) := hidb (by rw [hW0];exact (Below.refl _ _).alloc (Nat.le_refl _) _)
 have q4 : W0.cell? ⟨w.heap.size,4,none⟩ = some (.slice A3 n3 c3) := by rw [hW0];simp
 have HQ : Hid (∀ W,Below W0.heap.size W0 W -> W.cell? ⟨w.heap.size,4,none⟩ = some (.slice A3 n3 c3)) := hidb (fun W hb => by
  rw [hb.cell (p := ⟨w.heap.size,4,none⟩) (by show w.heap.size < _;omega)];exact q4)
 have HS : Hid (∀ W,Below W0.heap.size W0 W -> Cn W P A3 n3 ys) := hidb (fun W hb => (hs.below HB0.out).below hb)
 have HE : Hid (∀ W,Below W0.heap.size W0 W -> Below w.heap.size w W) := hidb (fun W hb => HB0.out.trans (hb.mono HB0.out.size))
 have HF : Hid (pFirst (ys.map CV.plain) order from' some' = pFst (ys.map CV.plain) order from' some' n3) := hidb (by unfold pFirst pFst;rw [List.length_map,l3])
 have L3 := hidb l3
 obtain ⟨l,hll⟩ : ∃ l,ys.map CV.plain = l := ⟨_,rfl⟩
 have HLY : Hid (∀ (i : Nat) (y : CV),ys[i]? = some y -> l[i]? = some (y.s,y.l)) := hidb (fun i y h => by rw [<- hll,List.getElem?_map,h];rfl)
 rw [hll] at HF ⊢
 clear hll
 unfold pval
 have ho0 := ho.1
 have ho1 := ho.2
 have hf0 := hf.1
 have hf1 := hf.2
 clear hs q4 ho hf l3
 go_enter Tryz.func75,Tryz.ntmps75
 go_wp2
 rw [<- hW0]
 clear hW0
 go_loopw [9,15] (fun v k wr => ∃ (j : Nat) (bv : Int),j <= n3 /\ k = .int .i64 j /\ v = .int .i64 bv /\ Hid (bv = idxInt (pFst l order from' some' j)) /\ Hid (Below W0.heap.size W0 wr)) (fun _ k _ => (n3 - intOf k).toNat)
 case atStart => exact ⟨0,-1,Nat.zero_le _,rfl,rfl,hidb rfl,hidb (Below.refl _ _)⟩
 case round =>
  obtain ⟨j,bv,hj,rfl,rfl,HBV,HB⟩ := hrel
  have hj0 : (0 : Int) <= (j : Int) := by omega
  by_cases hlt : j < n3
  ·have hj1 : (j : Int) < (n3 : Int) := by omega
   have q4 := HQ.out _ HB.out
   have hcn := HS.out _ HB.out
   obtain ⟨b,off,y,rfl,hy,hb,c0,c1,c2,c3',c4⟩ := hcn.at_ hlt
   obtain ⟨⟨yid,yst,yln,yo⟩,yA,yn,yc,yl⟩ := y
   simp only at c0 c1 c2 c3' c4
   obtain ⟨o1,o2,o3,o4,o5⟩ := hcn.ok _ (List.mem_of_getElem? hy)
   obtain ⟨hsl,_,_,_,_,hyn⟩ := hcn.lists _ (List.mem_of_getElem? hy)
   have hyl : yl.length = yn := by have := hsl.1;simpa using this
   simp only at o1 o2 o3 o4 o5 hyn
   have hsz := HB.out.size
   obtain ⟨wa,hwa⟩ : ∃ wa,wa = wr.alloc (.cells #[.int .i64 yid,.int .i64 yst,.int .i64 yln,.int .i64 yo] 49) := ⟨_,rfl⟩
   have HWA : Hid (Below W0.heap.size W0 wa) := hidb (by rw [hwa];exact HB.out.alloc hsz _)
   have d1 : wa.cell? ⟨wr.heap.size,1,none⟩ = some (.int .i64 yst) := by rw [hwa];simp
   have d3 : wa.cell? ⟨wr.heap.size,3,none⟩ = some (.int .i64 yo) := by rw [hwa];simp
   have hy2 := HLY.out j _ hy
   have HY := hidb hy2
   have HCA : Hid (∀ i,i < n3 -> ∃ z : CV,ys[i]? = some z /\ wa.cell? ⟨b,off + i * 5 + 1,none⟩ = some (.int .i64 z.s.2.1) /\ wa.cell? ⟨b,off + i * 5 + 4,none⟩ = some (.slice z.A z.n z.c)) := hidb (fun i hi => by
    obtain ⟨b',off',z,e,hz',_,_,e1,_,_,e4⟩ := (HS.out _ HWA.out).at_ hi
    obtain ⟨rfl,rfl⟩ : b = b' /\ off = off' := by simpa using e
    exact ⟨z,hz',e1,e4⟩)
   have HY0 := hidb hy
   clear hcn hy hy2 hb hsl
   go_wp2
   rw [<- hwa]
   clear hwa q4 c0 c1 c2 c3' c4
   have q4 := HQ.out _ HWA.out
   have e4 : wa.cell? ⟨b,off + j * 5 + 4,none⟩ = some (.slice yA yn yc) := by
    obtain ⟨z,hz',_,e4⟩ := HCA.out j hlt
    rw [HY0.out] at hz'
    obtain rfl := Option.some.inj hz'
    exact e4
   have NO : Hid (pFits order from' some' ((yid,yst,yln,yo),yl) = false -> pFst l order from' some' (j + 1) = pFst l order from' some' j) := hidb (fun h => by rw [xxf,pStep_no HY.out h])
   by_cases g1 : yo = order
   ·have hd1 : (yo == order) = true := by simpa using g1
    by_cases g2 : from' <= yst
    ·have hd2 : decide (from' <= yst) = true := decide_eq_true g2
     have hfit : decide (yo = order /\ from' <= yst) = true := decide_eq_true ⟨g1,g2⟩
     cases some' with
     | false =>
      have FIT : Hid (pFits order from' false ((yid,yst,yln,yo),yl) = true) := hidb (by unfold pFits;simp only;rw [hfit];rfl)
      clear g1 g2 hfit
      cases hO : pFst l order from' false j with
      | none =>
       obtain rfl : bv = -1 := by rw [HBV.out,hO];rfl
       have HST : Hid (pFst l order from' false (j + 1) = some j) := hidb (by rw [xxf,hO,xV5 HY.out FIT.out])
       clear hO NO
       go_quiet (fail)
       go_wp2
       go_roundw
       case rel => exact ⟨j + 1,(j : Int),by omega,by go_num,rfl,hidb (by rw [HST.out];rfl),(by first | exact hidb (belowN HWA.out _) | exact HWA)⟩
       case measure => simp [intOf];omega
      | some bi =>
       obtain rfl : bv = (bi : Int) := by rw [HBV.out,hO];rfl
       have hbi : bi < n3 := by have := xWp _ _ _ _ _ _ hO;omega
       obtain ⟨z,hz',z1,_⟩ := HCA.out bi hbi
       have HZ := hidb (HLY.out bi z hz')
       obtain ⟨zst,hzst⟩ : ∃ zst,z.s.2.1 = zst := ⟨_,rfl⟩
       rw [hzst] at z1
       have hb0 : (0 : Int) <= (bi : Int) := by omega
       have hb1 : (bi : Int) < (n3 : Int) := by omega
       have hd4 : decide ((bi : Int) < 0) = false := decide_eq_false (by omega)
       by_cases g5 : yst < zst
       ·have hd5 : decide (yst < zst) = true := decide_eq_true g5
        have HST : Hid (pFst l order from' false (j + 1) = some j) := hidb (by rw [xxf,hO,xv1 HY.out FIT.out HZ.out];simp only;rw [hzst,if_pos g5])
        clear hO NO hz' g5
        go_quiet (fail)
        go_wp2
        go_roundw
        case rel => exact ⟨j + 1,(j : Int),by omega,by go_num,rfl,hidb (by rw [HST.out];rfl),(by first | exact hidb (belowN HWA.out _) | exact HWA)⟩
        case measure => simp [intOf];omega
       ·have hd5 : decide (yst < zst) = false := decide_eq_false g5
        have HST : Hid (pFst l order from' false (j + 1) = pFst l order from' false j) := hidb (by rw [xxf,hO,xv1 HY.out FIT.out HZ.out];simp only;rw [hzst,if_neg g5])
        clear hO NO hz' g5
        go_quiet (fail)
        go_wp2
        go_roundw
        case rel => exact ⟨j + 1,(bi : Int),by omega,by go_num,rfl,hidb (by rw [HST.out];exact HBV.out),(by first | exact hidb (belowN HWA.out _) | exact HWA)⟩
        case measure => simp [intOf];omega
     | true =>
      by_cases g3 : yn = 0
      ·have hd3 : decide (0 < yn) = false := decide_eq_false (by omega)
       have HST := hidb (NO.out (by unfold pFits;simp only;rw [hfit,decide_eq_false (p := 0 < yl.length) (by omega)];rfl))
       clear g1 g2 g3 NO hfit
       go_quiet (fail)
       go_wp2
       go_roundw
       case rel => exact ⟨j + 1,bv,by omega,by go_num,rfl,hidb (by rw [HST.out];exact HBV.out),(by first | exact hidb (belowN HWA.out _) | exact HWA)⟩
       case measure => simp [intOf];omega
      ·have hd3 : decide (0 < yn) = true := decide_eq_true (by omega)
       have FIT : Hid (pFits order from' true ((yid,yst,yln,yo),yl) = true) := hidb (by unfold pFits;simp only;rw [hfit,decide_eq_true (p := 0 < yl.length) (by omega)];rfl)
       clear g1 g2 g3 hfit
       cases hO : pFst l order from' true j with
       | none =>
        obtain rfl : bv = -1 := by rw [HBV.out,hO];rfl
        have HST : Hid (pFst l order from' true (j + 1) = some j) := hidb (by rw [xxf,hO,xV5 HY.out FIT.out])
        clear hO NO
        go_quiet (fail)
        go_wp2
        go_roundw
        case rel => exact ⟨j + 1,(j : Int),by omega,by go_num,rfl,hidb (by rw [HST.out];rfl),(by first | exact hidb (belowN HWA.out _) | exact HWA)⟩
        case measure => simp [intOf];omega
       | some bi =>
        obtain rfl : bv = (bi : Int) := by rw [HBV.out,hO];rfl
        have hbi : bi < n3 := by have := xWp _ _ _ _ _ _ hO;omega
        obtain ⟨z,hz',z1,_⟩ := HCA.out bi hbi
        have HZ := hidb (HLY.out bi z hz')
        obtain ⟨zst,hzst⟩ : ∃ zst,z.s.2.1 = zst := ⟨_,rfl⟩
        rw [hzst] at z1
        have hb0 : (0 : Int) <= (bi : Int) := by omega
        have hb1 : (bi : Int) < (n3 : Int) := by omega
        have hd4 : decide ((bi : Int) < 0) = false := decide_eq_false (by omega)
        by_cases g5 : yst < zst
        ·have hd5 : decide (yst < zst) = true := decide_eq_true g5
         have HST : Hid (pFst l order from' true (j + 1) = some j) := hidb (by rw [xxf,hO,xv1 HY.out FIT.out HZ.out];simp only;rw [hzst,if_pos g5])
         clear hO NO hz' g5
         go_quiet (fail)
         go_wp2
         go_roundw
         case rel => exact ⟨j + 1,(j : Int),by omega,by go_num,rfl,hidb (by rw [HST.out];rfl),(by first | exact hidb (belowN HWA.out _) | exact HWA)⟩
         case measure => simp [intOf];omega
        ·have hd5 : decide (yst < zst) = false := decide_eq_false g5
         have HST : Hid (pFst l order from' true (j + 1) = pFst l order from' true j) := hidb (by rw [xxf,hO,xv1 HY.out FIT.out HZ.out];simp only;rw [hzst,if_neg g5])
         clear hO NO hz' g5
         go_quiet (fail)
         go_wp2
         go_roundw
         case rel => exact ⟨j + 1,(bi : Int),by omega,by go_num,rfl,hidb (by rw [HST.out];exact HBV.out),(by first | exact hidb (belowN HWA.out _) | exact HWA)⟩
         case measure => simp [intOf];omega
    ·have hd2 : decide (from' <= yst) = false := decide_eq_false g2
     have HST := hidb (NO.out (by unfold pFits;simp only;rw [decide_eq_false (fun h => g2 h.2)];rfl))
     clear g1 g2 NO
     go_quiet (fail)
     go_wp2
     go_roundw
     case rel => exact ⟨j + 1,bv,by omega,by go_num,rfl,hidb (by rw [HST.out];exact HBV.out),(by first | exact hidb (belowN HWA.out _) | exact HWA)⟩
     case measure => simp [intOf];omega
   ·have hd1 : (yo == order) = false := by simpa using g1
    have HST := hidb (NO.out (by unfold pFits;simp only;rw [decide_eq_false (fun h => g1 h.1)];rfl))
    clear g1 NO
    go_quiet (fail)
    go_wp2
    go_roundw
    case rel => exact ⟨j + 1,bv,by omega,by go_num,rfl,hidb (by rw [HST.out];exact HBV.out),(by first | exact hidb (belowN HWA.out _) | exact HWA)⟩
    case measure => simp [intOf];omega
  ·obtain rfl : n3 = j := by omega
   go_wp2
   go_ret
   exact ⟨by rw [HF.out,<- HBV.out];rfl,HE.out _ HB.out⟩
def pOrder (l : List ((Int × Int × Int × Int) × List Int)) (at' : Int) : Int := match pOf l at' with
 | none => -1
 | some i => match l[i]? with
  | none => -1
  | some c => if at' ∈ c.2 then -1 else c.1.2.2.2
theorem pOf_lt {l : List ((Int × Int × Int × Int) × List Int)} {at' : Int} {i : Nat} (h : pOf l at' = some i) : i < l.length := (List.findIdx?_eq_some_iff_getElem.1 h).1
set_option maxRecDepth 100000 in
theorem yzg (P : Nat -> Prop) (pg la : Int) (A A2 A3 : Option Addr) (n c n2 c2 n3 c3 : Nat) (held : Bool) (ys : List CV) (at' : Int) (w : World) (hs : Cn w P A3 n3 ys) (hn : n3 <= 65536) (ha : in64 at') :
  Calls Tryz.prog 21 #[pval pg A n c A2 n2 c2 la A3 n3 c3 held,.int .i64 at'] w fun e w' => e = .returned (.int .i64 (pOrder (ys.map CV.plain) at')) /\ Below w.heap.size w w' := by
 have l3 : ys.length = n3 := hs.row.1
 obtain ⟨W0,hW0⟩ : ∃ W0,W0 = w.alloc (.cells #[.int .i64 pg,.slice A n c,.slice A2 n2 c2,.int .i64 la,.slice A3 n3 c3,.bool held] 35) := ⟨_,rfl⟩
 have hz : W0.heap.size = w.heap.size + 1 := by rw [hW0];simp
 have HB0 : Hid (Below w.heap.size w W0) := hidb (by rw [hW0];exact (Below.refl _ _).alloc (Nat.le_refl _) _)
 have q4 : W0.cell? ⟨w.heap.size,4,none⟩ = some (.slice A3 n3 c3) := by rw [hW0];simp
 have HQ : Hid (∀ W,Below W0.heap.size W0 W -> W.cell? ⟨w.heap.size,4,none⟩ = some (.slice A3 n3 c3)) := hidb (fun W hb => by
  rw [hb.cell (p := ⟨w.heap.size,4,none⟩) (by show w.heap.size < _;omega)];exact q4)
 have HS : Hid (∀ W,Below W0.heap.size W0 W -> Cn W P A3 n3 ys) := hidb (fun W hb => (hs.below HB0.out).below hb)
 have HE : Hid (∀ W,Below W0.heap.size W0 W -> Below w.heap.size w W) := hidb (fun W hb => HB0.out.trans (hb.mono HB0.out.size))
 have co := xJ9 P pg la A A2 A3 n c n2 c2 n3 c3 held ys at' W0 (hs.below HB0.out) hn ha
 have HW0 := hidb hW0
 obtain ⟨R,hR⟩ : ∃ R,pOrder (ys.map CV.plain) at' = R := ⟨_,rfl⟩
 rw [hR]
 unfold pval at co ⊢
 cases hO : pOf (ys.map CV.plain) at' with
 | none =>
  rw [hO] at co
  have HR2 : Hid (R = -1) := hidb (by rw [<- hR];unfold pOrder;rw [hO])
  rw [show idxInt none = -1 from rfl] at co
  clear hs q4 hR ha hO hW0
  go_enter Tryz.func21,Tryz.ntmps21
  go_wp2_with (first | (go_at_call 80;rw [<- HW0.out];(with_reducible refine co.mono ?_);rintro e w1 ⟨rfl,hb1⟩))
  go_ret
  exact ⟨by rw [HR2.out];rfl,HE.out _ hb1⟩
 | some i =>
  rw [hO] at co
  have hi := pOf_lt hO
  rw [List.length_map,l3] at hi
  have hi0 : (0 : Int) <= (i : Int) := by omega
  have hi1 : (i : Int) < (n3 : Int) := by omega
  rw [show idxInt (some i) = (i : Int) from rfl] at co
  obtain ⟨y,hy⟩ : ∃ y,ys[i]? = some y := ⟨_,List.getElem?_eq_getElem (by omega)⟩
  have hRy : R = if at' ∈ y.l then -1 else y.s.2.2.2 := by
   rw [<- hR];unfold pOrder;rw [hO];simp only;rw [List.getElem?_map,hy];rfl
  have HC : Hid (∀ W,Below W0.heap.size W0 W -> ∃ b off,A3 = some ⟨b,off,none⟩ /\ W.cell? ⟨b,off + i * 5 + 3,none⟩ = some (.int .i64 y.s.2.2.2) /\ W.cell? ⟨b,off + i * 5 + 4,none⟩ = some (.slice y.A y.n y.c) /\ Sl W W.heap.size y.A y.n (y.l.map iv) /\ y.n <= 65536) := hidb (fun W hb => by
   obtain ⟨b,off,z,e,hz',_,_,_,_,e3,e4⟩ := (HS.out W hb).at_ hi
   rw [hy] at hz'
   obtain rfl := Option.some.inj hz'
   obtain ⟨h1,_,_,_,_,h2⟩ := (HS.out W hb).lists y (List.mem_of_getElem? hy)
   exact ⟨b,off,e,e3,e4,h1,h2⟩)
  have hyo := (hs.ok y (List.mem_of_getElem? hy)).2.2.2
  obtain ⟨yo,hyo'⟩ : ∃ yo,y.s.2.2.2 = yo := ⟨_,rfl⟩
  obtain ⟨yid,yA,yn,yc,yl⟩ := y
  simp only at HC hRy hyo hyo'
  rw [hyo'] at HC hRy
  by_cases e : at' ∈ yl
  ·have HR2 : Hid (R = -1) := hidb (by rw [hRy,if_pos e])
   have he : decide (at' ∈ yl) = true := decide_eq_true e
   clear hs q4 hR ha hO hW0 hy hRy e hyo hyo'
   go_enter Tryz.func21,Tryz.ntmps21
   go_wp2_with (first
    | (go_at_call 80;rw [<- HW0.out];(with_reducible refine co.mono ?_);rintro e w1 ⟨rfl,hb1⟩;have q4 := HQ.out _ hb1;obtain ⟨b,off,rfl,c3',c4,hsl,hyn⟩ := HC.out _ hb1;have ci := xk8 yA yn yc yl at' w1 w1.heap.size hsl (by omega);rw [he] at ci;have HB1 := hidb hb1;clear hsl hb1)
    | (go_at_call 38;(with_reducible refine ci.mono ?_);rintro e w' ⟨rfl,rfl⟩))
   go_ret
   exact ⟨by rw [HR2.out];rfl,HE.out _ HB1.out⟩
  ·have HR2 : Hid (R = yo) := hidb (by rw [hRy,if_neg e])
   have he : decide (at' ∈ yl) = false := decide_eq_false e
   clear hs q4 hR ha hO hW0 hy hRy e hyo hyo'
   go_enter Tryz.func21,Tryz.ntmps21
   go_wp2_with (first
    | (go_at_call 80;rw [<- HW0.out];(with_reducible refine co.mono ?_);rintro e w1 ⟨rfl,hb1⟩;have q4 := HQ.out _ hb1;obtain ⟨b,off,rfl,c3',c4,hsl,hyn⟩ := HC.out _ hb1;have ci := xk8 yA yn yc yl at' w1 w1.heap.size hsl (by omega);rw [he] at ci;have HB1 := hidb hb1;clear hsl hb1)
    | (go_at_call 38;(with_reducible refine ci.mono ?_);rintro e w' ⟨rfl,rfl⟩))
   go_ret
   exact ⟨by rw [HR2.out];rfl,HE.out _ HB1.out⟩
def pIsOut (l : List ((Int × Int × Int × Int) × List Int)) (at' : Int) : Bool := match pOf l at' with
 | none => false
 | some i => match l[i]? with
  | none => false
  | some c => !decide (at' ∈ c.2)
def pOut (l : List ((Int × Int × Int × Int) × List Int)) (m : Nat) : List Int := ((List.range m).map fun i => ((16 * i : Nat) : Int)).filter (pIsOut l)
theorem yv3 (l : List ((Int × Int × Int × Int) × List Int)) (m : Nat) : pOut l (m + 1) = pOut l m ++ (if pIsOut l ((16 * m : Nat) : Int) = true then [((16 * m : Nat) : Int)] else []) := by
 unfold pOut
 rw [List.range_succ,List.map_append,List.filter_append]
 simp only [List.map_cons,List.map_nil,List.filter_cons,List.filter_nil]
theorem xQb (l : List ((Int × Int × Int × Int) × List Int)) (m : Nat) : (pOut l m).length <= m := by
 unfold pOut
 refine Nat.le_trans (List.length_filter_le _ _) ?_
 simp
theorem xxm {W W' : World} {base size n : Nat} {e : TypeId} {v : Value} {xs : List Value} (hr : W.ownsRow base e size v n xs) (hb : Below W.heap.size W W') : W'.ownsRow base e size v n xs := by
 refine ⟨hr.1,?_⟩
 rcases hr.2 with h | ⟨g,cap,cur,hv,h1,hg,rest⟩
 ·exact .inl h
 ·exact .inr ⟨g,cap,cur,hv,h1,(hb.block g (Array.getElem?_eq_some_iff.1 hg).1).trans hg,rest⟩
set_option maxRecDepth 100000 in
theorem ref_pout (P : Nat -> Prop) (pg la : Int) (A A2 A3 : Option Addr) (n c n2 c2 n3 c3 : Nat) (held : Bool) (ys : List CV) (w : World) (hs : Cn w P A3 n3 ys) (hn : n3 <= 65536) (hp0 : 0 <= pg) (hp1 : pg <= 1024) :
  Calls Tryz.prog 23 #[pval pg A n c A2 n2 c2 la A3 n3 c3 held] w (OwnInts w (pOut (ys.map CV.plain) (4 * pg.toNat))) := by
 have l3 : ys.length = n3 := hs.row.1
 obtain ⟨i0,hi,hz0,hz1,hz2⟩ := info_parts xqw
 obtain ⟨W0,hW0⟩ : ∃ W0,W0 = w.alloc (.cells #[.int .i64 pg,.slice A n c,.slice A2 n2 c2,.int .i64 la,.slice A3 n3 c3,.bool held] 35) := ⟨_,rfl⟩
 have hz : W0.heap.size = w.heap.size + 1 := by rw [hW0];simp
 have HB0 : Hid (Below w.heap.size w W0) := hidb (by rw [hW0];exact (Below.refl _ _).alloc (Nat.le_refl _) _)
 have HQ : Hid (∀ W,Below W0.heap.size W0 W -> W.cell? ⟨w.heap.size,0,none⟩ = some (.int .i64 pg) /\ W.cell? ⟨w.heap.size,1,none⟩ = some (.slice A n c) /\ W.cell? ⟨w.heap.size,2,none⟩ = some (.slice A2 n2 c2) /\ W.cell? ⟨w.heap.size,3,none⟩ = some (.int .i64 la) /\ W.cell? ⟨w.heap.size,4,none⟩ = some (.slice A3 n3 c3) /\ W.cell? ⟨w.heap.size,5,none⟩ = some (.bool held)) := hidb (fun W hb => by
  have q : ∀ j,W.cell? ⟨w.heap.size,j,none⟩ = W0.cell? ⟨w.heap.size,j,none⟩ := fun j => hb.cell (p := ⟨w.heap.size,j,none⟩) (by show w.heap.size < _;omega)
  rw [q,q,q,q,q,q,hW0]
  simp [go_sem])
 have HS : Hid (∀ W,Below W0.heap.size W0 W -> Cn W P A3 n3 ys) := hidb (fun W hb => (hs.below HB0.out).below hb)
 have HCO : Hid (∀ (W : World) (a : Int),Below W0.heap.size W0 W -> in64 a -> Calls Tryz.prog 80 #[pval pg A n c A2 n2 c2 la A3 n3 c3 held,.int .i64 a] W fun e w' => e = .returned (.int .i64 (idxInt (pOf (ys.map CV.plain) a))) /\ Below W.heap.size W w') := hidb (fun W a hb ha => xJ9 P pg la A A2 A3 n c n2 c2 n3 c3 held ys a W (HS.out W hb) hn ha)
 have HFIN : Hid (∀ W A' c' k,k = (pOut (ys.map CV.plain) (4 * pg.toNat)).length -> W.ownsRow W0.heap.size 3 1 (.slice A' k c') k ((pOut (ys.map CV.plain) (4 * pg.toNat)).map iv) -> Below W0.heap.size W0 W -> OwnInts w (pOut (ys.map CV.plain) (4 * pg.toNat)) (.returned (.slice A' k c')) W) := hidb (fun W A' c' k hk ho hb => ⟨A',c',by rw [hk],xxp (by rw [hk] at ho;exact ho) (by omega),HB0.out.trans (hb.mono HB0.out.size)⟩)
 have HC : Hid (∀ (i : Nat) (a : Int),pOf (ys.map CV.plain) a = some i -> ∃ y,ys[i]? = some y /\ i < n3 /\ pIsOut (ys.map CV.plain) a = !decide (a ∈ y.l) /\ ∀ W,Below W0.heap.size W0 W -> ∃ b off,A3 = some ⟨b,off,none⟩ /\ W.cell? ⟨b,off + i * 5 + 4,none⟩ = some (.slice y.A y.n y.c) /\ Sl W W.heap.size y.A y.n (y.l.map iv) /\ y.n <= 65536) := hidb (fun i a hO => by
  have hi := pOf_lt hO
  rw [List.length_map,l3] at hi
  obtain ⟨y,hy⟩ : ∃ y,ys[i]? = some y := ⟨_,List.getElem?_eq_getElem (by omega)⟩
  refine ⟨y,hy,hi,by unfold pIsOut;rw [hO];simp only;rw [List.getElem?_map,hy];rfl,fun W hb => ?_⟩
  obtain ⟨b,off,z,e,hz',_,_,_,_,_,e4⟩ := (HS.out W hb).at_ hi
  rw [hy] at hz'
  obtain rfl := Option.some.inj hz'
  obtain ⟨h1,_,_,_,_,h2⟩ := (HS.out W hb).lists y (List.mem_of_getElem? hy)
  exact ⟨b,off,e,e4,h1,h2⟩)
 have HNO : Hid (∀ a,pOf (ys.map CV.plain) a = none -> pIsOut (ys.map CV.plain) a = false) := hidb (fun a h => by unfold pIsOut;rw [h])
 have HSU := hidb (yv3 (ys.map CV.plain))
 have HLE := hidb (xQb (ys.map CV.plain))
 obtain ⟨l,hl⟩ : ∃ l,ys.map CV.plain = l := ⟨_,rfl⟩
 rw [hl] at HCO HFIN HC HNO HSU HLE ⊢
 have HW0 := hidb hW0
 have HZ := hidb hz
 clear hW0 hz hs l3 hl
 unfold pval at HCO ⊢
 go_enter Tryz.func23,Tryz.ntmps23
 go_wp2
 rw [<- HW0.out,<- HZ.out]
 have hzz : w.heap.size < W0.heap.size := by have := HZ.out;omega
 go_loopw [3,4] (fun v k wr => ∃ (i m : Nat) (y : Int) (A' : Option Addr) (c' : Nat),i <= 4 * pg.toNat /\ m <= i /\ 0 <= y /\ y <= 66000 /\ k = .int .i64 y /\ v = .slice A' m c' /\ Hid (y = ((16 * i : Nat) : Int)) /\ Hid (m = (pOut l i).length) /\ Hid (wr.ownsRow W0.heap.size 3 1 (.slice A' m c') m ((pOut l i).map iv)) /\ Hid (Below W0.heap.size W0 wr)) (fun _ k _ => (64 * pg - intOf k).toNat)
 case atStart => exact ⟨0,0,0,_,0,by omega,by omega,by omega,by omega,rfl,rfl,hidb rfl,hidb rfl,hidb (xxa W0 _),hidb ((Below.refl _ _).alloc (Nat.le_refl _) _)⟩
 case round =>
  obtain ⟨i,m,y,A',c',hi',hm',hy0,hy1,rfl,rfl,HY,HM,HOWN,HB⟩ := hrel
  obtain ⟨q0,q1,q2,q3,q4,q5⟩ := HQ.out _ HB.out
  have hsz := HB.out.size
  have HI : Hid (i < 4 * pg.toNat ↔ y < 64 * pg) := hidb (by rw [HY.out];omega)
  by_cases hlt : y < 64 * pg
  ·have hiN := HI.out.2 hlt
   have HY2 : Hid (y + 16 = ((16 * (i + 1) : Nat) : Int)) := hidb (by rw [HY.out];omega)
   have HS2 := hidb (HSU.out i)
   have co := HCO.out wr y HB.out ⟨by omega,by omega⟩
   cases hO : pOf l y with
   | none =>
    rw [hO,show idxInt none = -1 from rfl] at co
    have HE2 : Hid (pOut l (i + 1) = pOut l i) := hidb (by
     rw [HS2.out,<- HY.out,HNO.out y hO];simp)
    clear hO
    go_wp2_with (first
      | (go_at_call 80;go_loud ((with_reducible refine co.mono ?_);rintro e w1 ⟨rfl,hb1⟩;have HB1 := hidb (HB.out.trans (hb1.mono HB.out.size));have HO1 := hidb (xxm HOWN.out hb1);obtain ⟨r0,r1,r2,r3,r4,r5⟩ := HQ.out _ HB1.out;clear hb1)))
    exact ⟨⟨i + 1,m,y + 16,A',c',by omega,by omega,by omega,by omega,rfl,rfl,HY2,hidb (by rw [HE2.out];exact HM.out),hidb (by rw [HE2.out];exact HO1.out),HB1⟩,by simp [intOf];omega⟩
   | some j =>
    rw [hO,show idxInt (some j) = (j : Int) from rfl] at co
    obtain ⟨z,hz,hj,hP2,hrd⟩ := HC.out j y hO
    have HRD := hidb hrd
    have hj0 : (0 : Int) <= (j : Int) := by omega
    have hj1 : (j : Int) < (n3 : Int) := by omega
    obtain ⟨zid,zA,zn,zc,zl⟩ := z
    simp only at HRD hP2
    by_cases e : y ∈ zl
    ·have he : decide (y ∈ zl) = true := decide_eq_true e
     have HE2 : Hid (pOut l (i + 1) = pOut l i) := hidb (by
      rw [HS2.out,<- HY.out,hP2,he];simp)
     clear hO hz hP2 hrd e
     go_wp2_with (first
      | (go_at_call 80;go_loud ((with_reducible refine co.mono ?_);rintro e w1 ⟨rfl,hb1⟩;have HB1 := hidb (HB.out.trans (hb1.mono HB.out.size));have HO1 := hidb (xxm HOWN.out hb1);obtain ⟨r0,r1,r2,r3,r4,r5⟩ := HQ.out _ HB1.out;obtain ⟨b,off,rfl,c4,hsl,hzn⟩ := HRD.out _ HB1.out;have ci := xk8 zA zn zc zl y w1 w1.heap.size hsl (by omega);rw [he] at ci;clear hsl;clear hb1))
      | (go_at_call 38;(with_reducible refine ci.mono ?_);rintro e w' ⟨rfl,rfl⟩))
     exact ⟨⟨i + 1,m,y + 16,A',c',by omega,by omega,by omega,by omega,rfl,rfl,HY2,hidb (by rw [HE2.out];exact HM.out),hidb (by rw [HE2.out];exact HO1.out),HB1⟩,by simp [intOf];omega⟩
    ·have he : decide (y ∈ zl) = false := decide_eq_false e
     have HE2 : Hid (pOut l (i + 1) = pOut l i ++ [y]) := hidb (by
      rw [HS2.out,<- HY.out,hP2,he];simp)
     clear hO hz hP2 hrd e
     go_wp2_with (first
      | (go_at_call 80;go_loud ((with_reducible refine co.mono ?_);rintro e w1 ⟨rfl,hb1⟩;have HB1 := hidb (HB.out.trans (hb1.mono HB.out.size));have HO1 := hidb (xxm HOWN.out hb1);obtain ⟨r0,r1,r2,r3,r4,r5⟩ := HQ.out _ HB1.out;obtain ⟨b,off,rfl,c4,hsl,hzn⟩ := HRD.out _ HB1.out;have ci := xk8 zA zn zc zl y w1 w1.heap.size hsl (by omega);rw [he] at ci;clear hsl;clear hb1))
      | (go_at_call 38;(with_reducible refine ci.mono ?_);rintro e w' ⟨rfl,rfl⟩)
      | (at_builtin;refine xqo w1 rfl _ _ 38 rfl W0.heap.size 3 i0 (.int .i64 0) 8 Tryz.underlying38 hi hz0 hz1 hz2 rfl _ _ _ rfl (by exact HO1.out) HB1.out.size (.int .i64 y) rfl _ rfl (by unfold maxLen;omega) (by omega) ?_;intro v2 w2 hown2 hb2;obtain ⟨A3',c3',rfl⟩ := xzr hown2;obtain ⟨t0,t1,t2,t3,t4,t5⟩ := HQ.out _ (HB1.out.trans hb2);have HO2 := hidb hown2;have HB2 := hidb (HB1.out.trans hb2);clear hown2 hb2))
     exact ⟨⟨i + 1,m + 1,y + 16,A3',c3',by omega,by omega,by omega,by omega,rfl,rfl,HY2,hidb (by rw [HE2.out,List.length_append,<- HM.out];rfl),hidb (by rw [HE2.out,List.map_append];exact HO2.out),HB2⟩,by simp [intOf];omega⟩
  ·have hiN : i = 4 * pg.toNat := by
    rcases Nat.lt_or_ge i (4 * pg.toNat) with c | c
    ·exact absurd (HI.out.1 c) hlt
    ·omega
   have P : Hid (OwnInts w (pOut l (4 * pg.toNat)) (.returned (.slice A' m c')) wr) := hidb (HFIN.out wr A' c' m (by rw [<- hiN];exact HM.out) (by rw [<- hiN];exact HOWN.out) HB.out)
   clear hiN HOWN
   go_wp2
   go_ret
   exact P.out
theorem yv4 (l : List ((Int × Int × Int × Int) × List Int)) (order from' : Int) (some' : Bool) : ∀ j b,pFst l order from' some' j = some b -> ∃ c,l[b]? = some c /\ pFits order from' some' c = true := by
 intro j
 induction j with
 | zero => intro b h;cases h
 | succ j ih =>
  intro b h
  rw [xxf] at h
  unfold pStep at h
  split at h
  ·exact ih b h
  ·rename_i c hc
   split at h
   ·rename_i hf
    split at h
    ·injection h with h;subst h;exact ⟨c,hc,hf⟩
    ·rename_i d hd
     split at h
     ·exact ih b (hd.trans h)
     ·split at h
      ·injection h with h;subst h;exact ⟨c,hc,hf⟩
      ·exact ih b (hd.trans h)
   ·exact ih b h
def pSpansF (l : List ((Int × Int × Int × Int) × List Int)) (order : Int) : Nat -> Int -> List Nat
 | 0,_ => []
 | k + 1,f => match pFirst l order f false with
  | none => []
  | some i => match l[i]? with
   | none => []
   | some c => i :: pSpansF l order k (c.1.2.1 + 1)
def pSpans (l : List ((Int × Int × Int × Int) × List Int)) (order : Int) : List Nat := pSpansF l order 1025 0
def natv (i : Nat) : Value := iv (i : Int)
def lenV : Value -> Nat
 | .slice _ n _ => n
 | _ => 0
set_option maxRecDepth 100000 in
theorem xXv (P : Nat -> Prop) (pg la : Int) (A A2 A3 : Option Addr) (n c n2 c2 n3 c3 : Nat) (held : Bool) (ys : List CV) (order : Int) (w : World) (hs : Cn w P A3 n3 ys) (hn : n3 <= 65536) (ho : in64 order) :
  Calls Tryz.prog 16 #[pval pg A n c A2 n2 c2 la A3 n3 c3 held,.int .i64 order] w (OwnInts w ((pSpans (ys.map CV.plain) order).map fun i : Nat => (i : Int))) := by
 have l3 : ys.length = n3 := hs.row.1
 obtain ⟨i0,hi,hz0,hz1,hz2⟩ := info_parts xqw
 obtain ⟨W0,hW0⟩ : ∃ W0,W0 = w.alloc (.cells #[.int .i64 pg,.slice A n c,.slice A2 n2 c2,.int .i64 la,.slice A3 n3 c3,.bool held] 35) := ⟨_,rfl⟩
 have hz : W0.heap.size = w.heap.size + 1 := by rw [hW0];simp
 have HB0 : Hid (Below w.heap.size w W0) := hidb (by rw [hW0];exact (Below.refl _ _).alloc (Nat.le_refl _) _)
 have HQ : Hid (∀ W,Below W0.heap.size W0 W -> W.cell? ⟨w.heap.size,0,none⟩ = some (.int .i64 pg) /\ W.cell? ⟨w.heap.size,1,none⟩ = some (.slice A n c) /\ W.cell? ⟨w.heap.size,2,none⟩ = some (.slice A2 n2 c2) /\ W.cell? ⟨w.heap.size,3,none⟩ = some (.int .i64 la) /\ W.cell? ⟨w.heap.size,4,none⟩ = some (.slice A3 n3 c3) /\ W.cell? ⟨w.heap.size,5,none⟩ = some (.bool held)) := hidb (fun W hb => by
  have q : ∀ j,W.cell? ⟨w.heap.size,j,none⟩ = W0.cell? ⟨w.heap.size,j,none⟩ := fun j => hb.cell (p := ⟨w.heap.size,j,none⟩) (by show w.heap.size < _;omega)
  rw [q,q,q,q,q,q,hW0]
  simp [go_sem])
 have HS : Hid (∀ W,Below W0.heap.size W0 W -> Cn W P A3 n3 ys) := hidb (fun W hb => (hs.below HB0.out).below hb)
 have HCO : Hid (∀ (W : World) (a : Int),Below W0.heap.size W0 W -> in64 a -> Calls Tryz.prog 75 #[pval pg A n c A2 n2 c2 la A3 n3 c3 held,.int .i64 order,.int .i64 a,.bool false] W fun e w' => e = .returned (.int .i64 (idxInt (pFirst (ys.map CV.plain) order a false))) /\ Below W.heap.size W w') := hidb (fun W a hb ha => xvn P pg la A A2 A3 n c n2 c2 n3 c3 held ys order a false W (HS.out W hb) hn ho ha)
 have HC : Hid (∀ (i : Nat) (f : Int),pFirst (ys.map CV.plain) order f false = some i -> ∃ st,i < n3 /\ f <= st /\ st <= 1023 /\ (∀ k,pSpansF (ys.map CV.plain) order (k + 1) f = i :: pSpansF (ys.map CV.plain) order k (st + 1)) /\ ∀ W,Below W0.heap.size W0 W -> ∃ b off,A3 = some ⟨b,off,none⟩ /\ W.cell? ⟨b,off + i * 5 + 1,none⟩ = some (.int .i64 st)) := hidb (fun i f hO => by
  obtain ⟨c,hc,hf⟩ := yv4 _ _ _ _ _ _ hO
  rw [List.getElem?_map] at hc
  obtain ⟨y,hy,rfl⟩ := Option.map_eq_some_iff.1 hc
  have hi : i < n3 := by rw [<- l3];exact (List.getElem?_eq_some_iff.1 hy).1
  have hok := hs.ok y (List.mem_of_getElem? hy)
  unfold SpanOk at hok
  unfold pFits CV.plain at hf
  simp only [Bool.not_false,Bool.true_or,Bool.and_true,decide_eq_true_eq] at hf
  refine ⟨y.s.2.1,hi,hf.2,by omega,fun k => ?_,fun W hb => ?_⟩
  ·unfold pSpansF
   rw [hO]
   simp only
   rw [List.getElem?_map,hy]
   cases k <;> rfl
  ·obtain ⟨b,off,z,e,hz',_,_,e1,_⟩ := (HS.out W hb).at_ hi
   rw [hy] at hz'
   obtain rfl := Option.some.inj hz'
   exact ⟨b,off,e,e1⟩)
 have HNO : Hid (∀ f k,pFirst (ys.map CV.plain) order f false = none -> pSpansF (ys.map CV.plain) order k f = []) := hidb (fun f k h => by
  cases k with
  | zero => rfl
  | succ k => unfold pSpansF;rw [h])
 obtain ⟨l,hl⟩ : ∃ l,ys.map CV.plain = l := ⟨_,rfl⟩
 rw [hl] at HCO HC HNO ⊢
 obtain ⟨R,hR⟩ : ∃ R,(pSpans l order) = R := ⟨_,rfl⟩
 have HR : Hid (pSpansF l order 1025 0 = R) := hidb hR
 rw [hR]
 have HFIN : Hid (∀ W A' c' k,k = R.length -> W.ownsRow W0.heap.size 3 1 (.slice A' k c') k (R.map natv) -> Below W0.heap.size W0 W -> OwnInts w (R.map fun i : Nat => (i : Int)) (.returned (.slice A' k c')) W) := hidb (fun W A' c' k hk ho hb => ⟨A',c',by rw [hk,List.length_map],xxp (by rw [List.length_map,List.map_map,<- hk];exact ho) (by omega),HB0.out.trans (hb.mono HB0.out.size)⟩)
 have HW0 := hidb hW0
 have HZ := hidb hz
 clear hW0 hz hs l3 hl hR
 unfold pval at HCO ⊢
 have co0 := HCO.out (W0.alloc (.cells #[] 3)) 0 ((Below.refl _ _).alloc (Nat.le_refl _) _) ⟨by omega,by omega⟩
 go_enter Tryz.func16,Tryz.ntmps16
 go_wp2_with (first
  | (go_at_call 75;go_loud (rw [<- HW0.out];(with_reducible refine co0.mono ?_);rintro e w1 ⟨rfl,hb1⟩))
  )
 have HB1 : Hid (Below W0.heap.size W0 w1) := hidb (((Below.refl _ W0).alloc (Nat.le_refl _) _).trans (hb1.mono (by simp)))
 have HO1 := hidb (xxm (xxa W0 3) hb1)
 clear hb1
 go_wp2
 rw [<- HZ.out]
 have hzz : w.heap.size < W0.heap.size := by have := HZ.out;omega
 go_loopw [5,6] (fun v u wr => ∃ (acc : List Nat) (m k : Nat) (f : Int) (A' : Option Addr) (c' : Nat),u = .int .i64 (idxInt (pFirst l order f false)) /\ v = .slice A' m c' /\ 0 <= f /\ f <= 1024 /\ (m : Int) <= f /\ 1025 - f <= (k : Int) /\ Hid (m = acc.length) /\ Hid (acc ++ pSpansF l order k f = R) /\ Hid (wr.ownsRow W0.heap.size 3 1 (.slice A' m c') m (acc.map natv)) /\ Hid (Below W0.heap.size W0 wr)) (fun v _ _ => 1100 - lenV v)
 case atStart => exact ⟨[],0,1025,0,_,0,rfl,rfl,by omega,by omega,by omega,by omega,hidb rfl,hidb HR.out,hidb HO1.out,HB1⟩
 case round =>
  obtain ⟨acc,m,k,f,A',c',rfl,rfl,hf0,hf1,hmf,hk,HM,HA,HOWN,HB⟩ := hrel
  have hsz := HB.out.size
  cases hO : pFirst l order f false with
  | none =>
   have P : Hid (OwnInts w (R.map fun i : Nat => (i : Int)) (.returned (.slice A' m c')) wr) := hidb (by
    have e : acc = R := by rw [<- HA.out,HNO.out f k hO,List.append_nil]
    exact HFIN.out wr A' c' m (by rw [<- e];exact HM.out) (by rw [<- e];exact HOWN.out) HB.out)
   rw [show idxInt none = -1 from rfl]
   clear hO HOWN HA
   go_wp2
   go_ret
   exact P.out
  | some j =>
   rw [show idxInt (some j) = (j : Int) from rfl]
   obtain ⟨st,hj,hs0,hs1,hsp,hrd⟩ := HC.out j f hO
   have HRD := hidb hrd
   obtain ⟨k',rfl⟩ : ∃ k',k = k' + 1 := ⟨k - 1,by omega⟩
   have HA2 : Hid ((acc ++ [j]) ++ pSpansF l order k' (st + 1) = R) := hidb (by rw [<- HA.out,hsp,List.append_assoc];rfl)
   have hj0 : (0 : Int) <= (j : Int) := by omega
   have hj1 : (j : Int) < (n3 : Int) := by omega
   clear hO hsp hrd
   go_wp2_with (first
    | (at_builtin;refine xqo wr rfl _ _ 38 rfl W0.heap.size 3 i0 (.int .i64 0) 8 Tryz.underlying38 hi hz0 hz1 hz2 rfl _ _ _ rfl (by exact HOWN.out) hsz (.int .i64 (j : Int)) rfl _ rfl (by unfold maxLen;omega) (by omega) ?_;go_loud (intro v2 w2 hown2 hb2;obtain ⟨A3',c3',rfl⟩ := xzr hown2;have HB2 := hidb (HB.out.trans hb2);obtain ⟨t0,t1,t2,t3,t4,t5⟩ := HQ.out _ HB2.out;obtain ⟨b,off,rfl,e1⟩ := HRD.out _ HB2.out;have HO2 := hidb hown2;have cf := HCO.out w2.drew (st + 1) HB2.out.drew ⟨by omega,by omega⟩;clear hown2 hb2)))
   go_region_held3 (fun W' => W'.cell? ⟨w.heap.size,0,none⟩ = some (.int .i64 pg) /\ W'.cell? ⟨w.heap.size,1,none⟩ = some (.slice A n c) /\ W'.cell? ⟨w.heap.size,2,none⟩ = some (.slice A2 n2 c2) /\ W'.cell? ⟨w.heap.size,3,none⟩ = some (.int .i64 la) /\ W'.cell? ⟨w.heap.size,4,none⟩ = some (.slice (some ⟨b,off,none⟩) n3 c3) /\ W'.cell? ⟨w.heap.size,5,none⟩ = some (.bool held) /\ W'.cell? ⟨b,off + j * 5 + 1,none⟩ = some (.int .i64 st)) (go_keep)
    (first | (go_at_call 75;rw [show IntKind.i64.wrap (st + 1) = st + 1 from IntWalk.i64_in _ (by omega)];(with_reducible refine cf.mono ?_);rintro e w3 ⟨rfl,hb3'⟩;have hb3 : Below w2.heap.size w2 w3 := (Below.refl w2.heap.size w2).drew.trans hb3';clear hb3';obtain ⟨y0,y1,y2,y3,y4,y5⟩ := HQ.out _ (HB2.out.trans (hb3.mono HB2.out.size));have y6 : w3.cell? ⟨b,off + j * 5 + 1,none⟩ = some (.int .i64 st) := (hb3.cell (p := ⟨b,off + j * 5 + 1,none⟩) (xq0 e1)).trans e1))
   have HB3 := hidb (HB2.out.trans (hb3.mono HB2.out.size))
   have HO3 := hidb (xxm HO2.out hb3)
   go_roundw
   case rel => refine ⟨_,_,_,_,_,_,_,_,_,_,_,_,_,_,_,_,_,_,_,_,?_,rfl⟩;exact ⟨acc ++ [j],m + 1,k',st + 1,A3',c3',rfl,rfl,by omega,by omega,by omega,by omega,hidb (by rw [List.length_append,<- HM.out];rfl),HA2,hidb (by rw [List.map_append];exact HO3.out),HB3⟩
   case measure => simp [lenV];omega
end Go.Proofs.YtlcdgmjinhbncaaGreat
namespace Go.Proofs.YtlcdgmjinhbncaaGreat
open Go.RowKit Go.Maps
set_option linter.unusedVariables false
def lAt (l : List ((Int × Int × Int × Int) × List Int)) (i : Nat) : List Int := (l[i]?.map (·.2)).getD []
def pList (l : List ((Int × Int × Int × Int) × List Int)) (order : Int) : List Int := (pSpans l order).flatMap (lAt l)
theorem xQc (l : List ((Int × Int × Int × Int) × List Int)) (order : Int) : ∀ k f,(pSpansF l order k f).length <= k
 | 0,f => Nat.le_refl _
 | k + 1,f => by
  unfold pSpansF
  split
  ·simp
  ·split
   ·simp
   ·rw [List.length_cons]
    have := xQc l order k
    exact Nat.succ_le_succ (this _)
theorem xXw (l : List ((Int × Int × Int × Int) × List Int)) (order : Int) : ∀ k f,∀ i ∈ pSpansF l order k f,i < l.length
 | 0,f,i,h => by cases h
 | k + 1,f,i,h => by
  unfold pSpansF at h
  split at h
  ·cases h
  ·split at h
   ·cases h
   next c hc =>
    rcases List.mem_cons.1 h with rfl | h
    ·exact (List.getElem?_eq_some_iff.1 hc).1
    ·exact xXw l order k _ i h
theorem xWq {w : World} {B n : Nat} {A : Option Addr} {l : List Value} (h : Sl w B A n l) : CellsAt w A l := fun ad e j u hj => by
 have hlt : j < l.length := (List.getElem?_eq_some_iff.1 hj).1
 obtain ⟨b,off,e2,_,hc⟩ := h.2 (by have := h.1;omega)
 rw [e] at e2
 obtain rfl := Option.some.inj e2
 rw [Go.WideShapes.add_plain,hc j (by have := h.1;omega)]
 exact hj
set_option maxRecDepth 100000 in
theorem yv5 (P : Nat -> Prop) (pg la : Int) (A A2 A3 : Option Addr) (n c n2 c2 n3 c3 : Nat) (held : Bool) (ys : List CV) (order : Int) (w : World) (hs : Cn w P A3 n3 ys) (hn : n3 <= 65536) (ho : in64 order) :
  Calls Tryz.prog 19 #[pval pg A n c A2 n2 c2 la A3 n3 c3 held,.int .i64 order] w (OwnInts w (pList (ys.map CV.plain) order)) := by
 have l3 : ys.length = n3 := hs.row.1
 obtain ⟨i0,hi,hz0,hz1,hz2⟩ := info_parts xqw
 obtain ⟨W0,hW0⟩ : ∃ W0,W0 = w.alloc (.cells #[.int .i64 pg,.slice A n c,.slice A2 n2 c2,.int .i64 la,.slice A3 n3 c3,.bool held] 35) := ⟨_,rfl⟩
 have hz : W0.heap.size = w.heap.size + 1 := by rw [hW0];simp
 have HB0 : Hid (Below w.heap.size w W0) := hidb (by rw [hW0];exact (Below.refl _ _).alloc (Nat.le_refl _) _)
 have HQ : Hid (∀ W,Below W0.heap.size W0 W -> W.cell? ⟨w.heap.size,0,none⟩ = some (.int .i64 pg) /\ W.cell? ⟨w.heap.size,1,none⟩ = some (.slice A n c) /\ W.cell? ⟨w.heap.size,2,none⟩ = some (.slice A2 n2 c2) /\ W.cell? ⟨w.heap.size,3,none⟩ = some (.int .i64 la) /\ W.cell? ⟨w.heap.size,4,none⟩ = some (.slice A3 n3 c3) /\ W.cell? ⟨w.heap.size,5,none⟩ = some (.bool held)) := hidb (fun W hb => by
  have q : ∀ j,W.cell? ⟨w.heap.size,j,none⟩ = W0.cell? ⟨w.heap.size,j,none⟩ := fun j => hb.cell (p := ⟨w.heap.size,j,none⟩) (by show w.heap.size < _;omega)
  rw [q,q,q,q,q,q,hW0]
  simp [go_sem])
 have HS : Hid (∀ W,Below W0.heap.size W0 W -> Cn W P A3 n3 ys) := hidb (fun W hb => (hs.below HB0.out).below hb)
 obtain ⟨SP,hSP⟩ : ∃ SP,pSpans (ys.map CV.plain) order = SP := ⟨_,rfl⟩
 have hk1 : SP.length <= 1025 := by rw [<- hSP];exact xQc _ _ _ _
 have hlt0 : ∀ i ∈ SP,i < n3 := fun i h => by
  rw [<- hSP] at h
  have := xXw _ _ _ _ i h
  rw [List.length_map] at this
  omega
 have CSP : Hid (∀ W,Below W0.heap.size W0 W -> Calls Tryz.prog 16 #[pval pg A n c A2 n2 c2 la A3 n3 c3 held,.int .i64 order] W (OwnInts W (SP.map fun i : Nat => (i : Int)))) := hidb (fun W hb => by
  have := xXv P pg la A A2 A3 n c n2 c2 n3 c3 held ys order W (HS.out W hb) hn ho
  rwa [hSP] at this)
 obtain ⟨l,hl⟩ : ∃ l,ys.map CV.plain = l := ⟨_,rfl⟩
 have HC : Hid (∀ j i,SP[j]? = some i -> ∃ y : CV,i < n3 /\ y.n <= 65536 /\ y.l.length = y.n /\ ((SP.take (j + 1)).flatMap (lAt l)) = (SP.take j).flatMap (lAt l) ++ y.l /\ ∀ W,Below W0.heap.size W0 W -> ∃ b off,A3 = some ⟨b,off,none⟩ /\ W.cell? ⟨b,off + i * 5 + 4,none⟩ = some (.slice y.A y.n y.c) /\ CellsAt W y.A (y.l.map iv) /\ (y.A = none -> y.n = 0 /\ y.c = 0)) := hidb (fun j i hj => by
  have hi := hlt0 i (List.mem_of_getElem? hj)
  obtain ⟨y,hy⟩ : ∃ y,ys[i]? = some y := ⟨_,List.getElem?_eq_getElem (by omega)⟩
  obtain ⟨h1,h2,h3,h4,h5,h6⟩ := hs.lists y (List.mem_of_getElem? hy)
  refine ⟨y,hi,h6,by have := h1.1;rwa [List.length_map] at this,?_,fun W hb => ?_⟩
  ·have e : lAt l i = y.l := by unfold lAt;rw [<- hl,List.getElem?_map,hy];rfl
   rw [List.take_add_one,hj,List.flatMap_append]
   simp [e]
  ·obtain ⟨b,off,z,e,hz',_,_,_,_,_,e4⟩ := (HS.out W hb).at_ hi
   rw [hy] at hz'
   obtain rfl := Option.some.inj hz'
   obtain ⟨g1,_,_,g4,_,_⟩ := (HS.out W hb).lists y (List.mem_of_getElem? hy)
   refine ⟨b,off,e,e4,xWq g1,fun e => ⟨?_,g4 e⟩⟩
   rcases Nat.eq_zero_or_pos y.n with h | h
   ·exact h
   ·obtain ⟨b2,off2,e3,_⟩ := g1.2 h
    rw [e] at e3;cases e3)
 have eR : pList l order = SP.flatMap (lAt l) := by unfold pList;rw [<- hl,hSP]
 rw [hl,eR]
 have HFIN : Hid (∀ W A' c' k,k = (SP.flatMap (lAt l)).length -> W.ownsRow W0.heap.size 3 1 (.slice A' k c') k ((SP.flatMap (lAt l)).map iv) -> Below W0.heap.size W0 W -> OwnInts w (SP.flatMap (lAt l)) (.returned (.slice A' k c')) W) := hidb (fun W A' c' k hk ho hb => ⟨A',c',by rw [hk],xxp (by rw [hk] at ho;exact ho) (by omega),HB0.out.trans (hb.mono HB0.out.size)⟩)
 obtain ⟨k,hk⟩ : ∃ k,SP.length = k := ⟨_,rfl⟩
 rw [hk] at hk1
 have HK := hidb hk
 have HLT := hidb hlt0
 have HW0 := hidb hW0
 have HZ := hidb hz
 clear hW0 hz hs l3 hl hSP eR hlt0 hk
 unfold pval at CSP ⊢
 have co0 := CSP.out (W0.alloc (.cells #[] 3)) ((Below.refl _ _).alloc (Nat.le_refl _) _)
 go_enter Tryz.func19,Tryz.ntmps19
 go_wp2_with (first
  | (go_at_call 16;go_loud (rw [<- HW0.out];(with_reducible refine co0.mono ?_);rintro e w1 ⟨As,cs,rfl,hr1,hb1⟩)))
 rw [List.length_map,HK.out] at hr1
 rw [HK.out]
 have HB1 : Hid (Below W0.heap.size W0 w1) := hidb (((Below.refl _ W0).alloc (Nat.le_refl _) _).trans (hb1.mono (by simp)))
 have HO1 := hidb (xxm (xxa W0 3) hb1)
 have HSL := hidb (Sl.of_own hr1)
 have HSZ : (W0.alloc (.cells #[] 3)).heap.size = W0.heap.size + 1 := by simp
 have SLK : Hid (∀ wa wb,Sl wa w1.heap.size As k ((SP.map fun i : Nat => (i : Int)).map iv) -> (∀ p : Addr,W0.heap.size < p.block -> p.block < w1.heap.size -> wb.cell? p = wa.cell? p) -> Sl wb w1.heap.size As k ((SP.map fun i : Nat => (i : Int)).map iv)) := hidb (fun wa wb h hk2 => ⟨h.1,fun h0 => by
  obtain ⟨b,off,e,hb,hc⟩ := h.2 h0
  refine ⟨b,off,e,hb,fun j hj => ?_⟩
  have h1 := (hr1.lt b (by rw [e];rfl)).1
  rw [HSZ] at h1
  rw [hk2 ⟨b,off + j,none⟩ (by show W0.heap.size < b;omega) hb,hc j hj]⟩)
 clear hb1 hr1 HSZ
 go_wp2
 rw [<- HZ.out]
 have hzz : w.heap.size < W0.heap.size := by have := HZ.out;omega
 go_loopw [5,7,14] (fun v _ u wr => ∃ (j m : Nat) (A' : Option Addr) (c' : Nat),j <= k /\ u = .int .i64 j /\ v = .slice A' m c' /\ m <= j * 65536 /\ Hid (m = ((SP.take j).flatMap (lAt l)).length) /\ Hid (wr.ownsRow W0.heap.size 3 1 (.slice A' m c') m (((SP.take j).flatMap (lAt l)).map iv)) /\ Hid (Below W0.heap.size W0 wr) /\ Hid (Sl wr w1.heap.size As k ((SP.map fun i : Nat => (i : Int)).map iv)) /\ Hid (∀ g,(Value.slice A' m c').ownBlock = some g -> g = W0.heap.size \/ w1.heap.size <= g) /\ Hid (w1.heap.size <= wr.heap.size)) (fun _ _ u _ => (k - intOf u).toNat)
 case atStart => exact ⟨0,0,_,0,by omega,rfl,rfl,by omega,hidb rfl,hidb HO1.out,HB1,hidb HSL.out,hidb (fun g hg => by injection hg with hg;exact Or.inl hg.symm),hidb (Nat.le_refl _)⟩
 case round =>
  obtain ⟨j,m,A',c',hj,rfl,rfl,hm,HM,HOWN,HB,HSX,HAT,HWZ⟩ := hrel
  obtain ⟨q0,q1,q2,q3,q4,q5⟩ := HQ.out _ HB.out
  have hsz := HB.out.size
  by_cases hlt : j < k
  ·obtain ⟨bs,offs,x,rfl,hx,hc⟩ := HSX.out.int_ hlt
   rw [List.getElem?_map] at hx
   obtain ⟨i,hij,rfl⟩ := Option.map_eq_some_iff.1 hx
   obtain ⟨y,hin,hyn,hyl,hfl,hrd⟩ := HC.out j i hij
   obtain ⟨yid,yA,yn,yc,yl⟩ := y
   simp only at hyn hyl hfl hrd
   have HRD := hidb hrd
   have HFL := hidb hfl
   have HYL := hidb hyl
   obtain ⟨b,off,rfl,e4,_⟩ := hrd wr HB.out
   have hj0 : (0 : Int) <= (j : Int) := by omega
   have hj1 : (j : Int) < (k : Int) := by omega
   have hi0 : (0 : Int) <= (i : Int) := by omega
   have hi1 : (i : Int) < (n3 : Int) := by omega
   have HOD := hidb HOWN.out.drew
   have HSD : Hid (W0.heap.size <= wr.drew.heap.size) := hidb hsz
   obtain ⟨b9,off9,e9,e10,hca,hna⟩ := HRD.out wr.drew HB.out.drew
   clear e9 e10
   have HCA := hidb hca
   have HNA := hidb hna
   have HLL : Hid ((yl.map iv).length = yn * 1) := hidb (by rw [List.length_map,hyl];omega)
   have HONE := hidb (ints_oneCell .i64 yl)
   have HNX : Hid (∀ A5 c5 w5,w5.ownsRow W0.heap.size 3 1 (.slice A5 (m + yn) c5) (m + yn) (((SP.take j).flatMap (lAt l)).map iv ++ yl.map iv) -> wr.drew.grownBy w5 (Value.slice A' m c').ownBlock -> ((Value.slice A5 (m + yn) c5).ownBlock = (Value.slice A' m c').ownBlock \/ (Value.slice A5 (m + yn) c5).ownBlock = some wr.drew.heap.size) -> Hid (m + yn = ((SP.take (j + 1)).flatMap (lAt l)).length) /\ Hid (w5.ownsRow W0.heap.size 3 1 (.slice A5 (m + yn) c5) (m + yn) (((SP.take (j + 1)).flatMap (lAt l)).map iv)) /\ Hid (Below W0.heap.size W0 w5) /\ Hid (Sl w5 w1.heap.size (some ⟨bs,offs,none⟩) k ((SP.map fun i : Nat => (i : Int)).map iv)) /\ Hid (∀ g,(Value.slice A5 (m + yn) c5).ownBlock = some g -> g = W0.heap.size \/ w1.heap.size <= g) /\ Hid (w1.heap.size <= w5.heap.size)) := hidb (fun A5 c5 w5 ho5 hg5 hat5 => by
    have hb5 : Below W0.heap.size W0 w5 := HB.out.drew.grown hg5 HSD.out (fun q hq => (HOD.out.lt q hq).1)
    refine ⟨hidb ?_,hidb ?_,hidb hb5,hidb ?_,hidb ?_,hidb (Nat.le_trans HWZ.out hg5.size)⟩
    ·rw [HFL.out,List.length_append,<- HM.out,HYL.out]
    ·rw [HFL.out,List.map_append];exact ho5
    ·refine SLK.out wr w5 HSX.out fun p h1 h2 => World.cell?_of_block (hg5.block p.block ?_ ?_)
     ·show p.block < wr.heap.size
      have := HWZ.out
      omega
     ·intro hq
      rcases HAT.out _ hq.symm with h | h <;> omega
    ·intro g hg
     rcases hat5 with h | h
     ·exact HAT.out g (h.symm.trans hg)
     ·rw [h] at hg
      injection hg with hg
      have h3 : wr.drew.heap.size = wr.heap.size := rfl
      have := HWZ.out
      omega)
   clear hrd hfl hyl hx hij hca hna
   go_wp2
   go_region_law (refine xw2 rfl (.tmp 17) (.tmp 26) 38 rfl W0.heap.size 3 i0 (.int .i64 0) 1 8 Tryz.underlying38 hi hz0 hz1 hz2 rfl (by decide) _ m _ rfl HOD.out HSD.out yA yn yc (yl.map iv) rfl HLL.out HNA.out HCA.out HONE.out (by unfold maxLen;omega) (by omega) ?_;intro A5 c5 w5 hown5 hg5 hat5;obtain ⟨HN1,HN2,HN3,HN4,HN5,HN6⟩ := HNX.out A5 c5 w5 hown5 hg5 hat5;clear hown5 hg5 hat5)
   all_goals go_wp2
   all_goals go_roundw
   all_goals first
    | (simp [intOf];omega;done)
    | (exact ⟨j + 1,m + yn,A5,c5,by omega,by go_num,rfl,by omega,HN1,HN2,HN3,HN4,HN5,HN6⟩)
  ·obtain rfl : j = k := by omega
   have P : Hid (OwnInts w (SP.flatMap (lAt l)) (.returned (.slice A' m c')) wr) := hidb (by
    have e : SP.take j = SP := List.take_of_length_le (by rw [HK.out];exact Nat.le_refl _)
    have h1 := HM.out
    have h2 := HOWN.out
    rw [e] at h1 h2
    exact HFIN.out wr A' c' m h1 h2 HB.out)
   clear HOWN HM HSX
   go_wp2
   go_ret
   exact P.out
end Go.Proofs.YtlcdgmjinhbncaaGreat
