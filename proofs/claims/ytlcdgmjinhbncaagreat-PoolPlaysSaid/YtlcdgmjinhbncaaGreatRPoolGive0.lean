import Derived.Test.YtlcdgmjinhbncaaGreatRPoolAdd
namespace Go.Proofs.YtlcdgmjinhbncaaGreat
open Go.RowKit Go.Maps
set_option linter.unusedVariables false
theorem xWd {t : Nat} (p : Nat -> Bool) (I : Nat -> World -> Prop) (A : Option Addr) (n c : Nat) (zs : List Int) (w : World) (hI : I 0 w) (hs : ∀ j W,I j W -> Sl W W.heap.size A n (zs.map iv))
  (hq : ∀ j z W,zs[j]? = some z -> I j W -> Calls Tryz.prog 141 #[.int .i64 z,.pointer (some ⟨t,0,none⟩)] W fun e w' => e = .returned (.bool (p j)) /\ I (j + 1) w') (hn : n <= 131072) :
  Calls Tryz.prog 155 #[.slice A n c,.func (.func 141) #[] #[.pointer (some ⟨t,0,none⟩)]] w fun e w' => (∃ r : Int,e = .returned (.int .i64 r) /\ -1 <= r /\ r <= 9223372036854775807 /\ decide (0 <= r) = (List.range n).any p) /\ ∃ j,j <= n /\ I j w' := by
 have HL : Hid (zs.length = n) := hidb (by have := (hs 0 w hI).1;simpa using this)
 have HI := hidb hI
 have HS := hidb hs
 have HQ := hidb hq
 clear hI hs hq
 go_enter Tryz.func155,Tryz.ntmps155
 go_wp2
 go_loopw [8] (fun k wr => ∃ j : Nat,j <= n /\ Hid (∀ i,i < j -> p i = false) /\ k = .int .i64 j /\ Hid (I j wr)) (fun k _ => (n - intOf k).toNat)
 case atStart => exact ⟨0,by omega,hidb (fun i h => absurd h (Nat.not_lt_zero _)),rfl,HI⟩
 case round =>
  obtain ⟨j,hj,HA,rfl,HJ⟩ := hrel
  by_cases hlt : j < n
  ·obtain ⟨b,off,z,rfl,hx,hc⟩ := (HS.out j wr HJ.out).int_ hlt
   have c1 := HQ.out j z wr hx HJ.out
   have hj0 : (0 : Int) <= (j : Int) := by omega
   have hj1 : (j : Int) < (n : Int) := by omega
   clear hx
   cases hT : p j with
   | false =>
    rw [hT] at c1
    have HA2 : Hid (∀ i,i < j + 1 -> p i = false) := hidb (fun i hi => by
     by_cases h : i = j
     ·subst h;exact hT
     ·exact HA.out i (by omega))
    clear hT
    go_wp2_with (first | (go_at_call 141;(with_reducible refine c1.mono ?_);rintro e w1 ⟨rfl,hi1⟩))
    go_roundw
    case rel => exact ⟨j + 1,by omega,HA2,by go_num,hidb hi1⟩
    case measure => simp [intOf];omega
   | true =>
    rw [hT] at c1
    have HF : Hid ((List.range n).any p = true) := hidb (by
     rw [List.any_eq_true]
     exact ⟨j,List.mem_range.2 hlt,hT⟩)
    clear hT
    go_wp2_with (first | (go_at_call 141;(with_reducible refine c1.mono ?_);rintro e w1 ⟨rfl,hi1⟩))
    go_ret
    exact ⟨⟨j,rfl,by omega,by omega,by rw [HF.out];exact decide_eq_true (by omega)⟩,j + 1,by omega,hi1⟩
  ·have HF : Hid ((List.range n).any p = false) := hidb (by
    rw [List.any_eq_false]
    intro i hi
    have := HA.out i (by have := List.mem_range.1 hi;omega)
    simp [this])
   go_wp2
   go_ret
   exact ⟨⟨-1,rfl,by omega,by omega,by rw [HF.out];rfl⟩,j,hj,HJ.out⟩
theorem xWe {t : Nat} (p : Nat -> Bool) (I : Nat -> World -> Prop) (A : Option Addr) (n c : Nat) (zs : List Int) (w : World) (hI : I 0 w) (hs : ∀ j W,I j W -> Sl W W.heap.size A n (zs.map iv))
  (hq : ∀ j z W,zs[j]? = some z -> I j W -> Calls Tryz.prog 141 #[.int .i64 z,.pointer (some ⟨t,0,none⟩)] W fun e w' => e = .returned (.bool (p j)) /\ I (j + 1) w') (hn : n <= 131072) :
  Calls Tryz.prog 103 #[.slice A n c,.func (.func 141) #[] #[.pointer (some ⟨t,0,none⟩)]] w fun e w' => e = .returned (.bool ((List.range n).any p)) /\ ∃ j,j <= n /\ I j w' := by
 have c1 := xWd p I A n c zs w hI hs hq hn
 clear hI hs hq
 go_enter Tryz.func103,Tryz.ntmps103
 go_wp2_with (go_at_call 155;(with_reducible refine c1.mono ?_);rintro e w1 ⟨⟨r,rfl,h1,h2,h3⟩,hj1⟩)
 go_ret
 exact ⟨rfl,hj1⟩
theorem xWf {s t : Nat} (p : Nat -> Bool) (I : Nat -> World -> Prop) (A : Option Addr) (n c : Nat) (zs : List Int) (w : World) (hI : I 0 w) (hs : ∀ j W,I j W -> Sl W W.heap.size A n (zs.map iv))
  (hq : ∀ j z W,zs[j]? = some z -> I j W -> Calls Tryz.prog 142 #[.int .i64 z,.pointer (some ⟨s,0,none⟩),.pointer (some ⟨t,0,none⟩)] W fun e w' => e = .returned (.bool (p j)) /\ I (j + 1) w') (hn : n <= 131072) :
  Calls Tryz.prog 155 #[.slice A n c,.func (.func 142) #[] #[.pointer (some ⟨s,0,none⟩),.pointer (some ⟨t,0,none⟩)]] w fun e w' => (∃ r : Int,e = .returned (.int .i64 r) /\ -1 <= r /\ r <= 9223372036854775807 /\ decide (0 <= r) = (List.range n).any p) /\ ∃ j,j <= n /\ I j w' := by
 have HL : Hid (zs.length = n) := hidb (by have := (hs 0 w hI).1;simpa using this)
 have HI := hidb hI
 have HS := hidb hs
 have HQ := hidb hq
 clear hI hs hq
 go_enter Tryz.func155,Tryz.ntmps155
 go_wp2
 go_loopw [8] (fun k wr => ∃ j : Nat,j <= n /\ Hid (∀ i,i < j -> p i = false) /\ k = .int .i64 j /\ Hid (I j wr)) (fun k _ => (n - intOf k).toNat)
 case atStart => exact ⟨0,by omega,hidb (fun i h => absurd h (Nat.not_lt_zero _)),rfl,HI⟩
 case round =>
  obtain ⟨j,hj,HA,rfl,HJ⟩ := hrel
  by_cases hlt : j < n
  ·obtain ⟨b,off,z,rfl,hx,hc⟩ := (HS.out j wr HJ.out).int_ hlt
   have c1 := HQ.out j z wr hx HJ.out
   have hj0 : (0 : Int) <= (j : Int) := by omega
   have hj1 : (j : Int) < (n : Int) := by omega
   clear hx
   cases hT : p j with
   | false =>
    rw [hT] at c1
    have HA2 : Hid (∀ i,i < j + 1 -> p i = false) := hidb (fun i hi => by
     by_cases h : i = j
     ·subst h;exact hT
     ·exact HA.out i (by omega))
    clear hT
    go_wp2_with (first | (go_at_call 142;(with_reducible refine c1.mono ?_);rintro e w1 ⟨rfl,hi1⟩))
    go_roundw
    case rel => exact ⟨j + 1,by omega,HA2,by go_num,hidb hi1⟩
    case measure => simp [intOf];omega
   | true =>
    rw [hT] at c1
    have HF : Hid ((List.range n).any p = true) := hidb (by
     rw [List.any_eq_true]
     exact ⟨j,List.mem_range.2 hlt,hT⟩)
    clear hT
    go_wp2_with (first | (go_at_call 142;(with_reducible refine c1.mono ?_);rintro e w1 ⟨rfl,hi1⟩))
    go_ret
    exact ⟨⟨j,rfl,by omega,by omega,by rw [HF.out];exact decide_eq_true (by omega)⟩,j + 1,by omega,hi1⟩
  ·have HF : Hid ((List.range n).any p = false) := hidb (by
    rw [List.any_eq_false]
    intro i hi
    have := HA.out i (by have := List.mem_range.1 hi;omega)
    simp [this])
   go_wp2
   go_ret
   exact ⟨⟨-1,rfl,by omega,by omega,by rw [HF.out];rfl⟩,j,hj,HJ.out⟩
theorem xWg {s t : Nat} (p : Nat -> Bool) (I : Nat -> World -> Prop) (A : Option Addr) (n c : Nat) (zs : List Int) (w : World) (hI : I 0 w) (hs : ∀ j W,I j W -> Sl W W.heap.size A n (zs.map iv))
  (hq : ∀ j z W,zs[j]? = some z -> I j W -> Calls Tryz.prog 142 #[.int .i64 z,.pointer (some ⟨s,0,none⟩),.pointer (some ⟨t,0,none⟩)] W fun e w' => e = .returned (.bool (p j)) /\ I (j + 1) w') (hn : n <= 131072) :
  Calls Tryz.prog 103 #[.slice A n c,.func (.func 142) #[] #[.pointer (some ⟨s,0,none⟩),.pointer (some ⟨t,0,none⟩)]] w fun e w' => e = .returned (.bool ((List.range n).any p)) /\ ∃ j,j <= n /\ I j w' := by
 have c1 := xWf p I A n c zs w hI hs hq hn
 clear hI hs hq
 go_enter Tryz.func103,Tryz.ntmps103
 go_wp2_with (go_at_call 155;(with_reducible refine c1.mono ?_);rintro e w1 ⟨⟨r,rfl,h1,h2,h3⟩,hj1⟩)
 go_ret
 exact ⟨rfl,hj1⟩
theorem xWh {w : World} {Sh : Nat -> Prop} {p hp ap g mb n m : Nat} {D : DataW Unit} {v : PoolW} (k : PlAt w Sh p hp ap g mb n m D v) (o : PlOk n m v) (t : Nat) (ht : w.cell? ⟨t,0,none⟩ = some (.pointer (some ⟨p,0,none⟩))) (x : Int) (hx : in64 x) :
  Calls Tryz.prog 141 #[.int .i64 x,.pointer (some ⟨t,0,none⟩)] w fun e w' => e = .returned (.bool (cutAtP v.ks x).isNone) /\ Below w.heap.size w w' := by
 have cc := xvi k o x hx
 cases hc : cutAtP v.ks x with
 | none =>
  rw [hc,Option.map_none,show ptrv none = .pointer none from rfl] at cc
  clear hc k o
  go_enter Tryz.func141,Tryz.ntmps141
  go_wp2_with (first
   | (go_at_call 78;(with_reducible refine cc.mono ?_);rintro e w1 ⟨rfl,hb1⟩))
  go_ret
  exact ⟨rfl,hb1⟩
 | some c =>
  rw [hc,Option.map_some,show ptrv (some c.b) = .pointer (some ⟨c.b,0,none⟩) from rfl] at cc
  clear hc k o
  go_enter Tryz.func141,Tryz.ntmps141
  go_wp2_with (first
   | (go_at_call 78;(with_reducible refine cc.mono ?_);rintro e w1 ⟨rfl,hb1⟩))
  go_ret
  exact ⟨rfl,hb1⟩
structure NamSt (w W : World) (sb tb nb p j : Nat) (xs : List Int) (D : DataW Unit) : Prop where
 nm : W.ownsMap Tryz.prog 3 boolR nb j D
 ni : NIs D (xs.take j)
 gr : w.grownBy W (some nb)
 sc : W.cell? ⟨sb,0,none⟩ = some (.map (some nb))
 tc : W.cell? ⟨tb,0,none⟩ = some (.pointer (some ⟨p,0,none⟩))
 ne : sb ≠ nb /\ tb ≠ nb
theorem NamSt.below {w W W' : World} {sb tb nb p j : Nat} {xs : List Int} {D : DataW Unit} (h : NamSt w W sb tb nb p j xs D) (hb : Below W.heap.size W W') : NamSt w W' sb tb nb p j xs D :=
 ⟨xq2 h.nm (hb.block _ h.nm.lt),h.ni,xq4 h.gr (xq3 hb _),(hb.cell (p := ⟨sb,0,none⟩) (xq0 h.sc)).trans h.sc,(hb.cell (p := ⟨tb,0,none⟩) (xq0 h.tc)).trans h.tc,h.ne⟩
theorem xWi {w W : World} {Sh : Nat -> Prop} {p hp ap g mb n m nb : Nat} {D : DataW Unit} {v : PoolW} (HP : ∀ W,w.grownBy W (some nb) -> PlAt W Sh p hp ap g mb n m D v) (o : PlOk n m v) {sb tb j : Nat} {xs : List Int} {D2 : DataW Unit} (hs : NamSt w W sb tb nb p j xs D2) (hj : j <= 1000000) (x : Int) (hx : xs[j]? = some x) (hi : in64 x) :
  Calls Tryz.prog 142 #[.int .i64 x,.pointer (some ⟨sb,0,none⟩),.pointer (some ⟨tb,0,none⟩)] W fun e w' => e = .returned (.bool ((xs.take j).contains x || decide (orderP v.ks x < 0))) /\ ∃ D3,NamSt w w' sb tb nb p (j + 1) xs D3 := by
 have hrun := xZo hs.nm hs.ni x hi 213 Tryz.underlying213
 have HN := hidb (hs.ni.put (xkr hs.nm) hi)
 have HS := hidb hs
 have HI := hidb hi
 have HE : Hid (xs.take (j + 1) = xs.take j ++ [x]) := hidb (by rw [List.take_add_one,hx];rfl)
 have HCO : Hid (∀ W2,w.grownBy W2 (some nb) -> Calls Tryz.prog 20 #[.pointer (some ⟨p,0,none⟩),.int .i64 x] W2 fun e w' => e = .returned (.int .i64 (orderP v.ks x)) /\ Below W2.heap.size W2 w') := hidb (fun W2 hg => xQ8 (HP W2 hg) o x hi)
 have HST : Hid (∀ w3 D3,w3.ownsMap Tryz.prog 3 boolR nb (j + 1) D3 -> NIs D3 (xs.take j ++ [x]) -> W.grownBy w3 (some nb) -> NamSt w w3 sb tb nb p (j + 1) xs D3) := hidb (fun w3 D3 h1 h2 h3 => by
  obtain ⟨n1,n2⟩ := hs.ne
  exact ⟨h1,by rw [HE.out];exact h2,xq4 hs.gr h3,(World.cell?_of_block (w := W) (a := ⟨sb,0,none⟩) (h3.block _ (xq0 hs.sc) (fun e => n1 (by injection e)))).trans hs.sc,(World.cell?_of_block (w := W) (a := ⟨tb,0,none⟩) (h3.block _ (xq0 hs.tc) (fun e => n2 (by injection e)))).trans hs.tc,hs.ne⟩)
 have sc := hs.sc
 have tc := hs.tc
 obtain ⟨bb,hb⟩ : ∃ bb,(xs.take j).contains x = bb := ⟨_,rfl⟩
 obtain ⟨oo,hoo⟩ : ∃ oo,orderP v.ks x = oo := ⟨_,rfl⟩
 rw [hb] at hrun ⊢
 rw [hoo] at HCO ⊢
 clear hs hb hi hoo HP o hx
 cases bb with
 | true =>
  go_enter Tryz.func142,Tryz.ntmps142
  go_wp2_with (first
   | (at_mapUpdate;refine wpList_mapUpdate_own _ rfl _ _ _ 213 rfl 3 4 keyed Tryz.underlying213 boolR nb j D2 rfl HS.out.nm (by unfold maxLen;omega) _ _ _ rfl rfl (xzp HI.out) _ [] (xkq true) ?_;intro w3 hm3 hg3;have H3 := hidb (HST.out w3 _ hm3 HN.out hg3);have tc3 := H3.out.tc)
   | go_in)
  go_ret
  exact ⟨rfl,_,H3.out⟩
 | false =>
  go_enter Tryz.func142,Tryz.ntmps142
  go_wp2_with (first
   | (at_mapUpdate;refine wpList_mapUpdate_own _ rfl _ _ _ 213 rfl 3 4 keyed Tryz.underlying213 boolR nb j D2 rfl HS.out.nm (by unfold maxLen;omega) _ _ _ rfl rfl (xzp HI.out) _ [] (xkq true) ?_;intro w3 hm3 hg3;have H3 := hidb (HST.out w3 _ hm3 HN.out hg3);have tc3 := H3.out.tc;have co := HCO.out w3 H3.out.gr)
   | (go_at_call 20;(with_reducible refine co.mono ?_);rintro e w4 ⟨rfl,hb4⟩)
   | go_in)
  go_ret
  exact ⟨by simp,_,H3.out.below hb4⟩
end Go.Proofs.YtlcdgmjinhbncaaGreat
