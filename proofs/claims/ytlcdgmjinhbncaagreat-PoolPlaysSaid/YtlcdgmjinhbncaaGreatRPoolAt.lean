import Derived.Test.YtlcdgmjinhbncaaGreatRPoolSort
import Derived.Test.YtlcdgmjinhbncaaGreatRChainAll
namespace Go.Proofs.YtlcdgmjinhbncaaGreat
open Go.RowKit Go.Maps
set_option linter.unusedVariables false
def pv (k : CutV) : Value := .pointer (some ⟨k.b,0,none⟩)
theorem ykh (q : CutV -> Bool) (t : Nat) (A : Option Addr) (n c : Nat) (ds : List (CutV)) (w : World) (hs : Sl w w.heap.size A n (ds.map pv)) (hn : n <= 4611686018427387903)
  (hq : ∀ W,Below w.heap.size w W -> ∀ k ∈ ds,Calls Tryz.prog 153 #[pv k,.pointer (some ⟨t,0,none⟩)] W fun e w' => e = .returned (.bool (q k)) /\ Below W.heap.size W w') :
  Calls Tryz.prog 216 #[.slice A n c,.func (.func 153) #[] #[.pointer (some ⟨t,0,none⟩)]] w fun e w' => (∃ r : Int,e = .returned (.int .i64 r) /\ ((r = -1 /\ ∀ k ∈ ds,q k = false) \/ ∃ i : Nat,i < n /\ r = i /\ (∀ (j : Nat) x,j < i -> ds[j]? = some x -> q x = false) /\ ∀ x,ds[i]? = some x -> q x = true)) /\ Below w.heap.size w w' := by
 have HL : Hid (ds.length = n) := hidb (by have := hs.1;simpa using this)
 have HS := hidb hs
 have HQ := hidb hq
 clear hs hq
 go_enter Tryz.func216,Tryz.ntmps216
 go_wp2
 go_loopw [8] (fun k wr => ∃ j : Nat,j <= n /\ Hid (∀ (i : Nat) x,i < j -> ds[i]? = some x -> q x = false) /\ k = .int .i64 j /\ Hid (Below w.heap.size w wr)) (fun k _ => (n - intOf k).toNat)
 case atStart => exact ⟨0,by omega,hidb (fun i x h => absurd h (Nat.not_lt_zero _)),rfl,hidb (Below.refl _ _)⟩
 case round =>
  obtain ⟨j,hj,HA,rfl,HB⟩ := hrel
  by_cases hlt : j < n
  ·obtain ⟨b,off,u,rfl,_,hx,hc⟩ := (HS.out.below HB.out).at_ hlt
   obtain ⟨x,hx2,rfl⟩ : ∃ x,ds[j]? = some x /\ pv x = u := by
    rw [List.getElem?_map] at hx
    exact Option.map_eq_some_iff.1 hx
   have c1 := HQ.out wr HB.out x (List.mem_of_getElem? hx2)
   have hj0 : (0 : Int) <= (j : Int) := by omega
   have hj1 : (j : Int) < (n : Int) := by omega
   have HX := hidb hx2
   clear hx hx2
   unfold pv at hc c1
   cases hT : q x with
   | false =>
    rw [hT] at c1
    have HA2 : Hid (∀ (i : Nat) y,i < j + 1 -> ds[i]? = some y -> q y = false) := hidb (fun i y hi hy => by
     by_cases h : i = j
     ·subst h
      rw [HX.out] at hy
      injection hy with hy
      rw [<- hy];exact hT
     ·exact HA.out i y (by omega) hy)
    clear hT
    go_wp2_with (first | (go_at_call 153;(with_reducible refine c1.mono ?_);rintro e w1 ⟨rfl,hb1⟩))
    go_roundw
    case rel => exact ⟨j + 1,by omega,HA2,by go_num,hidb (HB.out.trans (hb1.mono HB.out.size))⟩
    case measure => simp [intOf];omega
   | true =>
    rw [hT] at c1
    have HF : Hid (∀ y,ds[j]? = some y -> q y = true) := hidb (fun y hy => by
     rw [HX.out] at hy
     injection hy with hy
     rw [<- hy];exact hT)
    clear hT
    go_wp2_with (first | (go_at_call 153;(with_reducible refine c1.mono ?_);rintro e w1 ⟨rfl,hb1⟩))
    go_ret
    exact ⟨⟨j,rfl,Or.inr ⟨j,hlt,rfl,HA.out,HF.out⟩⟩,HB.out.trans (hb1.mono HB.out.size)⟩
  ·have HF : Hid (∀ k ∈ ds,q k = false) := hidb (fun k hk => by
    obtain ⟨i,hi,e⟩ := List.mem_iff_getElem.1 hk
    exact HA.out i k (by have := HL.out;omega) (by rw [List.getElem?_eq_getElem hi,e]))
   go_wp2
   go_ret
   exact ⟨⟨-1,rfl,Or.inl ⟨rfl,HF.out⟩⟩,HB.out⟩
def DeletedP (w : World) (base : Nat) (row : Option Nat) (ds : List (CutV)) (e : Ending) (w' : World) : Prop :=
 ∃ A c,e = .returned (.slice A ds.length c) /\ w'.ownsRow base 135 1 (.slice A ds.length c) ds.length (ds.map pv) /\ w.grownBy w' row
structure DelStP (w wr : World) (g n i j : Nat) (L : List Value) (q : CutV -> Bool) (ds : List (CutV)) (L' : List Value) : Prop where
 row : Rw wr g 135 L'
 len : L'.length = L.length
 tk : L'.take i = ((ds.take j).filter fun x => !q x).map pv
 fl : ((ds.take j).filter fun x => !q x).length = i
 hi : ∀ m,j <= m -> L'[m]? = L[m]?
 gr : w.grownBy wr (some g)
section
variable {w wr : World} {g n i j : Nat} {L L' : List Value} {q : CutV -> Bool} {ds : List (CutV)}
theorem DelStP.below {w' : World} (h : DelStP w wr g n i j L q ds L') (hb : Below wr.heap.size wr w') : DelStP w w' g n i j L q ds L' :=
 ⟨h.row.below hb h.row.lt,h.len,h.tk,h.fl,h.hi,xq4 h.gr (xq3 hb _)⟩
theorem DelStP.skip (h : DelStP w wr g n i j L q ds L') {x : CutV} (hx : ds[j]? = some x) (hq : q x = true) : DelStP w wr g n i (j + 1) L q ds L' := by
 have e : (ds.take (j + 1)).filter (fun x => !q x) = (ds.take j).filter (fun x => !q x) := by
  rw [List.take_add_one,hx,List.filter_append];simp [hq]
 exact ⟨h.row,h.len,by rw [e];exact h.tk,by rw [e];exact h.fl,fun m hm => h.hi m (by omega),h.gr⟩
theorem DelStP.keep (h : DelStP w wr g n i j L q ds L') (hij : i < j) (hj : j < L.length) {x : CutV} (hx : ds[j]? = some x) (hq : q x = false) : DelStP w (wr.setCell ⟨g,i,none⟩ (pv x)) g n (i + 1) (j + 1) L q ds (L'.set i (pv x)) := by
 have hl := h.len
 have e : (ds.take (j + 1)).filter (fun x => !q x) = (ds.take j).filter (fun x => !q x) ++ [x] := by
  rw [List.take_add_one,hx,List.filter_append];simp [hq]
 refine ⟨h.row.setCell i _,by rw [List.length_set];exact hl,?_,by rw [e,List.length_append,h.fl];rfl,fun m hm => ?_,xz6 h.gr i _⟩
 ·rw [List.take_add_one,List.take_set_of_le (Nat.le_refl _),h.tk,e,List.map_append,List.getElem?_set_self (by omega)]
  rfl
 ·rw [List.getElem?_set_ne (by omega)]
  exact h.hi m (by omega)
end
theorem start_p {q : CutV -> Bool} {ds : List (CutV)} {i : Nat} (hi : i < ds.length) (h1 : ∀ (j : Nat) x,j < i -> ds[j]? = some x -> q x = false) (h2 : ∀ x,ds[i]? = some x -> q x = true) : (ds.take (i + 1)).filter (fun x => !q x) = ds.take i := by
 have e1 : (ds.take i).filter (fun x => !q x) = ds.take i := List.filter_eq_self.2 fun x hx => by
  obtain ⟨k,hk,e⟩ := List.mem_iff_getElem.1 hx
  rw [List.length_take] at hk
  have := h1 k x (by omega) (by rw [<- e,List.getElem_take];exact List.getElem?_eq_getElem _)
  simp [this]
 have hx := List.getElem?_eq_getElem hi
 rw [List.take_add_one,hx,List.filter_append,e1]
 simp [h2 _ hx]
theorem zero_p (w : World) : (zeroValue 135).run Tryz.prog w = .ok (.pointer none) w := by kernel_rfl
theorem zeros_p (n : Nat) : (Builtin.zeroCells (.pointer none : Value).cells n).size = n := by simp [Builtin.zeroCells,Value.cells]
theorem zones_p (n : Nat) : ∀ v ∈ (Builtin.zeroCells (.pointer none : Value).cells n).toList,v.oneCell' = true := fun v hv => by
 simp [Builtin.zeroCells,Value.cells,Nat.mod_one] at hv
 obtain ⟨_,rfl⟩ := hv
 rfl
set_option maxRecDepth 100000 in
theorem yki (q : CutV -> Bool) (t : Nat) (A : Option Addr) (n c : Nat) (ds : List (CutV)) (w : World) (base : Nat) (hown : w.ownsRow base 135 1 (.slice A n c) n (ds.map pv)) (hl : ds.length = n) (hn : n <= 4611686018427387903)
  (hq : ∀ W,w.grownBy W (Value.slice A n c).ownBlock -> ∀ k ∈ ds,Calls Tryz.prog 153 #[pv k,.pointer (some ⟨t,0,none⟩)] W fun e w' => e = .returned (.bool (q k)) /\ Below W.heap.size W w') :
  Calls Tryz.prog 152 #[.slice A n c,.func (.func 153) #[] #[.pointer (some ⟨t,0,none⟩)]] w (DeletedP w base (Value.slice A n c).ownBlock (ds.filter fun x => !q x)) := by
 have ci := ykh q t A n c ds w (Sl.of_own hown) hn (fun W hb => hq W (xq3 hb _))
 have HD1 : Hid (∀ W,Below w.heap.size w W -> (∀ k ∈ ds,q k = false) -> DeletedP w base (Value.slice A n c).ownBlock (ds.filter fun x => !q x) (.returned (.slice A n c)) W) := hidb (fun W hb hk => by
  have e : (ds.filter fun x => !q x) = ds := List.filter_eq_self.2 fun x hx => by simp [hk x hx]
  rw [e]
  exact ⟨A,c,by rw [hl],by rw [hl];exact xqk hown hb,xq3 hb _⟩)
 by_cases hne : n = 0
 ·subst hne
  have hnil : ds = [] := List.eq_nil_of_length_eq_zero hl
  clear hown hq hl
  go_enter Tryz.func152,Tryz.ntmps152
  go_wp2_with (go_at_call 216;(with_reducible refine ci.mono ?_);rintro e w1 ⟨⟨r,rfl,(⟨rfl,_⟩ | ⟨i,hi,_⟩)⟩,hb1⟩)
  go_ret
  exact HD1.out _ hb1 (by rw [hnil];intro k hk;cases hk)
 ·obtain ⟨g,rfl⟩ : ∃ g,A = some ⟨g,0,none⟩ := by
   rcases hown.2 with ⟨_,h⟩ | ⟨g,cap,cur,h,_⟩
   ·exact absurd h hne
   ·injection h with e1;exact ⟨g,e1⟩
  obtain ⟨L,hL,hbg,hnc,hcm,hLl,hxs⟩ := xqj hown
  rw [Nat.mul_one] at hLl hxs
  have HQ : Hid (∀ W,w.grownBy W (some g) -> ∀ k ∈ ds,Calls Tryz.prog 153 #[pv k,.pointer (some ⟨t,0,none⟩)] W fun e w' => e = .returned (.bool (q k)) /\ Below W.heap.size W w') := hidb hq
  have HST : Hid (∀ i,i < n -> (∀ (j : Nat) x,j < i -> ds[j]? = some x -> q x = false) -> (∀ x,ds[i]? = some x -> q x = true) -> ∀ W,Below w.heap.size w W -> DelStP w W g n i (i + 1) L q ds L) := hidb (fun i hi h1 h2 W hb => by
   have e := start_p (by omega) h1 h2
   refine ⟨hL.below hb hL.lt,rfl,?_,by rw [e,List.length_take];omega,fun _ _ => rfl,xq3 hb _⟩
   rw [e,List.map_take,hxs,List.take_take,Nat.min_eq_left (by omega)])
  have HDL : Hid (∀ j,j < n -> ∃ x,ds[j]? = some x /\ L[j]? = some (pv x)) := hidb (fun j hj => by
   have h1 := List.getElem?_eq_getElem (l := ds) (i := j) (by omega)
   refine ⟨_,h1,?_⟩
   have h2 : (L.take n)[j]? = L[j]? := by rw [List.getElem?_take,if_pos hj]
   rw [<- h2,<- hxs,List.getElem?_map,h1];rfl)
  have HFIN : Hid (∀ W i L3,Rw W g 135 L3 -> L3.length = L.length -> L3.take i = (ds.filter fun x => !q x).map pv -> (ds.filter fun x => !q x).length = i -> w.grownBy W (some g) -> DeletedP w base (Value.slice (some ⟨g,0,none⟩) n c).ownBlock (ds.filter fun x => !q x) (.returned (.slice (some ⟨g,0,none⟩) i c)) W) := hidb (fun W i L3 h1 h2 h3 h4 h5 => by
   have hic : i <= c := by
    have := List.length_filter_le (fun x => !q x) ds
    omega
   have h6 := xq8 (base := base) (s := 1) (n := i) (c := c) h1 hbg hic hcm (by rw [h2,hLl];omega)
   rw [Nat.mul_one,h3] at h6
   exact ⟨some ⟨g,0,none⟩,c,by rw [h4],by rw [h4];exact h6,h5⟩)
  have hg := hL.lt
  have HL := hidb hLl
  have HDS := hidb hl
  have hc2 : c <= 9223372036854775807 := hcm
  clear hown hq hL hLl hxs hl hbg hcm
  go_enter Tryz.func152,Tryz.ntmps152
  go_wp2_with (go_at_call 216;(with_reducible refine ci.mono ?_);rintro e w1 ⟨⟨r,rfl,(⟨rfl,hall⟩ | ⟨i0,hi0,rfl,h1,h2⟩)⟩,hb1⟩)
  ·go_ret
   exact HD1.out _ hb1 hall
  have HI := hidb (HST.out i0 hi0 h1 h2 w1 hb1)
  have hne1 : ((i0 : Int) == -1) = false := beq_eq_false_iff_ne.2 (by omega)
  clear h1 h2 hb1 HST HD1
  go_wp2
  go_loopw [5,6,7] (fun s5 s6 _ wr => ∃ (i j : Nat) (L' : List Value),s5 = .int .i64 i /\ s6 = .int .i64 j /\ i < j /\ j <= n /\ Hid (DelStP w wr g n i j L q ds L')) (fun _ s6 _ _ => (n - intOf s6).toNat)
  case atStart => exact ⟨i0,i0 + 1,L,rfl,by go_num,by omega,by omega,HI⟩
  case round =>
   obtain ⟨i,j,L',rfl,rfl,hij,hjn,HST⟩ := hrel
   have hL' := HST.out.row
   have hlen' : L'.length = c := by rw [HST.out.len];exact HL.out
   by_cases hlt : j < n
   ·obtain ⟨x,hx,hLx⟩ := HDL.out j hlt
    have cj : wr.cell? ⟨g,j,none⟩ = some (pv x) := by rw [hL'.cell,HST.out.hi j (Nat.le_refl _)];exact hLx
    have c1 := HQ.out wr HST.out.gr x (List.mem_of_getElem? hx)
    have HX := hidb hx
    have hj0 : (0 : Int) <= (j : Int) := by omega
    have hj1 : (j : Int) < (n : Int) := by omega
    have hi0' : (0 : Int) <= (i : Int) := by omega
    have hi1' : (i : Int) < (n : Int) := by omega
    have HIC : Hid (∀ W,Below wr.heap.size wr W -> ∃ u,W.cell? ⟨g,i,none⟩ = some u /\ W.frozen? ⟨g,i,none⟩ = false) := hidb (fun W hb => by
     have h := hL'.below hb hL'.lt
     exact ⟨L'[i]'(by omega),by rw [h.cell];exact List.getElem?_eq_getElem _,h.free i⟩)
    clear hx hLx hL'
    unfold pv at cj c1
    cases hT : q x with
    | true =>
     rw [hT] at c1
     have HST2 := hidb (fun W hb => (HST.out.below (w' := W) hb).skip HX.out hT)
     clear hT
     go_wp2_with (go_at_call 153;(with_reducible refine c1.mono ?_);rintro e w2 ⟨rfl,hb2⟩)
     go_roundw
     case rel => refine ⟨_,_,_,_,_,_,_,_,_,_,_,_,_,_,_,_,_,_,_,_,_,_,_,?_,rfl⟩;exact ⟨i,j + 1,L',rfl,by go_num,by omega,by omega,hidb (HST2.out _ hb2)⟩
     case measure => simp [intOf];omega
    | false =>
     rw [hT] at c1
     have HST2 := hidb (fun W hb => (HST.out.below (w' := W) hb).keep hij (by have := HL.out;omega) HX.out hT)
     clear hT
     go_wp2_with (go_at_call 153;(with_reducible refine c1.mono ?_);rintro e w2 ⟨rfl,hb2⟩;obtain ⟨u,ci1,ci2⟩ := HIC.out _ hb2)
     go_roundw
     case rel => refine ⟨_,_,_,_,_,_,_,_,_,_,_,_,_,_,_,_,_,_,_,_,_,_,_,?_,rfl⟩;exact ⟨i + 1,j + 1,_,by go_num,by go_num,by omega,by omega,hidb (HST2.out _ hb2)⟩
     case measure => simp [intOf];omega
   ·obtain rfl : j = n := by omega
    have HRW := hidb hL'
    have hi0' : (0 : Int) <= (i : Int) := by omega
    have hi1' : (i : Int) <= (j : Int) := by omega
    have hi2' : (i : Int) < (c : Int) := by omega
    have hs0 : ((j : Int) - (i : Int)).toNat = j - i := by omega
    have hs1 : ((c : Int) - (i : Int)).toNat = c - i := by omega
    clear hL'
    go_wp2_with (first
     | (refine xqm rfl (.tmp 38) 133 rfl 135 _ Tryz.underlying133 zero_p _ g i _ _ rfl _ _ HRW.out (zones_p _) (by intro _;exact ⟨rfl,by rw [zeros_p];omega⟩) ?_;intro w3 L3 hL3 hb3))
    go_ret
    have htk : (ds.take j).filter (fun x => !q x) = ds.filter fun x => !q x := by rw [List.take_of_length_le (by have := HDS.out;omega)]
    exact HFIN.out _ i L3 hL3.out.1 (by rw [hL3.out.2.1];exact HST.out.len) (by rw [hL3.out.2.2,HST.out.tk,htk]) (by rw [<- htk];exact HST.out.fl) (xq4 HST.out.gr hb3.out)
structure PoolW where
 h : HeapV
 ws : List Nat
 held : Bool
 ks : List CutV
def PoolW.plain (v : PoolW) : PoolV := ⟨v.h,v.ks.map CutV.plain,v.held⟩
structure PlAt (w : World) (Sh : Nat -> Prop) (p hp ap g mb n m : Nat) (D : DataW Unit) (v : PoolW) : Prop where
 c0 : w.cell? ⟨p,0,none⟩ = some (.pointer (some ⟨hp,0,none⟩))
 c1 : w.cell? ⟨p,1,none⟩ = some (.pointer (some ⟨ap,0,none⟩))
 c2 : w.cell? ⟨p,2,none⟩ = some (.map (some mb))
 c3 : w.cell? ⟨p,3,none⟩ = some (.bool v.held)
 fz : ∀ j,w.frozen? ⟨p,j,none⟩ = false
 mp : w.ownsMap Tryz.prog 3 ptrR mb m D
 mis : PIs D v.ks
 hp_ : Hp w Sh hp v.h
 ar : Ar w 0 ap g n v.ws
 cuts : ∀ k ∈ v.ks,CutAt w k
 ne : p ≠ ap /\ p ≠ g /\ p ≠ mb /\ ap ≠ mb /\ g ≠ mb
 nk : ∀ k ∈ v.ks,k.b ≠ p /\ k.b ≠ ap /\ k.b ≠ g /\ k.b ≠ mb /\ ¬ Sh k.b
 nh : ¬ Sh p /\ ¬ Sh ap /\ ¬ Sh g /\ ¬ Sh mb
 nd : (v.ks.map (·.b)).Nodup
structure PlOk (n m : Nat) (v : PoolW) : Prop where
 len : (n : Int) = 64 * v.h.pages
 wide : Wide v.ws
 mem : ∀ k ∈ v.ks,k.s ∈ v.h.l
 four : ∀ k ∈ v.ks,k.s.2.2.1 = 4 /\ 0 <= k.s.2.2.2 /\ k.s.2.2.2 <= 3
 lst : ∀ k ∈ v.ks,cList v.ws k.c = some k.l
 sub : ∀ k ∈ v.ks,∀ x ∈ k.l,x ∈ pBlocks k.s
 ids : (v.ks.map (·.s.1)).Nodup
 cnt : (m : Int) <= v.h.last
def PlS (Sh : Nat -> Prop) (p ap g mb : Nat) (ks : List CutV) (b : Nat) : Prop := Sh b \/ b = p \/ b = ap \/ b = g \/ b = mb \/ ∃ k ∈ ks,k.b = b
def Pl (w : World) (S Sh : Nat -> Prop) (p hp : Nat) (v : PoolW) : Prop :=
 ∃ ap g mb n m D,PlAt w Sh p hp ap g mb n m D v /\ PlOk n m v /\ (∀ b,PlS Sh p ap g mb v.ks b -> S b) /\ ∀ b,S b -> b < w.heap.size
section
variable {w w' : World} {S S' Sh : Nat -> Prop} {p hp ap g mb n m : Nat} {D : DataW Unit} {v : PoolW}
theorem PlAt.ltp (k : PlAt w Sh p hp ap g mb n m D v) : p < w.heap.size := xq0 k.c0
theorem PlAt.lt (k : PlAt w Sh p hp ap g mb n m D v) : ∀ b,PlS Sh p ap g mb v.ks b -> b < w.heap.size := fun b hb => by
 rcases hb with h | rfl | rfl | rfl | rfl | ⟨c,hc,rfl⟩
 ·exact k.hp_.lt b h
 ·exact k.ltp
 ·exact k.ar.ltp
 ·exact k.ar.lt
 ·exact k.mp.lt
 ·exact (k.cuts c hc).lt
theorem PlAt.cell_ (k : PlAt w Sh p hp ap g mb n m D v) (hb : w'.heap[p]? = w.heap[p]?) : w'.cell? ⟨p,0,none⟩ = some (.pointer (some ⟨hp,0,none⟩)) /\ w'.cell? ⟨p,1,none⟩ = some (.pointer (some ⟨ap,0,none⟩)) /\ w'.cell? ⟨p,2,none⟩ = some (.map (some mb)) /\ w'.cell? ⟨p,3,none⟩ = some (.bool v.held) /\ ∀ j,w'.frozen? ⟨p,j,none⟩ = false := by
 have hc : ∀ j,w'.cell? ⟨p,j,none⟩ = w.cell? ⟨p,j,none⟩ := fun j => World.cell?_of_block (w := w) (a := ⟨p,j,none⟩) hb
 exact ⟨(hc 0).trans k.c0,(hc 1).trans k.c1,(hc 2).trans k.c2,(hc 3).trans k.c3,fun j => (World.frozen?_of_block (w := w) (a := ⟨p,j,none⟩) hb).trans (k.fz j)⟩
theorem Ar.keepB {xs : List Nat} (h : Ar w 0 ap g n xs) (h1 : w'.heap[ap]? = w.heap[ap]?) (h2 : w'.heap[g]? = w.heap[g]?) : Ar w' 0 ap g n xs :=
 ⟨(World.cell?_of_block (w := w) (a := ⟨ap,0,none⟩) h1).trans h.cell,h2.trans h.heap,h.hlen,h.ge,h.geg,h.ne,h.small⟩
theorem PlAt.keep (k : PlAt w Sh p hp ap g mb n m D v) (hk : Kept S' w w') (hn : ∀ b,PlS Sh p ap g mb v.ks b -> ¬ S' b) : PlAt w' Sh p hp ap g mb n m D v := by
 have hb : ∀ b,PlS Sh p ap g mb v.ks b -> w'.heap[b]? = w.heap[b]? := fun b h => hk.block b (k.lt b h) (hn b h)
 obtain ⟨d0,d1,d2,d3,d4⟩ := k.cell_ (hb p (Or.inr (Or.inl rfl)))
 exact ⟨d0,d1,d2,d3,d4,xq2 k.mp (hb mb (by unfold PlS;simp)),k.mis,k.hp_.keep hk (fun b h => hn b (Or.inl h)),k.ar.keepB (hb ap (by unfold PlS;simp)) (hb g (by unfold PlS;simp)),
  fun c hc => (k.cuts c hc).keep (hb c.b (by unfold PlS;exact Or.inr (Or.inr (Or.inr (Or.inr (Or.inr ⟨c,hc,rfl⟩)))))),k.ne,k.nk,k.nh,k.nd⟩
theorem PlAt.below (k : PlAt w Sh p hp ap g mb n m D v) (hb : Below w.heap.size w w') : PlAt w' Sh p hp ap g mb n m D v := k.keep (Kept.of_below hb (fun _ => False)) (fun _ _ => id)
theorem PlAt.words (k : PlAt w Sh p hp ap g mb n m D v) {ws' : List Nat} (hg : w.grownBy w' (some g)) (ha : Ar w' 0 ap g n ws') : PlAt w' Sh p hp ap g mb n m D { v with ws := ws' } := by
 have hb : ∀ b,PlS Sh p ap g mb v.ks b -> b ≠ g -> w'.heap[b]? = w.heap[b]? := fun b h hne => hg.block b (k.lt b h) (fun e => hne (by injection e))
 obtain ⟨n1,n2,n3,n4,n5⟩ := k.ne
 obtain ⟨d0,d1,d2,d3,d4⟩ := k.cell_ (hb p (Or.inr (Or.inl rfl)) n2)
 refine ⟨d0,d1,d2,d3,d4,xq2 k.mp (hb mb (by unfold PlS;simp) (Ne.symm n5)),k.mis,?_,ha,fun c hc => (k.cuts c hc).keep (hb c.b (by unfold PlS;exact Or.inr (Or.inr (Or.inr (Or.inr (Or.inr ⟨c,hc,rfl⟩))))) (k.nk c hc).2.2.1),k.ne,k.nk,k.nh,k.nd⟩
 exact k.hp_.keep (S' := fun b => b = g) ((Kept.refl _ w).grown hg (fun b e => by injection e with e;exact Or.inl e.symm)) (fun b hb e => k.nh.2.2.1 (e ▸ hb))
theorem PlAt.heap_ (k : PlAt w Sh p hp ap g mb n m D v) {h' : HeapV} (hK : Kept Sh w w') (hh : Hp w' (more Sh w w') hp h') : PlAt w' (more Sh w w') p hp ap g mb n m D { v with h := h' } := by
 obtain ⟨q1,q2,q3,q4⟩ := k.nh
 have hb : ∀ b,PlS Sh p ap g mb v.ks b -> ¬ Sh b -> w'.heap[b]? = w.heap[b]? := fun b h hne => hK.block b (k.lt b h) hne
 have hm : ∀ b,PlS Sh p ap g mb v.ks b -> ¬ Sh b -> ¬ more Sh w w' b := fun b h hne c => hne (xjl (k.lt b h) c)
 obtain ⟨d0,d1,d2,d3,d4⟩ := k.cell_ (hb p (Or.inr (Or.inl rfl)) q1)
 refine ⟨d0,d1,d2,d3,d4,xq2 k.mp (hb mb (by unfold PlS;simp) q4),k.mis,hh,k.ar.keepB (hb ap (by unfold PlS;simp) q2) (hb g (by unfold PlS;simp) q3),
  fun c hc => (k.cuts c hc).keep (hb c.b (by unfold PlS;exact Or.inr (Or.inr (Or.inr (Or.inr (Or.inr ⟨c,hc,rfl⟩))))) (k.nk c hc).2.2.2.2),k.ne,fun c hc => ?_,⟨hm p (by unfold PlS;simp) q1,hm ap (by unfold PlS;simp) q2,hm g (by unfold PlS;simp) q3,hm mb (by unfold PlS;simp) q4⟩,k.nd⟩
 obtain ⟨r1,r2,r3,r4,r5⟩ := k.nk c hc
 exact ⟨r1,r2,r3,r4,hm c.b (by unfold PlS;exact Or.inr (Or.inr (Or.inr (Or.inr (Or.inr ⟨c,hc,rfl⟩))))) r5⟩
theorem PlAt.hold (k : PlAt w Sh p hp ap g mb n m D v) (on : Bool) : PlAt (w.setCell ⟨p,3,none⟩ (.bool on)) Sh p hp ap g mb n m D { v with held := on } := by
 have hb : ∀ b,b ≠ p -> (w.setCell ⟨p,3,none⟩ (.bool on)).heap[b]? = w.heap[b]? := fun b h => heap_setCell_other w ⟨p,3,none⟩ b _ h
 have o : ∀ j,j ≠ 3 -> (w.setCell ⟨p,3,none⟩ (.bool on)).cell? ⟨p,j,none⟩ = w.cell? ⟨p,j,none⟩ := fun j h => World.cell?_setCell_other w _ _ _ (fun e => h (by injection e with _ e2;exact e2.symm))
 obtain ⟨n1,n2,n3,n4,n5⟩ := k.ne
 refine ⟨(o 0 (by decide)).trans k.c0,(o 1 (by decide)).trans k.c1,(o 2 (by decide)).trans k.c2,World.cell?_setCell_same w _ _ k.c3,fun j => by rw [World.frozen?_setCell];exact k.fz j,xq2 k.mp (hb mb (Ne.symm n3)),k.mis,?_,k.ar.keepB (hb ap (Ne.symm n1)) (hb g (Ne.symm n2)),
  fun c hc => (k.cuts c hc).keep (hb c.b (k.nk c hc).1),k.ne,k.nk,k.nh,k.nd⟩
 exact k.hp_.keep (S' := fun b => b = p) ((Kept.refl (fun b => b = p) w).set (a := ⟨p,3,none⟩) (Or.inl rfl) _) (fun b hb e => k.nh.1 (e ▸ hb))
theorem PlAt.map_ (k : PlAt w Sh p hp ap g mb n m D v) {m' : Nat} {D' : DataW Unit} {ks' : List CutV} (hg : w.grownBy w' (some mb)) (hm : w'.ownsMap Tryz.prog 3 ptrR mb m' D') (hi : PIs D' ks') (hc : ∀ c ∈ ks',CutAt w c /\ c.b ≠ p /\ c.b ≠ ap /\ c.b ≠ g /\ c.b ≠ mb /\ ¬ Sh c.b) (hd : (ks'.map (·.b)).Nodup) : PlAt w' Sh p hp ap g mb n m' D' { v with ks := ks' } := by
 have hb : ∀ b,b < w.heap.size -> b ≠ mb -> w'.heap[b]? = w.heap[b]? := fun b h hne => hg.block b h (fun e => hne (by injection e))
 obtain ⟨n1,n2,n3,n4,n5⟩ := k.ne
 obtain ⟨d0,d1,d2,d3,d4⟩ := k.cell_ (hb p k.ltp n3)
 refine ⟨d0,d1,d2,d3,d4,hm,hi,?_,k.ar.keepB (hb ap k.ar.ltp n4) (hb g k.ar.lt n5),fun c h => (hc c h).1.keep (hb c.b (hc c h).1.lt (hc c h).2.2.2.2.1),k.ne,fun c h => (hc c h).2,k.nh,hd⟩
 exact k.hp_.keep (S' := fun b => b = mb) ((Kept.refl _ w).grown hg (fun b e => by injection e with e;exact Or.inl e.symm)) (fun b hb e => k.nh.2.2.2 (e ▸ hb))
def setC (ks : List CutV) (i : Nat) (k : CutV) (c : Int × Int) (l : List Int) : List CutV := ks.set i { k with c := c,l := l }
theorem xzc {ks : List CutV} {i : Nat} {k : CutV} {c : Int × Int} {l : List Int} (hi : ks[i]? = some k) {x : CutV} (hx : x ∈ setC ks i k c l) (hd : (ks.map (·.b)).Nodup) : x = { k with c := c,l := l } \/ (x ∈ ks /\ x.b ≠ k.b) := by
 obtain ⟨j,hj,e⟩ := List.mem_iff_getElem.1 hx
 unfold setC at hj e
 rw [List.length_set] at hj
 rw [List.getElem_set] at e
 by_cases h : i = j
 ·rw [if_pos h] at e;exact Or.inl e.symm
 ·rw [if_neg h] at e
  subst e
  refine Or.inr ⟨List.getElem_mem _,fun e => h ?_⟩
  obtain ⟨hi2,e2⟩ := List.getElem?_eq_some_iff.1 hi
  have := List.pairwise_iff_getElem.1 hd
  have e3 : ks[i].b = k.b := by rw [e2]
  rcases Nat.lt_or_ge i j with hlt | hge
  ·exact absurd (by rw [List.getElem_map,List.getElem_map,e3,e]) (this i j (by simpa using hi2) (by simpa using hj) hlt)
  ·exact absurd (by rw [List.getElem_map,List.getElem_map,e3,e]) (this j i (by simpa using hj) (by simpa using hi2) (by omega))
theorem xwb {α : Type} (f : CutV -> α) (hf : ∀ (k : CutV) c l,f { k with c := c,l := l } = f k) {ks : List CutV} {i : Nat} {k : CutV} {c : Int × Int} {l : List Int} (hi : ks[i]? = some k) : (setC ks i k c l).map f = ks.map f := by
 unfold setC
 rw [List.map_set,hf]
 apply List.ext_getElem?
 intro j
 rw [List.getElem?_set]
 by_cases h : i = j
 ·subst h
  obtain ⟨h1,_⟩ := List.getElem?_eq_some_iff.1 hi
  rw [if_pos rfl,if_pos (by simpa using h1),List.getElem?_map,hi];rfl
 ·rw [if_neg h]
theorem PlAt.chain (k : PlAt w Sh p hp ap g mb n m D v) {i : Nat} {c : CutV} (hi : v.ks[i]? = some c) (h' l' : Int) (l : List Int) : PlAt ((w.setCell ⟨c.b,4,none⟩ (.int .i64 h')).setCell ⟨c.b,5,none⟩ (.int .i64 l')) Sh p hp ap g mb n m D { v with ks := setC v.ks i c (h',l') l } := by
 have hcm := List.mem_of_getElem? hi
 obtain ⟨r1,r2,r3,r4,r5⟩ := k.nk c hcm
 have hc := k.cuts c hcm
 have hb : ∀ b,b ≠ c.b -> ((w.setCell ⟨c.b,4,none⟩ (.int .i64 h')).setCell ⟨c.b,5,none⟩ (.int .i64 l')).heap[b]? = w.heap[b]? := fun b h => (heap_setCell_other _ ⟨c.b,5,none⟩ b _ h).trans (heap_setCell_other w ⟨c.b,4,none⟩ b _ h)
 obtain ⟨n1,n2,n3,n4,n5⟩ := k.ne
 obtain ⟨d0,d1,d2,d3,d4⟩ := k.cell_ (hb p (Ne.symm r1))
 have q : ∀ (X : World) (i j : Nat) (u : Value),i ≠ j -> (X.setCell ⟨c.b,i,none⟩ u).cell? ⟨c.b,j,none⟩ = X.cell? ⟨c.b,j,none⟩ := fun X i j u h => World.cell?_setCell_other X _ _ _ (fun e => h (by injection e))
 have hnew : CutAt ((w.setCell ⟨c.b,4,none⟩ (.int .i64 h')).setCell ⟨c.b,5,none⟩ (.int .i64 l')) { c with c := (h',l'),l := l } := by
  refine ⟨?_,?_,?_,?_,?_,?_,fun j => by rw [World.frozen?_setCell,World.frozen?_setCell];exact hc.fz j⟩
  ·show World.cell? _ ⟨c.b,0,none⟩ = _;rw [q _ 5 0 _ (by decide),q _ 4 0 _ (by decide)];exact hc.c0
  ·show World.cell? _ ⟨c.b,1,none⟩ = _;rw [q _ 5 1 _ (by decide),q _ 4 1 _ (by decide)];exact hc.c1
  ·show World.cell? _ ⟨c.b,2,none⟩ = _;rw [q _ 5 2 _ (by decide),q _ 4 2 _ (by decide)];exact hc.c2
  ·show World.cell? _ ⟨c.b,3,none⟩ = _;rw [q _ 5 3 _ (by decide),q _ 4 3 _ (by decide)];exact hc.c3
  ·show World.cell? _ ⟨c.b,4,none⟩ = _;rw [q _ 5 4 _ (by decide)];exact World.cell?_setCell_same w _ _ hc.c4
  ·show World.cell? _ ⟨c.b,5,none⟩ = _;exact World.cell?_setCell_same _ _ _ (by rw [q _ 4 5 _ (by decide)];exact hc.c5)
 refine ⟨d0,d1,d2,d3,d4,xq2 k.mp (hb mb (Ne.symm r4)),k.mis.same (xwb (fun k => (k.s.1,k.b)) (fun _ _ _ => rfl) hi),?_,k.ar.keepB (hb ap (Ne.symm r2)) (hb g (Ne.symm r3)),fun x hx => ?_,k.ne,fun x hx => ?_,k.nh,?_⟩
 ·exact k.hp_.keep (S' := fun b => b = c.b) (((Kept.refl (fun b => b = c.b) w).set (a := ⟨c.b,4,none⟩) (Or.inl rfl) _).set (a := ⟨c.b,5,none⟩) (Or.inl rfl) _) (fun b hb e => r5 (e ▸ hb))
 ·rcases xzc hi hx k.nd with rfl | ⟨h1,h2⟩
  ·exact hnew
  ·exact (k.cuts x h1).keep (hb x.b h2)
 ·rcases xzc hi hx k.nd with rfl | ⟨h1,h2⟩
  ·exact ⟨r1,r2,r3,r4,r5⟩
  ·exact k.nk x h1
 ·show ((setC v.ks i c (h',l') l).map (·.b)).Nodup
  rw [xwb (·.b) (fun _ _ _ => rfl) hi];exact k.nd
end
theorem xj2 (p : Nat) (hp ap : Option Addr) (mb : Option Nat) (held : Bool) (w : World) (h0 : w.cell? ⟨p,0,none⟩ = some (.pointer hp)) (h1 : w.cell? ⟨p,1,none⟩ = some (.pointer ap)) (h2 : w.cell? ⟨p,2,none⟩ = some (.map mb)) (h3 : w.cell? ⟨p,3,none⟩ = some (.bool held)) :
  Calls Tryz.prog 150 #[.pointer (some ⟨p,0,none⟩)] w fun e w' => e = .returned (.agg #[.pointer hp,.pointer ap,.map mb,.bool held]) /\ Below w.heap.size w w' := by
 replace h0 := xq1 (.cells #[.pointer none,.pointer none,.map none,.bool false] 145) h0
 replace h1 := xq1 (.cells #[.pointer none,.pointer none,.map none,.bool false] 145) h1
 replace h2 := xq1 (.cells #[.pointer none,.pointer none,.map none,.bool false] 145) h2
 replace h3 := xq1 (.cells #[.pointer none,.pointer none,.map none,.bool false] 145) h3
 go_enter Tryz.func150,Tryz.ntmps150
 go_wp2
 refine bodyPost_ret (v := .agg #[.pointer hp,.pointer ap,.map mb,.bool held]) (by simp [results,Tryz.results150,go_sem]) rfl ?_
 exact ⟨rfl,(Below.refl _ _).alloc (Nat.le_refl _) _⟩
theorem ykj (a b : Option Addr) (mb : Option Nat) (k : Bool) (w : World) : (Instr.field 145 (.agg #[.pointer a,.pointer b,.map mb,.bool k]) 0).run Tryz.prog w = .ok (.pointer a) w := by kernel_rfl
theorem ykk (a b : Option Addr) (mb : Option Nat) (k : Bool) (w : World) : (Instr.field 145 (.agg #[.pointer a,.pointer b,.map mb,.bool k]) 2).run Tryz.prog w = .ok (.map mb) w := by kernel_rfl
theorem yz8 (page : Int) (w : World) (h0 : 0 <= page) (h1 : page <= 1024) :
  Calls Tryz.prog 122 #[.int .i64 page] w fun e w' => e = .returned (.int .i64 (64 * page)) /\ w = w' := by
 go_enter Tryz.func122,Tryz.ntmps122
 go_wp2
 go_ret
 exact ⟨by show Ending.returned (.int .i64 (page * 64)) = _;rw [Int.mul_comm],rfl⟩
theorem xqz (A : Option Addr) (n c : Nat) (zs : List Int) (v : Int) (w : World) (hs : Sl w w.heap.size A n (zs.map iv)) (hn : n <= 131072) :
  Calls Tryz.prog 79 #[.slice A n c,.int .i64 v] w fun e w' => e = .returned (.bool (decide (v ∈ zs))) /\ w = w' := by
 have ci := yz6 A n c zs v w hs hn
 clear hs
 go_enter Tryz.func79,Tryz.ntmps79
 go_wp2_with (go_at_call 154;(with_reducible refine ci.mono ?_);rintro e w1 ⟨⟨r,rfl,hr⟩,rfl⟩)
 go_ret
 refine ⟨?_,rfl⟩
 rcases hr with ⟨h1,rfl⟩ | ⟨i,hi,rfl,h2⟩
 ·rw [decide_eq_false h1];rfl
 ·rw [decide_eq_true (List.mem_of_getElem? h2)]
  first | rfl | (congr 3;done) | (congr 3;exact decide_eq_true (by omega))
theorem shl16 (o : Int) (h0 : 0 <= o) (h1 : o <= 3) (W : World) : (Op.shift BinOp.shl .i64 16 .i64 o).run Tryz.prog W = .ok (.int .i64 (pSize o : Nat)) W := by
 obtain rfl | rfl | rfl | rfl : o = 0 \/ o = 1 \/ o = 2 \/ o = 3 := by omega
 all_goals kernel_rfl
theorem quo256 (o : Int) (h0 : 0 <= o) (h1 : o <= 3) : (256 : Int) / ((pSize o : Nat) : Int) = ((pMany 4 o : Nat) : Int) := by
 obtain rfl | rfl | rfl | rfl : o = 0 \/ o = 1 \/ o = 2 \/ o = 3 := by omega
 all_goals decide
theorem xx4 (o : Int) (h0 : 0 <= o) (h1 : o <= 3) : 2 <= pMany 4 o /\ pMany 4 o <= 16 /\ pMany 4 o * pSize o = 256 /\ 16 <= pSize o := by
 obtain rfl | rfl | rfl | rfl : o = 0 \/ o = 1 \/ o = 2 \/ o = 3 := by omega
 all_goals decide
structure BlkSt (w wr : World) (base g N i : Nat) (R : List Int) (L : List Value) : Prop where
 row : Rw wr g 3 L
 len : L.length = N
 tk : L.take i = (R.take i).map iv
 bel : Below base w wr
theorem BlkSt.step {w wr : World} {base g N i : Nat} {R : List Int} {L : List Value} (h : BlkSt w wr base g N i R L) (hg : base <= g) (hi : i < N) {x : Int} (hx : R[i]? = some x) : BlkSt w (wr.setCell ⟨g,i,none⟩ (.int .i64 x)) base g N (i + 1) R (L.set i (iv x)) := by
 have hl := h.len
 refine ⟨h.row.setCell i _,by rw [List.length_set];exact hl,?_,h.bel.setCell (p := ⟨g,i,none⟩) hg _⟩
 rw [List.take_add_one,List.take_set_of_le (Nat.le_refl _),h.tk,List.getElem?_set_self (by omega),List.take_add_one,hx,List.map_append]
 rfl
set_option maxRecDepth 100000 in
theorem xzd (k : CutV) (w : World) (hk : CutAt w k) (hlen : k.s.2.2.1 = 4) (h0 : 0 <= k.s.2.1) (h1 : k.s.2.1 <= 1024) (h2 : 0 <= k.s.2.2.2) (h3 : k.s.2.2.2 <= 3) :
  Calls Tryz.prog 83 #[pv k] w (OwnInts w (pBlocks k.s)) := by
 obtain ⟨i0,hi,hz0,hz1,hz2⟩ := info_parts xqw
 have HK : Hid (∀ W,Below w.heap.size w W -> W.cell? ⟨k.b,1,none⟩ = some (.int .i64 k.s.2.1)) := hidb (fun W hb => (hk.below hb).c1)
 have d1 := hk.c1
 have d2 := hk.c2
 have d3 := hk.c3
 rw [hlen] at d2
 have q1 := shl16 k.s.2.2.2 h2 h3
 have q2 := quo256 k.s.2.2.2 h2 h3
 obtain ⟨m0,m1,m2,m3⟩ := xx4 k.s.2.2.2 h2 h3
 have cb := fun W => yz8 k.s.2.1 W h0 h1
 have HR : Hid (∀ i,i < pMany 4 k.s.2.2.2 -> (pBlocks k.s)[i]? = some (64 * k.s.2.1 + ((i * pSize k.s.2.2.2 : Nat) : Int))) := hidb (fun i hi => by
  unfold pBlocks
  rw [hlen,List.getElem?_map,List.getElem?_range hi];rfl)
 have HRL : Hid ((pBlocks k.s).length = pMany 4 k.s.2.2.2) := hidb (by rw [xq9,hlen])
 obtain ⟨R,hR⟩ : ∃ R,pBlocks k.s = R := ⟨_,rfl⟩
 rw [hR] at HR HRL ⊢
 obtain ⟨⟨sid,st,sln,so⟩,hs⟩ : ∃ s,k.s = s := ⟨_,rfl⟩
 rw [hs] at HK d1 d3 q1 q2 m0 m1 m2 m3 cb HR HRL h0 h1
 simp only at HK d1 d3 q1 q2 m0 m1 m2 m3 cb HR HRL h0 h1
 obtain ⟨sz,hsz⟩ : ∃ sz,pSize so = sz := ⟨_,rfl⟩
 rw [hsz] at q1 q2 m2 m3 HR
 obtain ⟨N,hN⟩ : ∃ N,pMany 4 so = N := ⟨_,rfl⟩
 rw [hN] at q2 m0 m1 m2 HR HRL
 have HM : Hid (N * sz = 256) := hidb m2
 unfold pv
 obtain ⟨kb,hkb⟩ : ∃ kb,k.b = kb := ⟨_,rfl⟩
 rw [hkb] at HK d1 d2 d3 ⊢
 clear hR hs hsz hN hk hlen h2 h3 hkb m2
 go_enter Tryz.func83,Tryz.ntmps83
 go_wp2_with (at_make;refine wpList_make_full w rfl _ _ 38 rfl w.heap.size 3 i0 (.int .i64 0) 1 Tryz.underlying38 hi hz0 hz1 .i64 .i64 _ _ N rfl rfl (by omega) (by omega) (by rw [hz2];omega) (by unfold maxLen;omega) (Nat.le_refl _) ?_;intro w1 hown hgrow)
 have hlt : w.heap.size < w1.heap.size := (hown.lt w.heap.size rfl).2
 have HB1 : Hid (Below w.heap.size w w1) := hidb ((Below.refl _ _).grown hgrow (Nat.le_refl _) (fun k hk => by cases hk))
 obtain ⟨L0,hL0,_,_,_,hLl,_⟩ := xqj hown
 rw [Nat.mul_one] at hLl
 have HST : Hid (BlkSt w w1 w.heap.size w.heap.size N 0 R L0) := hidb ⟨hL0,hLl,by simp,HB1.out⟩
 clear hown hgrow hL0 hLl q1 q2 d1 d2 d3
 go_loopw [5,24] (fun _ s24 wr => ∃ (i : Nat) (L : List Value),s24 = .int .i64 i /\ i <= N /\ Hid (BlkSt w wr w.heap.size w.heap.size N i R L)) (fun _ s24 _ => (N - intOf s24).toNat)
 case atStart => exact ⟨0,L0,rfl,by omega,HST⟩
 case round =>
  obtain ⟨i,L,rfl,hiN,HST⟩ := hrel
  by_cases hlt2 : i < N
  ·have hrow := HST.out.row
   have hll := HST.out.len
   have c1 := HK.out wr HST.out.bel
   have hu : wr.cell? ⟨w.heap.size,i,none⟩ = some (L[i]'(by omega)) := by rw [hrow.cell];exact List.getElem?_eq_getElem _
   have hf := hrow.free i
   have hi0 : (0 : Int) <= (i : Int) := by omega
   have hi1 : (i : Int) < (N : Int) := by omega
   have hmul : (i : Int) * (sz : Int) <= 256 := by
    have h1 := HM.out
    have h2 : i * sz <= N * sz := Nat.mul_le_mul_right _ (by omega)
    rw [<- Int.natCast_mul]
    omega
   have hmul0 : 0 <= (i : Int) * (sz : Int) := Int.mul_nonneg (by omega) (by omega)
   have w1' : IntKind.i64.wrap ((i : Int) * (sz : Int)) = (i : Int) * (sz : Int) := IntWalk.i64_in _ (by omega)
   have w2' : IntKind.i64.wrap (64 * st + (i : Int) * (sz : Int)) = 64 * st + (i : Int) * (sz : Int) := IntWalk.i64_in _ (by omega)
   have HST2 := hidb (HST.out.step (Nat.le_refl _) hlt2 (HR.out i hlt2))
   rw [Int.natCast_mul] at HST2
   generalize L[i]'(by omega) = u at hu
   clear hrow hll
   go_wp2_with (go_at_call 122;(with_reducible refine (cb _).mono ?_);rintro e w' ⟨rfl,rfl⟩)
   go_roundw
   case rel => exact ⟨i + 1,_,by go_num,by omega,HST2⟩
   case measure => simp [intOf];omega
  ·obtain rfl : i = N := by omega
   have P : Hid (OwnInts w R (.returned (.slice (some ⟨w.heap.size,0,none⟩) i i)) wr) := hidb (by
    have h := HST.out
    have hl := HRL.out
    have htk := h.tk
    rw [List.take_of_length_le (by rw [h.len];exact Nat.le_refl _),List.take_of_length_le (by omega)] at htk
    have h2 := xq8 (base := w.heap.size) (s := 1) (n := i) (c := i) h.row (Nat.le_refl _) (Nat.le_refl _) (by unfold maxLen;omega) (by rw [h.len];omega)
    rw [Nat.mul_one,List.take_of_length_le (by rw [h.len];exact Nat.le_refl _),htk] at h2
    exact ⟨some ⟨w.heap.size,0,none⟩,i,by rw [hl],by rw [hl];exact h2,h.bel⟩)
   clear HST
   go_wp2
   go_ret
   exact P.out
theorem q_spans (k : CutV) (o : Nat) (order : Int) (W : World) (hk : CutAt W k) (ho : W.cell? ⟨o,0,none⟩ = some (.int .i64 order)) :
  Calls Tryz.prog 74 #[pv k,.pointer (some ⟨o,0,none⟩)] W fun e w' => e = .returned (.bool (k.s.2.2.2 == order)) /\ Below W.heap.size W w' := by
 have d3 := hk.c3
 unfold pv
 obtain ⟨kb,hkb⟩ : ∃ kb,k.b = kb := ⟨_,rfl⟩
 obtain ⟨so,hso⟩ : ∃ so,k.s.2.2.2 = so := ⟨_,rfl⟩
 rw [hkb,hso] at d3
 rw [hkb,hso]
 clear hk hkb hso
 go_enter Tryz.func74,Tryz.ntmps74
 go_wp2
 go_quiet (fail)
 go_wp2
 go_ret
 exact ⟨rfl,belowN (Below.refl _ _) _⟩
theorem q_list (k : CutV) (o : Nat) (order : Int) (W : World) (hk : CutAt W k) (ho : W.cell? ⟨o,0,none⟩ = some (.int .i64 order)) :
  Calls Tryz.prog 76 #[pv k,.pointer (some ⟨o,0,none⟩)] W fun e w' => e = .returned (.bool (k.s.2.2.2 == order)) /\ Below W.heap.size W w' := by
 have d3 := hk.c3
 unfold pv
 obtain ⟨kb,hkb⟩ : ∃ kb,k.b = kb := ⟨_,rfl⟩
 obtain ⟨so,hso⟩ : ∃ so,k.s.2.2.2 = so := ⟨_,rfl⟩
 rw [hkb,hso] at d3
 rw [hkb,hso]
 clear hk hkb hso
 go_enter Tryz.func76,Tryz.ntmps76
 go_wp2
 go_quiet (fail)
 go_wp2
 go_ret
 exact ⟨rfl,belowN (Below.refl _ _) _⟩
theorem q_take (k : CutV) (o : Nat) (order : Int) (W : World) (hk : CutAt W k) (ho : W.cell? ⟨o,0,none⟩ = some (.int .i64 order)) :
  Calls Tryz.prog 130 #[pv k,.pointer (some ⟨o,0,none⟩)] W fun e w' => e = .returned (.bool (k.s.2.2.2 == order && decide (0 < k.c.2))) /\ Below W.heap.size W w' := by
 have d3 := hk.c3
 have d5 := hk.c5
 unfold pv
 obtain ⟨kb,hkb⟩ : ∃ kb,k.b = kb := ⟨_,rfl⟩
 obtain ⟨so,hso⟩ : ∃ so,k.s.2.2.2 = so := ⟨_,rfl⟩
 obtain ⟨kl,hkl⟩ : ∃ kl,k.c.2 = kl := ⟨_,rfl⟩
 rw [hkb,hso] at d3
 rw [hkb,hkl] at d5
 rw [hkb,hso,hkl]
 clear hk hkb hso hkl
 by_cases g1 : so = order
 ·have hd1 : (so == order) = true := by simpa using g1
  rw [hd1]
  clear g1
  by_cases g2 : 0 < kl
  ·have hd2 : decide (0 < kl) = true := decide_eq_true g2
   go_enter Tryz.func130,Tryz.ntmps130
   go_wp2
   go_quiet (fail)
   go_wp2
   go_ret
   exact ⟨by rw [hd2];rfl,belowN (Below.refl _ _) _⟩
  ·have hd2 : decide (0 < kl) = false := decide_eq_false g2
   go_enter Tryz.func130,Tryz.ntmps130
   go_wp2
   go_quiet (fail)
   go_wp2
   go_ret
   exact ⟨by rw [hd2];rfl,belowN (Below.refl _ _) _⟩
 ·have hd1 : (so == order) = false := by simpa using g1
  rw [hd1]
  go_enter Tryz.func130,Tryz.ntmps130
  go_wp2
  go_quiet (fail)
  go_wp2
  go_ret
  exact ⟨rfl,belowN (Below.refl _ _) _⟩
theorem q_all (v : Value) (W : World) :
  Calls Tryz.prog 81 #[v] W fun e w' => e = .returned (.bool true) /\ Below W.heap.size W w' := by
 go_enter Tryz.func81,Tryz.ntmps81
 go_wp2
 go_ret
 exact ⟨rfl,Below.refl _ _⟩
def CutOk (k : CutV) : Prop := k.s.2.2.1 = 4 /\ 0 <= k.s.2.1 /\ k.s.2.1 <= 1024 /\ 0 <= k.s.2.2.2 /\ k.s.2.2.2 <= 3
theorem q_full (k : CutV) (W : World) (hk : CutAt W k) (h : CutOk k) :
  Calls Tryz.prog 204 #[pv k] W fun e w' => e = .returned (.bool (k.c.2 == ((pBlocks k.s).length : Int))) /\ Below W.heap.size W w' := by
 obtain ⟨h0,h1,h2,h3,h4⟩ := h
 have cb := xzd k W.drew (hk.below (w' := W.drew) (Below.refl _ W).drew) h0 h1 h2 h3 h4
 have d5 := hk.c5
 have HK : Hid (∀ W',Below W.heap.size W W' -> W'.cell? ⟨k.b,5,none⟩ = some (.int .i64 k.c.2)) := hidb (fun W' hb => (hk.below hb).c5)
 unfold OwnInts at cb
 unfold pv at cb ⊢
 generalize (pBlocks k.s).length = N at cb ⊢
 generalize k.b = kb at d5 cb HK ⊢
 generalize k.c.2 = kl at d5 cb HK ⊢
 generalize (pBlocks k.s).map iv = xs at cb
 clear hk h0 h1 h2 h3 h4
 go_enter Tryz.func204,Tryz.ntmps204
 go_wp2
 go_region_held3 (fun W' => W'.cell? ⟨kb,5,none⟩ = some (.int .i64 kl)) (go_keep)
  (first | (go_at_call 83;(with_reducible refine cb.mono ?_);rintro e w1 ⟨A,c,rfl,hown,hb1⟩;have hb2 : Below W.heap.size W w1 := ((Below.refl _ W).drew).trans hb1;have y5 := HK.out _ hb2;clear hb1))
 all_goals go_wp2
 all_goals go_ret
 all_goals exact ⟨rfl,hb2⟩
theorem r2_spans (k : CutV) (t : Nat) (o : Nat) (order : Int) (W : World) (hk : CutAt W k) (ht : W.cell? ⟨t,0,none⟩ = some (.func (.func 74) #[] #[.pointer (some ⟨o,0,none⟩)])) (ho : W.cell? ⟨o,0,none⟩ = some (.int .i64 order)) :
  Calls Tryz.prog 153 #[pv k,.pointer (some ⟨t,0,none⟩)] W fun e w' => e = .returned (.bool (!(k.s.2.2.2 == order))) /\ Below W.heap.size W w' := by
 have cq := q_spans k o order W hk ho
 generalize (k.s.2.2.2 == order) = r at cq ⊢
 unfold pv at cq ⊢
 clear hk
 go_enter Tryz.func153,Tryz.ntmps153
 go_wp2_with (go_at_call 74;(with_reducible refine cq.mono ?_);rintro e w' ⟨rfl,hb⟩)
 go_ret
 exact ⟨rfl,hb⟩
theorem r2_list (k : CutV) (t : Nat) (o : Nat) (order : Int) (W : World) (hk : CutAt W k) (ht : W.cell? ⟨t,0,none⟩ = some (.func (.func 76) #[] #[.pointer (some ⟨o,0,none⟩)])) (ho : W.cell? ⟨o,0,none⟩ = some (.int .i64 order)) :
  Calls Tryz.prog 153 #[pv k,.pointer (some ⟨t,0,none⟩)] W fun e w' => e = .returned (.bool (!(k.s.2.2.2 == order))) /\ Below W.heap.size W w' := by
 have cq := q_list k o order W hk ho
 generalize (k.s.2.2.2 == order) = r at cq ⊢
 unfold pv at cq ⊢
 clear hk
 go_enter Tryz.func153,Tryz.ntmps153
 go_wp2_with (go_at_call 76;(with_reducible refine cq.mono ?_);rintro e w' ⟨rfl,hb⟩)
 go_ret
 exact ⟨rfl,hb⟩
theorem r2_take (k : CutV) (t : Nat) (o : Nat) (order : Int) (W : World) (hk : CutAt W k) (ht : W.cell? ⟨t,0,none⟩ = some (.func (.func 130) #[] #[.pointer (some ⟨o,0,none⟩)])) (ho : W.cell? ⟨o,0,none⟩ = some (.int .i64 order)) :
  Calls Tryz.prog 153 #[pv k,.pointer (some ⟨t,0,none⟩)] W fun e w' => e = .returned (.bool (!(k.s.2.2.2 == order && decide (0 < k.c.2)))) /\ Below W.heap.size W w' := by
 have cq := q_take k o order W hk ho
 generalize (k.s.2.2.2 == order && decide (0 < k.c.2)) = r at cq ⊢
 unfold pv at cq ⊢
 clear hk
 go_enter Tryz.func153,Tryz.ntmps153
 go_wp2_with (go_at_call 130;(with_reducible refine cq.mono ?_);rintro e w' ⟨rfl,hb⟩)
 go_ret
 exact ⟨rfl,hb⟩
theorem r2_all (k : CutV) (t : Nat)  (W : World) (hk : CutAt W k) (ht : W.cell? ⟨t,0,none⟩ = some (.func (.func 81) #[] #[]))  :
  Calls Tryz.prog 153 #[pv k,.pointer (some ⟨t,0,none⟩)] W fun e w' => e = .returned (.bool (!true)) /\ Below W.heap.size W w' := by
 have cq := q_all (pv k) W
 unfold pv at cq ⊢
 clear hk
 go_enter Tryz.func153,Tryz.ntmps153
 go_wp2_with (go_at_call 81;(with_reducible refine cq.mono ?_);rintro e w' ⟨rfl,hb⟩)
 go_ret
 exact ⟨rfl,hb⟩
theorem r2_full (k : CutV) (t : Nat)  (W : World) (hk : CutAt W k) (ht : W.cell? ⟨t,0,none⟩ = some (.func (.func 204) #[] #[])) (h : CutOk k) :
  Calls Tryz.prog 153 #[pv k,.pointer (some ⟨t,0,none⟩)] W fun e w' => e = .returned (.bool (!(k.c.2 == ((pBlocks k.s).length : Int)))) /\ Below W.heap.size W w' := by
 have cq := q_full k W hk h
 generalize (k.c.2 == ((pBlocks k.s).length : Int)) = r at cq ⊢
 unfold pv at cq ⊢
 clear hk
 go_enter Tryz.func153,Tryz.ntmps153
 go_wp2_with (go_at_call 204;(with_reducible refine cq.mono ?_);rintro e w' ⟨rfl,hb⟩)
 go_ret
 exact ⟨rfl,hb⟩
theorem Hp.lb {w : World} {S : Nat -> Prop} {p : Nat} {h : HeapV} (k : Hp w S p h) : h.last <= 1000000000 := by obtain ⟨_,_,_,_,_,_,_,_,_,k,_⟩ := k;exact k.lb
theorem allP_len {h : HeapV} (k : HOk h) (hlb : h.last <= 1000000000) {ks : List CutV} (hm : ∀ c ∈ ks,c.s ∈ h.l) : ∀ ss,AllP ks ss -> ss.length <= 1000000000 := fun ss hS => by
 have h1 := xxk h.last.toNat (ss.map (·.s.1)) hS.1 fun x hx => by
  obtain ⟨s,hs,rfl⟩ := List.mem_map.1 hx
  have := k.idr s.s (hm s ((hS.2 s).1 hs))
  omega
 rw [List.length_map] at h1
 omega
def Rising (w : World) (ks : List CutV) (f : CutV -> Bool) (e : Ending) (w' : World) : Prop := ∃ ds,InOrderP ks ds /\ OwnCuts w (ds.filter f) e w'
set_option maxRecDepth 100000 in
theorem xQq (a : Option Addr) (w : World) (ks : List CutV) (v : Value) (mb : Option Nat) (hp : ∀ w1,Below w.heap.size w w1 -> Calls Tryz.prog 150 #[.pointer a] w1 fun e w' => e = .returned v /\ Below w1.heap.size w1 w')
  (hv : ∀ w,(Instr.field 145 v 2).run Tryz.prog w = .ok (.map mb) w) (hlen : ∀ ss,AllP ks ss -> ss.length <= 1000000000) (hk : ∀ k ∈ ks,CutAt w k)
  (hc : ∀ W B,Below w.heap.size w W -> W.cell? ⟨B,0,none⟩ = some (.map mb) -> Calls Tryz.prog 213 #[.func (.func 215) #[] #[.pointer (some ⟨B,0,none⟩)]] W fun e w' => ∃ A c ss,e = .returned (.slice A (List.length ss) c) /\ AllP ks ss /\ w'.ownsRow W.heap.size 135 1 (.slice A ss.length c) ss.length (cellsAll pcell ss) /\ Below W.heap.size W w')
  (fn : Nat) (caps : Array Value) (f : CutV -> Bool) (hq : ∀ W t,Below w.heap.size w W -> W.cell? ⟨t,0,none⟩ = some (.func (.func fn) #[] caps) -> ∀ k ∈ ks,Calls Tryz.prog 153 #[pv k,.pointer (some ⟨t,0,none⟩)] W fun e w' => e = .returned (.bool (!f k)) /\ Below W.heap.size W w') :
  Calls Tryz.prog 73 #[.pointer a,.func (.func fn) #[] caps] w (Rising w ks f) := by
 obtain ⟨W0,hW0⟩ : ∃ W0,W0 = w.alloc (.cells #[.func (.func fn) #[] caps] 140) := ⟨_,rfl⟩
 have hb0 : Below w.heap.size w W0 := by rw [hW0];exact (Below.refl _ _).alloc (Nat.le_refl _) _
 have hz0 : W0.heap.size = w.heap.size + 1 := by rw [hW0];simp
 have ht : W0.cell? ⟨w.heap.size,0,none⟩ = some (.func (.func fn) #[] caps) := by rw [hW0];exact World.cell?_alloc_at _ _ _ 0 (by simp)
 have cp := hp W0 hb0
 have cv := fun W => xKi mb W
 have HB0 := hidb hb0
 have cs : ∀ w1,Below W0.heap.size W0 w1 -> Calls Tryz.prog 148 #[.func (.func 215) #[] #[.pointer (some ⟨w1.heap.size,0,none⟩)],.func (.func 151) #[] #[]] (w1.alloc (.cells #[.map mb] 143)) fun e w' => ∃ ds A c,e = .returned (.slice A (List.length ds) c) /\ InOrderP ks ds /\ w'.ownsRow W0.heap.size 135 1 (.slice A ds.length c) ds.length (cellsAll pcell ds) /\ Below W0.heap.size W0 w' := fun w1 hb1 => by
  have hb2 : Below W0.heap.size W0 (w1.alloc (.cells #[.map mb] 143)) := hb1.alloc hb1.size _
  have hb3 := HB0.out.trans (hb2.mono HB0.out.size)
  refine (xZx ks hlen w1.heap.size _ (fun k h => (hk k h).below hb3) (hc _ _ hb3 (World.cell?_alloc_at _ _ _ 0 (by simp)))).mono ?_
  rintro e w' ⟨ds,hd,A,c,rfl,hrow,hb⟩
  exact ⟨ds,A,c,rfl,hd,xxb hrow hb2.size,hb2.trans (hb.mono hb2.size)⟩
 have HD : Hid (∀ w2 (ds : List CutV) A c n,ds.length = n -> InOrderP ks ds -> w2.ownsRow W0.heap.size 135 1 (.slice A n c) n (cellsAll pcell ds) -> Below W0.heap.size W0 w2 -> Calls Tryz.prog 152 #[.slice A n c,.func (.func 153) #[] #[.pointer (some ⟨w.heap.size,0,none⟩)]] w2 (Rising w ks f)) := hidb (fun w2 ds A c n hn hd hrow hb2 => by
  have hb3 := HB0.out.trans (hb2.mono HB0.out.size)
  have hl : ds.length <= 1000000000 := hlen ds ⟨hd.1,hd.2.1⟩
  have hob : ∀ b,(Value.slice A n c).ownBlock = some b -> W0.heap.size <= b /\ b < w2.heap.size := fun b hb => hrow.lt b hb
  rw [xxw] at hrow
  refine (yki (fun k => !f k) w.heap.size A n c ds w2 W0.heap.size hrow hn (by omega) (fun W hg k hk2 => ?_)).mono ?_
  ·have hbW : Below W0.heap.size W0 W := hb2.grown hg hb2.size (fun b hb => (hob b hb).1)
   exact hq W w.heap.size (HB0.out.trans (hbW.mono HB0.out.size)) ((hbW.cell (p := ⟨w.heap.size,0,none⟩) (by show w.heap.size < _;omega)).trans ht) k ((hd.2.1 k).1 hk2)
  ·rintro e w' ⟨A',c',rfl,hrow',hg⟩
   have hf : (ds.filter fun x => !(fun k => !f k) x) = ds.filter f := by simp
   rw [hf] at hrow' ⊢
   refine ⟨ds,hd,A',c',rfl,?_,hb3.grown hg hb3.size (fun b hb => Nat.le_trans (by omega) (hob b hb).1)⟩
   rw [xxw]
   exact xxb hrow' (by omega))
 have HW0 := hidb hW0
 clear hc hlen hk hq hp hb0 ht hW0
 go_enter Tryz.func73,Tryz.ntmps73
 go_wp2_with (first
  | (go_at_call 150;rw [<- HW0.out];(with_reducible refine cp.mono ?_);rintro e w1 ⟨rfl,hb1⟩)
  | (go_at_call 149;(with_reducible refine (cv _).mono ?_);rintro e w2 ⟨rfl,rfl⟩)
  | (go_at_call 148;(with_reducible refine (cs _ hb1).mono ?_);rintro e w3 ⟨ds,A,c,rfl,hd,hrow,hb3⟩;obtain ⟨n,hn⟩ : ∃ n,List.length ds = n := ⟨_,rfl⟩;rw [hn] at hrow;rw [hn];have cd := HD.out _ _ _ _ _ hn hd hrow hb3;unfold Rising OwnCuts at cd)
  | (go_at_call 152;(with_reducible refine cd.mono ?_);rintro e w4 ⟨ds4,hd4,A4,c4,rfl,hrow4,hb4⟩))
 go_ret
 exact ⟨ds4,hd4,A4,c4,rfl,hrow4,hb4⟩
theorem xz7 {w : World} {Sh : Nat -> Prop} {p hp ap g mb n m : Nat} {D : DataW Unit} {v : PoolW} (k : PlAt w Sh p hp ap g mb n m D v) (o : PlOk n m v) (fn : Nat) (caps : Array Value) (f : CutV -> Bool)
  (hq : ∀ W t,Below w.heap.size w W -> W.cell? ⟨t,0,none⟩ = some (.func (.func fn) #[] caps) -> ∀ k ∈ v.ks,Calls Tryz.prog 153 #[pv k,.pointer (some ⟨t,0,none⟩)] W fun e w' => e = .returned (.bool (!f k)) /\ Below W.heap.size W w') :
  Calls Tryz.prog 73 #[.pointer (some ⟨p,0,none⟩),.func (.func fn) #[] caps] w (Rising w v.ks f) := by
 refine xQq _ w v.ks (.agg #[.pointer (some ⟨hp,0,none⟩),.pointer (some ⟨ap,0,none⟩),.map (some mb),.bool v.held]) (some mb) (fun w1 hb => ?_) (fun w => ykk _ _ _ _ w) (allP_len k.hp_.ok k.hp_.lb o.mem) k.cuts (fun W B hb hB => ?_) fn caps f hq
 ·obtain ⟨d0,d1,d2,d3,d4⟩ := k.cell_ (hb.block _ k.ltp)
  exact xj2 p _ _ _ _ w1 d0 d1 d2 d3
 ·exact xZw B mb m D v.ks k.mis o.ids (by have := o.cnt;have := k.hp_.lb;omega) W hB (xq2 k.mp (hb.block _ k.mp.lt))
def cutAtP (ks : List CutV) (a : Int) : Option CutV := ks.find? fun k => decide (a ∈ pBlocks k.s)
theorem xxx {ks : List CutV} {a : Int} {k : CutV} (h : cutAtP ks a = some k) : k ∈ ks /\ a ∈ pBlocks k.s := ⟨List.mem_of_find?_eq_some h,by have := List.find?_some h;simpa using this⟩
theorem xz8 {s : Int × Int × Int × Int} {a : Int} (h : a ∈ pBlocks s) (h4 : s.2.2.1 = 4) (ho : 0 <= s.2.2.2 /\ s.2.2.2 <= 3) : 64 * s.2.1 <= a /\ a + pSize s.2.2.2 <= 64 * s.2.1 + 256 := by
 obtain ⟨i,hi,e⟩ := List.mem_map.1 h
 rw [h4,List.mem_range] at hi
 obtain ⟨m0,m1,m2,m3⟩ := xx4 s.2.2.2 ho.1 ho.2
 have h2 : (i + 1) * pSize s.2.2.2 <= pMany 4 s.2.2.2 * pSize s.2.2.2 := Nat.mul_le_mul_right _ (by omega)
 rw [Nat.add_mul,m2] at h2
 omega
theorem xx5 {s : Int × Int × Int × Int} {a : Int} (h : a ∈ pBlocks s) (h4 : s.2.2.1 = 4) (ho : 0 <= s.2.2.2 /\ s.2.2.2 <= 3) : s.2.1 <= a / 64 /\ a / 64 < s.2.1 + s.2.2.1 := by
 have h1 := xz8 h h4 ho
 have h2 := (xx4 s.2.2.2 ho.1 ho.2).2.2.2
 rw [h4]
 omega
section
variable {n m : Nat} {v : PoolW}
theorem PlOk.cutOk (o : PlOk n m v) (k : HOk v.h) {c : CutV} (hc : c ∈ v.ks) : CutOk c := by
 obtain ⟨h1,h2,h3⟩ := o.four c hc
 have := k.start (o.mem c hc)
 have := k.p1
 exact ⟨h1,by omega,by omega,h2,h3⟩
theorem PlOk.cutOf_ (o : PlOk n m v) {c : CutV} (hc : c ∈ v.ks) : cutOf v.ks c.s.1 = some c := by
 cases e : cutOf v.ks c.s.1 with
 | none => exact absurd (List.find?_eq_none.1 e c hc) (by simp)
 | some k =>
  obtain ⟨h1,h2⟩ := xky e
  rw [xj0 o.ids h1 hc h2]
theorem PlOk.at_some (o : PlOk n m v) (k : HOk v.h) {a : Int} {c : CutV} (h : cutAtP v.ks a = some c) : ((atOf v.h.l a).getD spanNone).1 = c.s.1 := by
 obtain ⟨h1,h2⟩ := xxx h
 obtain ⟨f1,f2,f3⟩ := o.four c h1
 have hb := xz8 h2 f1 ⟨f2,f3⟩
 have hp := xx5 h2 f1 ⟨f2,f3⟩
 have hs := k.start (o.mem c h1)
 unfold atOf
 rw [if_neg (by omega)]
 cases e : v.h.l.find? (inSpan a) with
 | none => exact absurd (decide_eq_true hp) (List.find?_eq_none.1 e c.s (o.mem c h1))
 | some t =>
  have ht0 : inSpan a t = true := List.find?_some e
  have ht := of_decide_eq_true ht0
  rw [k.apart (o.mem c h1) (List.mem_of_find?_eq_some e) hp ht];rfl
theorem PlOk.at_none (o : PlOk n m v) {a : Int} (h : cutAtP v.ks a = none) {id : Int} {c : CutV} (hc : cutOf v.ks id = some c) : a ∉ pBlocks c.s := fun h2 => by
 have := List.find?_eq_none.1 h c (xky hc).1
 simp [h2] at this
theorem PlOk.at_or (o : PlOk n m v) (k : HOk v.h) (a : Int) : (cutOf v.ks ((atOf v.h.l a).getD spanNone).1 = none /\ cutAtP v.ks a = none) \/ ∃ c,cutOf v.ks ((atOf v.h.l a).getD spanNone).1 = some c /\ c ∈ v.ks /\ ((a ∈ pBlocks c.s /\ cutAtP v.ks a = some c) \/ (a ∉ pBlocks c.s /\ cutAtP v.ks a = none)) := by
 cases e : cutAtP v.ks a with
 | some c =>
  obtain ⟨h1,h2⟩ := xxx e
  exact Or.inr ⟨c,by rw [o.at_some k e,o.cutOf_ h1],h1,Or.inl ⟨h2,rfl⟩⟩
 | none =>
  cases e2 : cutOf v.ks ((atOf v.h.l a).getD spanNone).1 with
  | none => exact Or.inl ⟨rfl,rfl⟩
  | some c => exact Or.inr ⟨c,rfl,(xky e2).1,Or.inr ⟨o.at_none e e2,rfl⟩⟩
end
theorem xKr {w : World} {b n : Nat} {D : DataW Unit} {ks : List CutV} (hown : w.ownsMap Tryz.prog 3 ptrR b n D) (hmis : PIs D ks) (id : Int) (hid : in64 id) :
  (Instr.lookup 143 (.map (some b)) (.int .i64 id) false).run Tryz.prog w = .ok (ptrv ((cutOf ks id).map (·.b))) w := by
 obtain ⟨u,ps,hrun,hv⟩ := hown.lookup keyed Tryz.underlying143 (zero_ptr w) (xW5 none) (xzp hid)
 obtain ⟨q,rfl,e⟩ := yqk hv
 have e1 := congrArg Prod.fst e
 simp only at e1
 rw [hmis.get] at e1
 have e2 := yqj e1
 subst e2
 exact hrun
theorem ykl {w : World} {S : Nat -> Prop} {p : Nat} {h : HeapV} (k : Hp w S p h) (a : Int) : in64 ((atOf h.l a).getD spanNone).1 := by
 cases e : atOf h.l a with
 | none => exact ⟨by show (-9223372036854775808 : Int) <= 0;omega,by show (0 : Int) <= 9223372036854775807;omega⟩
 | some s =>
  have hs : s ∈ h.l := by
   unfold atOf at e
   split at e
   ·cases e
   ·exact List.mem_of_find?_eq_some e
  have h1 := k.ok.idr s hs
  have h2 := k.lb
  exact ⟨by show (-9223372036854775808 : Int) <= s.1;omega,by show s.1 <= 9223372036854775807;omega⟩
set_option maxRecDepth 100000 in
theorem xvi {w : World} {Sh : Nat -> Prop} {p hp ap g mb n m : Nat} {D : DataW Unit} {v : PoolW} (k : PlAt w Sh p hp ap g mb n m D v) (o : PlOk n m v) (a : Int) (ha : in64 a) :
  Calls Tryz.prog 78 #[.pointer (some ⟨p,0,none⟩),.int .i64 a] w fun e w' => e = .returned (ptrv ((cutAtP v.ks a).map (·.b))) /\ Below w.heap.size w w' := by
 have cp := xj2 p (some ⟨hp,0,none⟩) (some ⟨ap,0,none⟩) (some mb) v.held w k.c0 k.c1 k.c2 k.c3
 obtain ⟨⟨s1,s2,s3,s4⟩,hs⟩ : ∃ s,(atOf v.h.l a).getD spanNone = s := ⟨_,rfl⟩
 obtain ⟨ok,hok⟩ : ∃ ok,(atOf v.h.l a).isSome = ok := ⟨_,rfl⟩
 have cs : ∀ W,Below w.heap.size w W -> Calls Tryz.prog 121 #[.pointer (some ⟨hp,0,none⟩),.int .i64 a] W fun e w' => e = .returned (.tuple #[.agg #[.int .i64 s1,.int .i64 s2,.int .i64 s3,.int .i64 s4],.bool ok]) /\ Below W.heap.size W w' := fun W hb => by
  have := code_hat (k.below hb).hp_ a ha
  rw [hs,hok] at this
  exact this
 have hid : in64 s1 := by have := ykl k.hp_ a;rw [hs] at this;exact this
 have HL : Hid (∀ W,Below w.heap.size w W -> (Instr.lookup 143 (.map (some mb)) (.int .i64 s1) false).run Tryz.prog W = .ok (ptrv ((cutOf v.ks s1).map (·.b))) W) := hidb (fun W hb => xKr (k.below hb).mp k.mis s1 hid)
 have HB : Hid (∀ c ∈ v.ks,∀ W,Below w.heap.size w W -> Calls Tryz.prog 83 #[pv c] W (OwnInts W (pBlocks c.s))) := hidb (fun c hc W hb => by
  obtain ⟨h1,h2,h3,h4,h5⟩ := o.cutOk k.hp_.ok hc
  exact xzd c W ((k.cuts c hc).below hb) h1 h2 h3 h4 h5)
 have HA := hidb (o.at_or k.hp_.ok a)
 rw [hs] at HA
 have HBL : Hid (∀ c ∈ v.ks,(pBlocks c.s).length <= 16) := hidb (fun c hc => by
  obtain ⟨h1,h2,h3,h4,h5⟩ := o.cutOk k.hp_.ok hc
  rw [xq9,h1]
  exact (xx4 _ h4 h5).2.1)
 obtain ⟨R,hR⟩ : ∃ R,cutAtP v.ks a = R := ⟨_,rfl⟩
 rw [hR] at HA ⊢
 clear hs hok hR hid k o
 have hpn : ptrv none = .pointer none := rfl
 rcases HA.out with ⟨e1,rfl⟩ | ⟨c,e1,hc,h2⟩
 ·rw [e1,Option.map_none,hpn] at HL
  rw [Option.map_none,hpn]
  clear HA e1 HB HBL hpn
  go_enter Tryz.func78,Tryz.ntmps78
  go_wp2_with (first
   | (go_at_call 150;(with_reducible refine cp.mono ?_);rintro e w1 ⟨rfl,hb1⟩)
   | (go_at_call 121;(with_reducible refine (cs _ (hb1.alloc hb1.size _)).mono ?_);rintro e w2 ⟨rfl,hb2'⟩;have hb2 : Below w.heap.size w w2 := (hb1.alloc hb1.size (.cells #[.pointer (some ⟨hp,0,none⟩),.pointer (some ⟨ap,0,none⟩),.map (some mb),.bool v.held] 145)).trans (hb2'.mono (hb1.alloc hb1.size _).size);have y2 : w2.cell? ⟨w1.heap.size,2,none⟩ = some (.map (some mb)) := (hb2'.cell (p := ⟨w1.heap.size,2,none⟩) (by simp)).trans (by simp);have hlt2 : w1.heap.size < w2.heap.size := xq0 y2;have hl := fun o => HL.out (w2.alloc o) (hb2.alloc hb2.size o))
   | go_in)
  go_ret
  exact ⟨rfl,hb2.alloc hb2.size _⟩
 ·rw [e1] at HL
  have hps : ptrv (some c.b) = .pointer (some ⟨c.b,0,none⟩) := rfl
  rw [Option.map_some,hps] at HL
  have HBC := hidb (HB.out c hc)
  have hl16 := HBL.out c hc
  have HR : Hid ((a ∈ pBlocks c.s /\ R = some c) \/ (a ∉ pBlocks c.s /\ R = none)) := hidb h2
  clear HA e1 HB HBL h2 hc
  unfold pv at HBC
  generalize hbl : pBlocks c.s = bl at HBC hl16 HR
  clear hbl
  by_cases hin : a ∈ bl
  ·have hd : decide (a ∈ bl) = true := decide_eq_true hin
   have e : R = some c := by
    rcases HR.out with ⟨_,h⟩ | ⟨h,_⟩
    ·exact h
    ·exact absurd hin h
   rw [e,Option.map_some,hps]
   clear hin e HR hps hpn
   go_enter Tryz.func78,Tryz.ntmps78
   go_wp2_with (first
    | (go_at_call 150;(with_reducible refine cp.mono ?_);rintro e w1 ⟨rfl,hb1⟩)
    | (go_at_call 121;(with_reducible refine (cs _ (hb1.alloc hb1.size _)).mono ?_);rintro e w2 ⟨rfl,hb2'⟩;have hb2 : Below w.heap.size w w2 := (hb1.alloc hb1.size (.cells #[.pointer (some ⟨hp,0,none⟩),.pointer (some ⟨ap,0,none⟩),.map (some mb),.bool v.held] 145)).trans (hb2'.mono (hb1.alloc hb1.size _).size);have y2 : w2.cell? ⟨w1.heap.size,2,none⟩ = some (.map (some mb)) := (hb2'.cell (p := ⟨w1.heap.size,2,none⟩) (by simp)).trans (by simp);have hlt2 : w1.heap.size < w2.heap.size := xq0 y2;have hl := fun o => HL.out (w2.alloc o) (hb2.alloc hb2.size o))
    | (go_at_call 83;(with_reducible refine (HBC.out _ (hb2.alloc hb2.size _)).mono ?_);rintro e w3 ⟨A,d,rfl,hown,hb3'⟩;have hb3 := (hb2.alloc hb2.size (.cells #[.int .i64 s1,.int .i64 s2,.int .i64 s3,.int .i64 s4] 49)).trans (hb3'.mono (hb2.alloc hb2.size _).size);have ci := xqz A bl.length d bl a w3 (Sl.of_own hown) (by omega);rw [hd] at ci)
    | (go_at_call 79;(with_reducible refine ci.mono ?_);rintro e w' ⟨rfl,rfl⟩)
    | go_in)
   go_ret
   exact ⟨rfl,hb3⟩
  ·have hd : decide (a ∈ bl) = false := decide_eq_false hin
   have e : R = none := by
    rcases HR.out with ⟨h,_⟩ | ⟨_,h⟩
    ·exact absurd h hin
    ·exact h
   rw [e,Option.map_none,hpn]
   clear hin e HR hps hpn
   go_enter Tryz.func78,Tryz.ntmps78
   go_wp2_with (first
    | (go_at_call 150;(with_reducible refine cp.mono ?_);rintro e w1 ⟨rfl,hb1⟩)
    | (go_at_call 121;(with_reducible refine (cs _ (hb1.alloc hb1.size _)).mono ?_);rintro e w2 ⟨rfl,hb2'⟩;have hb2 : Below w.heap.size w w2 := (hb1.alloc hb1.size (.cells #[.pointer (some ⟨hp,0,none⟩),.pointer (some ⟨ap,0,none⟩),.map (some mb),.bool v.held] 145)).trans (hb2'.mono (hb1.alloc hb1.size _).size);have y2 : w2.cell? ⟨w1.heap.size,2,none⟩ = some (.map (some mb)) := (hb2'.cell (p := ⟨w1.heap.size,2,none⟩) (by simp)).trans (by simp);have hlt2 : w1.heap.size < w2.heap.size := xq0 y2;have hl := fun o => HL.out (w2.alloc o) (hb2.alloc hb2.size o))
    | (go_at_call 83;(with_reducible refine (HBC.out _ (hb2.alloc hb2.size _)).mono ?_);rintro e w3 ⟨A,d,rfl,hown,hb3'⟩;have hb3 := (hb2.alloc hb2.size (.cells #[.int .i64 s1,.int .i64 s2,.int .i64 s3,.int .i64 s4] 49)).trans (hb3'.mono (hb2.alloc hb2.size _).size);have ci := xqz A bl.length d bl a w3 (Sl.of_own hown) (by omega);rw [hd] at ci)
    | (go_at_call 79;(with_reducible refine ci.mono ?_);rintro e w' ⟨rfl,rfl⟩)
    | go_in)
   go_ret
   exact ⟨rfl,hb3⟩
theorem xqs {ws : List Nat} {c : Int × Int} {l : List Int} (h : cList ws c = some l) (hn : ws.length <= 65536) : l.length <= 65536 /\ in64 c.1 /\ in64 c.2 /\ (l.length : Int) = c.2 /\ l.Nodup /\ ∀ x ∈ l,0 <= x /\ x < (ws.length : Int) := by
 obtain ⟨c1,c2⟩ := c
 obtain ⟨h1,h2,h3⟩ := xqh.1 h
 have h4 := h1.mem
 have h5 := xzb ws.length l h2 h4
 have h6 := h1.range
 exact ⟨by omega,⟨by show (-9223372036854775808 : Int) <= c1;omega,by show c1 <= 9223372036854775807;omega⟩,⟨by show (-9223372036854775808 : Int) <= c2;omega,by show c2 <= 9223372036854775807;omega⟩,h3,h2,h4⟩
def InIs (w : World) (l : List Int) (e : Ending) (w' : World) : Prop :=
 ∃ A c,e = .returned (.slice A (List.length l) c) /\ Sl w' w'.heap.size A l.length (l.map iv) /\ (A = none -> List.length l = 0) /\ Below w.heap.size w w' /\ ∀ a,A = some a -> w.heap.size <= a.block
theorem xJ4 {w : World} {Sh : Nat -> Prop} {p hp ap g mb n m : Nat} {D : DataW Unit} {v : PoolW} (k : PlAt w Sh p hp ap g mb n m D v) (o : PlOk n m v) {c : CutV} (hc : c ∈ v.ks) :
  Calls Tryz.prog 77 #[pv c,.pointer (some ⟨ap,0,none⟩)] w (InIs w c.l) := by
 have hl := o.lst c hc
 obtain ⟨h1,h2,h3,h4,h5,h6⟩ := xqs hl (by rw [k.ar.hlen];exact k.ar.small)
 have cl := xvg k.ar c.c.1 c.c.2 h2 h3 o.wide
 rw [show (c.c.1,c.c.2) = c.c from rfl,hl] at cl
 replace cl : Calls Tryz.prog 97 #[.pointer (some ⟨ap,0,none⟩),.agg #[.int .i64 c.c.1,.int .i64 c.c.2]] w fun e w' => ∃ A d N,e = .returned (.tuple #[.slice A N d,.int .i64 0]) /\ N = c.l.length /\ Sl w' w'.heap.size A N (c.l.map iv) /\ (A = none -> N = 0) /\ Below w.heap.size w w' /\ ∀ a,A = some a -> w.heap.size <= a.block := by
  refine cl.mono ?_
  rintro e w' ⟨A,n',d,out,rfl,q1,q2,q3,q4,q5,q6⟩
  obtain rfl := q1 _ rfl
  have q7 : c.l.length = n' := by have := q3.1;simpa using this
  exact ⟨A,d,n',rfl,q7.symm,q3,q4,q5,q6⟩
 have d4 := (k.cuts c hc).c4
 have d5 := (k.cuts c hc).c5
 unfold pv
 obtain ⟨cb,hcb⟩ : ∃ cb,c.b = cb := ⟨_,rfl⟩
 obtain ⟨c1,hc1⟩ : ∃ c1,c.c.1 = c1 := ⟨_,rfl⟩
 obtain ⟨c2,hc2⟩ : ∃ c2,c.c.2 = c2 := ⟨_,rfl⟩
 obtain ⟨l,hll⟩ : ∃ l,c.l = l := ⟨_,rfl⟩
 rw [hcb,hc1] at d4
 rw [hcb,hc2] at d5
 rw [hc1,hc2,hll] at cl
 rw [hcb,hll]
 clear hl h1 h2 h3 h4 h5 h6 hcb hc1 hc2 hll k o hc
 go_enter Tryz.func77,Tryz.ntmps77
 go_wp2_with (first
  | (go_at_call 97;(with_reducible refine cl.mono ?_);rintro e w1 ⟨A,d,N,rfl,rfl,q3,q4,q5,q6⟩))
 go_ret
 exact ⟨A,d,rfl,q3,q4,q5,q6⟩
def orderP (ks : List CutV) (a : Int) : Int := match cutAtP ks a with
 | none => -1
 | some c => if a ∈ c.l then -1 else c.s.2.2.2
set_option maxRecDepth 100000 in
theorem xQ8 {w : World} {Sh : Nat -> Prop} {p hp ap g mb n m : Nat} {D : DataW Unit} {v : PoolW} (k : PlAt w Sh p hp ap g mb n m D v) (o : PlOk n m v) (a : Int) (ha : in64 a) :
  Calls Tryz.prog 20 #[.pointer (some ⟨p,0,none⟩),.int .i64 a] w fun e w' => e = .returned (.int .i64 (orderP v.ks a)) /\ Below w.heap.size w w' := by
 have cc := xvi k o a ha
 cases hC : cutAtP v.ks a with
 | none =>
  have eO : orderP v.ks a = -1 := by unfold orderP;rw [hC]
  rw [eO]
  clear eO
  rw [hC,Option.map_none,show ptrv none = .pointer none from rfl] at cc
  clear hC k o
  go_enter Tryz.func20,Tryz.ntmps20
  go_wp2_with (first
   | (go_at_call 78;(with_reducible refine cc.mono ?_);rintro e w1 ⟨rfl,hb1⟩))
  go_ret
  exact ⟨rfl,hb1⟩
 | some c =>
  have eO : orderP v.ks a = if a ∈ c.l then -1 else c.s.2.2.2 := by unfold orderP;rw [hC]
  rw [eO]
  clear eO
  rw [hC,Option.map_some,show ptrv (some c.b) = .pointer (some ⟨c.b,0,none⟩) from rfl] at cc
  have hc := (xxx hC).1
  have HI : Hid (∀ W,Below w.heap.size w W -> Calls Tryz.prog 77 #[pv c,.pointer (some ⟨ap,0,none⟩)] W (InIs W c.l)) := hidb (fun W hb => xJ4 (k.below hb) o hc)
  have HC : Hid (∀ W,Below w.heap.size w W -> W.cell? ⟨c.b,3,none⟩ = some (.int .i64 c.s.2.2.2) /\ W.cell? ⟨p,1,none⟩ = some (.pointer (some ⟨ap,0,none⟩))) := hidb (fun W hb => ⟨(((k.below hb).cuts c hc)).c3,(k.below hb).c1⟩)
  have hlen := (xqs (o.lst c hc) (by rw [k.ar.hlen];exact k.ar.small)).1
  unfold pv InIs at HI
  generalize c.l = l at HI hlen ⊢
  generalize c.b = cb at HI HC cc
  generalize c.s.2.2.2 = so at HC ⊢
  clear hC k o hc
  by_cases hin : a ∈ l
  ·have hd : decide (a ∈ l) = true := decide_eq_true hin
   simp only [if_pos hin]
   clear hin
   go_enter Tryz.func20,Tryz.ntmps20
   go_wp2_with (first
    | (go_at_call 78;(with_reducible refine cc.mono ?_);rintro e w1 ⟨rfl,hb1⟩;obtain ⟨y3,y1⟩ := HC.out _ hb1)
    | (go_at_call 77;(with_reducible refine (HI.out _ hb1).mono ?_);rintro e w2 ⟨A,d,rfl,q3,q4,hb2',q6⟩;have hb2 := hb1.trans (hb2'.mono hb1.size);obtain ⟨x3,x1⟩ := HC.out _ hb2;have ci := xqz A l.length d l a w2 q3 (by omega);rw [hd] at ci)
    | (go_at_call 79;(with_reducible refine ci.mono ?_);rintro e w' ⟨rfl,rfl⟩))
   go_ret
   exact ⟨rfl,hb2⟩
  ·have hd : decide (a ∈ l) = false := decide_eq_false hin
   simp only [if_neg hin]
   clear hin
   go_enter Tryz.func20,Tryz.ntmps20
   go_wp2_with (first
    | (go_at_call 78;(with_reducible refine cc.mono ?_);rintro e w1 ⟨rfl,hb1⟩;obtain ⟨y3,y1⟩ := HC.out _ hb1)
    | (go_at_call 77;(with_reducible refine (HI.out _ hb1).mono ?_);rintro e w2 ⟨A,d,rfl,q3,q4,hb2',q6⟩;have hb2 := hb1.trans (hb2'.mono hb1.size);obtain ⟨x3,x1⟩ := HC.out _ hb2;have ci := xqz A l.length d l a w2 q3 (by omega);rw [hd] at ci)
    | (go_at_call 79;(with_reducible refine ci.mono ?_);rintro e w' ⟨rfl,rfl⟩))
   go_ret
   exact ⟨rfl,hb2⟩
end Go.Proofs.YtlcdgmjinhbncaaGreat
