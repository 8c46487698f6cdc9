import Derived.Test.YtlcdgmjinhbncaaGreatRHeapMain
import Derived.Test.YtlcdgmjinhbncaaGreatRRunsMain
import Derived.Test.YtlcdgmjinhbncaaGreatRIndexAll
import Derived.Test.YtlcdgmjinhbncaaGreatRPoolAdd
import Derived.Test.YtlcdgmjinhbncaaGreatRPoolSort
import Derived.Test.YtlcdgmjinhbncaaGreatRChainAll
namespace Go.Proofs.YtlcdgmjinhbncaaGreat
open Go.RowKit Go.Maps
set_option linter.unusedVariables false
theorem yku (q : Int -> Bool) (t : Nat) (A : Option Addr) (n c : Nat) (ds : List (Int)) (w : World) (hs : Sl w w.heap.size A n (ds.map iv)) (hn : n <= 4611686018427387903)
  (hq : ∀ W,Below w.heap.size w W -> ∀ k ∈ ds,Calls Tryz.prog 84 #[iv k,.pointer (some ⟨t,0,none⟩)] W fun e w' => e = .returned (.bool (q k)) /\ Below W.heap.size W w') :
  Calls Tryz.prog 155 #[.slice A n c,.func (.func 84) #[] #[.pointer (some ⟨t,0,none⟩)]] w fun e w' => (∃ r : Int,e = .returned (.int .i64 r) /\ ((r = -1 /\ ∀ k ∈ ds,q k = false) \/ ∃ i : Nat,i < n /\ r = i /\ (∀ (j : Nat) x,j < i -> ds[j]? = some x -> q x = false) /\ ∀ x,ds[i]? = some x -> q x = true)) /\ Below w.heap.size w w' := by
 have HL : Hid (ds.length = n) := hidb (by have := hs.1;simpa using this)
 have HS := hidb hs
 have HQ := hidb hq
 clear hs hq
 go_enter Tryz.func155,Tryz.ntmps155
 go_wp2
 go_loopw [8] (fun k wr => ∃ j : Nat,j <= n /\ Hid (∀ (i : Nat) x,i < j -> ds[i]? = some x -> q x = false) /\ k = .int .i64 j /\ Hid (Below w.heap.size w wr)) (fun k _ => (n - intOf k).toNat)
 case atStart => exact ⟨0,by omega,hidb (fun i x h => absurd h (Nat.not_lt_zero _)),rfl,hidb (Below.refl _ _)⟩
 case round =>
  obtain ⟨j,hj,HA,rfl,HB⟩ := hrel
  by_cases hlt : j < n
  ·obtain ⟨b,off,u,rfl,_,hx,hc⟩ := (HS.out.below HB.out).at_ hlt
   obtain ⟨x,hx2,rfl⟩ : ∃ x,ds[j]? = some x /\ iv x = u := by
    rw [List.getElem?_map] at hx
    exact Option.map_eq_some_iff.1 hx
   have c1 := HQ.out wr HB.out x (List.mem_of_getElem? hx2)
   have hj0 : (0 : Int) <= (j : Int) := by omega
   have hj1 : (j : Int) < (n : Int) := by omega
   have HX := hidb hx2
   clear hx hx2
   unfold iv at hc c1
   cases hT : q x with
   | false =>
    rw [hT] at c1
    have HA2 : Hid (∀ (i : Nat) y,i < j + 1 -> ds[i]? = some y -> q y = false) := hidb (fun i y hi hy => by
     by_cases h : i = j
     ·subst h
      rw [HX.out] at hy
      injection hy with hy
      rw [<- hy];exact hT
     ·exact HA.out i y (by omega) hy)
    clear hT
    go_wp2_with (first | (go_at_call 84;(with_reducible refine c1.mono ?_);rintro e w1 ⟨rfl,hb1⟩))
    go_roundw
    case rel => exact ⟨j + 1,by omega,HA2,by go_num,hidb (HB.out.trans (hb1.mono HB.out.size))⟩
    case measure => simp [intOf];omega
   | true =>
    rw [hT] at c1
    have HF : Hid (∀ y,ds[j]? = some y -> q y = true) := hidb (fun y hy => by
     rw [HX.out] at hy
     injection hy with hy
     rw [<- hy];exact hT)
    clear hT
    go_wp2_with (first | (go_at_call 84;(with_reducible refine c1.mono ?_);rintro e w1 ⟨rfl,hb1⟩))
    go_ret
    exact ⟨⟨j,rfl,Or.inr ⟨j,hlt,rfl,HA.out,HF.out⟩⟩,HB.out.trans (hb1.mono HB.out.size)⟩
  ·have HF : Hid (∀ k ∈ ds,q k = false) := hidb (fun k hk => by
    obtain ⟨i,hi,e⟩ := List.mem_iff_getElem.1 hk
    exact HA.out i k (by have := HL.out;omega) (by rw [List.getElem?_eq_getElem hi,e]))
   go_wp2
   go_ret
   exact ⟨⟨-1,rfl,Or.inl ⟨rfl,HF.out⟩⟩,HB.out⟩
def DeletedO (w : World) (base : Nat) (row : Option Nat) (ds : List (Int)) (e : Ending) (w' : World) : Prop :=
 ∃ A c,e = .returned (.slice A ds.length c) /\ w'.ownsRow base 3 1 (.slice A ds.length c) ds.length (ds.map iv) /\ w.grownBy w' row
structure DelStO (w wr : World) (g n i j : Nat) (L : List Value) (q : Int -> Bool) (ds : List (Int)) (L' : List Value) : Prop where
 row : Rw wr g 3 L'
 len : L'.length = L.length
 tk : L'.take i = ((ds.take j).filter fun x => !q x).map iv
 fl : ((ds.take j).filter fun x => !q x).length = i
 hi : ∀ m,j <= m -> L'[m]? = L[m]?
 gr : w.grownBy wr (some g)
section
variable {w wr : World} {g n i j : Nat} {L L' : List Value} {q : Int -> Bool} {ds : List (Int)}
theorem DelStO.below {w' : World} (h : DelStO w wr g n i j L q ds L') (hb : Below wr.heap.size wr w') : DelStO w w' g n i j L q ds L' :=
 ⟨h.row.below hb h.row.lt,h.len,h.tk,h.fl,h.hi,xq4 h.gr (xq3 hb _)⟩
theorem DelStO.skip (h : DelStO w wr g n i j L q ds L') {x : Int} (hx : ds[j]? = some x) (hq : q x = true) : DelStO w wr g n i (j + 1) L q ds L' := by
 have e : (ds.take (j + 1)).filter (fun x => !q x) = (ds.take j).filter (fun x => !q x) := by
  rw [List.take_add_one,hx,List.filter_append];simp [hq]
 exact ⟨h.row,h.len,by rw [e];exact h.tk,by rw [e];exact h.fl,fun m hm => h.hi m (by omega),h.gr⟩
theorem DelStO.keep (h : DelStO w wr g n i j L q ds L') (hij : i < j) (hj : j < L.length) {x : Int} (hx : ds[j]? = some x) (hq : q x = false) : DelStO w (wr.setCell ⟨g,i,none⟩ (iv x)) g n (i + 1) (j + 1) L q ds (L'.set i (iv x)) := by
 have hl := h.len
 have e : (ds.take (j + 1)).filter (fun x => !q x) = (ds.take j).filter (fun x => !q x) ++ [x] := by
  rw [List.take_add_one,hx,List.filter_append];simp [hq]
 refine ⟨h.row.setCell i _,by rw [List.length_set];exact hl,?_,by rw [e,List.length_append,h.fl];rfl,fun m hm => ?_,xz6 h.gr i _⟩
 ·rw [List.take_add_one,List.take_set_of_le (Nat.le_refl _),h.tk,e,List.map_append,List.getElem?_set_self (by omega)]
  rfl
 ·rw [List.getElem?_set_ne (by omega)]
  exact h.hi m (by omega)
end
theorem start_o {q : Int -> Bool} {ds : List (Int)} {i : Nat} (hi : i < ds.length) (h1 : ∀ (j : Nat) x,j < i -> ds[j]? = some x -> q x = false) (h2 : ∀ x,ds[i]? = some x -> q x = true) : (ds.take (i + 1)).filter (fun x => !q x) = ds.take i := by
 have e1 : (ds.take i).filter (fun x => !q x) = ds.take i := List.filter_eq_self.2 fun x hx => by
  obtain ⟨k,hk,e⟩ := List.mem_iff_getElem.1 hx
  rw [List.length_take] at hk
  have := h1 k x (by omega) (by rw [<- e,List.getElem_take];exact List.getElem?_eq_getElem _)
  simp [this]
 have hx := List.getElem?_eq_getElem hi
 rw [List.take_add_one,hx,List.filter_append,e1]
 simp [h2 _ hx]
theorem zero_o (w : World) : (zeroValue 3).run Tryz.prog w = .ok (.int .i64 0) w := by kernel_rfl
theorem zeros_o (n : Nat) : (Builtin.zeroCells (.int .i64 0 : Value).cells n).size = n := by simp [Builtin.zeroCells,Value.cells]
theorem zones_o (n : Nat) : ∀ v ∈ (Builtin.zeroCells (.int .i64 0 : Value).cells n).toList,v.oneCell' = true := fun v hv => by
 simp [Builtin.zeroCells,Value.cells,Nat.mod_one] at hv
 obtain ⟨_,rfl⟩ := hv
 rfl
set_option maxRecDepth 100000 in
theorem ykv (q : Int -> Bool) (t : Nat) (A : Option Addr) (n c : Nat) (ds : List (Int)) (w : World) (base : Nat) (hown : w.ownsRow base 3 1 (.slice A n c) n (ds.map iv)) (hl : ds.length = n) (hn : n <= 4611686018427387903)
  (hq : ∀ W,w.grownBy W (Value.slice A n c).ownBlock -> ∀ k ∈ ds,Calls Tryz.prog 84 #[iv k,.pointer (some ⟨t,0,none⟩)] W fun e w' => e = .returned (.bool (q k)) /\ Below W.heap.size W w') :
  Calls Tryz.prog 82 #[.slice A n c,.func (.func 84) #[] #[.pointer (some ⟨t,0,none⟩)]] w (DeletedO w base (Value.slice A n c).ownBlock (ds.filter fun x => !q x)) := by
 have ci := yku q t A n c ds w (Sl.of_own hown) hn (fun W hb => hq W (xq3 hb _))
 have HD1 : Hid (∀ W,Below w.heap.size w W -> (∀ k ∈ ds,q k = false) -> DeletedO w base (Value.slice A n c).ownBlock (ds.filter fun x => !q x) (.returned (.slice A n c)) W) := hidb (fun W hb hk => by
  have e : (ds.filter fun x => !q x) = ds := List.filter_eq_self.2 fun x hx => by simp [hk x hx]
  rw [e]
  exact ⟨A,c,by rw [hl],by rw [hl];exact xqk hown hb,xq3 hb _⟩)
 by_cases hne : n = 0
 ·subst hne
  have hnil : ds = [] := List.eq_nil_of_length_eq_zero hl
  clear hown hq hl
  go_enter Tryz.func82,Tryz.ntmps82
  go_wp2_with (go_at_call 155;(with_reducible refine ci.mono ?_);rintro e w1 ⟨⟨r,rfl,(⟨rfl,_⟩ | ⟨i,hi,_⟩)⟩,hb1⟩)
  go_ret
  exact HD1.out _ hb1 (by rw [hnil];intro k hk;cases hk)
 ·obtain ⟨g,rfl⟩ : ∃ g,A = some ⟨g,0,none⟩ := by
   rcases hown.2 with ⟨_,h⟩ | ⟨g,cap,cur,h,_⟩
   ·exact absurd h hne
   ·injection h with e1;exact ⟨g,e1⟩
  obtain ⟨L,hL,hbg,hnc,hcm,hLl,hxs⟩ := xqj hown
  rw [Nat.mul_one] at hLl hxs
  have HQ : Hid (∀ W,w.grownBy W (some g) -> ∀ k ∈ ds,Calls Tryz.prog 84 #[iv k,.pointer (some ⟨t,0,none⟩)] W fun e w' => e = .returned (.bool (q k)) /\ Below W.heap.size W w') := hidb hq
  have HST : Hid (∀ i,i < n -> (∀ (j : Nat) x,j < i -> ds[j]? = some x -> q x = false) -> (∀ x,ds[i]? = some x -> q x = true) -> ∀ W,Below w.heap.size w W -> DelStO w W g n i (i + 1) L q ds L) := hidb (fun i hi h1 h2 W hb => by
   have e := start_o (by omega) h1 h2
   refine ⟨hL.below hb hL.lt,rfl,?_,by rw [e,List.length_take];omega,fun _ _ => rfl,xq3 hb _⟩
   rw [e,List.map_take,hxs,List.take_take,Nat.min_eq_left (by omega)])
  have HDL : Hid (∀ j,j < n -> ∃ x,ds[j]? = some x /\ L[j]? = some (iv x)) := hidb (fun j hj => by
   have h1 := List.getElem?_eq_getElem (l := ds) (i := j) (by omega)
   refine ⟨_,h1,?_⟩
   have h2 : (L.take n)[j]? = L[j]? := by rw [List.getElem?_take,if_pos hj]
   rw [<- h2,<- hxs,List.getElem?_map,h1];rfl)
  have HFIN : Hid (∀ W i L3,Rw W g 3 L3 -> L3.length = L.length -> L3.take i = (ds.filter fun x => !q x).map iv -> (ds.filter fun x => !q x).length = i -> w.grownBy W (some g) -> DeletedO w base (Value.slice (some ⟨g,0,none⟩) n c).ownBlock (ds.filter fun x => !q x) (.returned (.slice (some ⟨g,0,none⟩) i c)) W) := hidb (fun W i L3 h1 h2 h3 h4 h5 => by
   have hic : i <= c := by
    have := List.length_filter_le (fun x => !q x) ds
    omega
   have h6 := xq8 (base := base) (s := 1) (n := i) (c := c) h1 hbg hic hcm (by rw [h2,hLl];omega)
   rw [Nat.mul_one,h3] at h6
   exact ⟨some ⟨g,0,none⟩,c,by rw [h4],by rw [h4];exact h6,h5⟩)
  have hg := hL.lt
  have HL := hidb hLl
  have HDS := hidb hl
  have hc2 : c <= 9223372036854775807 := hcm
  clear hown hq hL hLl hxs hl hbg hcm
  go_enter Tryz.func82,Tryz.ntmps82
  go_wp2_with (go_at_call 155;(with_reducible refine ci.mono ?_);rintro e w1 ⟨⟨r,rfl,(⟨rfl,hall⟩ | ⟨i0,hi0,rfl,h1,h2⟩)⟩,hb1⟩)
  ·go_ret
   exact HD1.out _ hb1 hall
  have HI := hidb (HST.out i0 hi0 h1 h2 w1 hb1)
  have hne1 : ((i0 : Int) == -1) = false := beq_eq_false_iff_ne.2 (by omega)
  clear h1 h2 hb1 HST HD1
  go_wp2
  go_loopw [5,6,7] (fun s5 s6 _ wr => ∃ (i j : Nat) (L' : List Value),s5 = .int .i64 i /\ s6 = .int .i64 j /\ i < j /\ j <= n /\ Hid (DelStO w wr g n i j L q ds L')) (fun _ s6 _ _ => (n - intOf s6).toNat)
  case atStart => exact ⟨i0,i0 + 1,L,rfl,by go_num,by omega,by omega,HI⟩
  case round =>
   obtain ⟨i,j,L',rfl,rfl,hij,hjn,HST⟩ := hrel
   have hL' := HST.out.row
   have hlen' : L'.length = c := by rw [HST.out.len];exact HL.out
   by_cases hlt : j < n
   ·obtain ⟨x,hx,hLx⟩ := HDL.out j hlt
    have cj : wr.cell? ⟨g,j,none⟩ = some (iv x) := by rw [hL'.cell,HST.out.hi j (Nat.le_refl _)];exact hLx
    have c1 := HQ.out wr HST.out.gr x (List.mem_of_getElem? hx)
    have HX := hidb hx
    have hj0 : (0 : Int) <= (j : Int) := by omega
    have hj1 : (j : Int) < (n : Int) := by omega
    have hi0' : (0 : Int) <= (i : Int) := by omega
    have hi1' : (i : Int) < (n : Int) := by omega
    have HIC : Hid (∀ W,Below wr.heap.size wr W -> ∃ u,W.cell? ⟨g,i,none⟩ = some u /\ W.frozen? ⟨g,i,none⟩ = false) := hidb (fun W hb => by
     have h := hL'.below hb hL'.lt
     exact ⟨L'[i]'(by omega),by rw [h.cell];exact List.getElem?_eq_getElem _,h.free i⟩)
    clear hx hLx hL'
    unfold iv at cj c1
    cases hT : q x with
    | true =>
     rw [hT] at c1
     have HST2 := hidb (fun W hb => (HST.out.below (w' := W) hb).skip HX.out hT)
     clear hT
     go_wp2_with (go_at_call 84;(with_reducible refine c1.mono ?_);rintro e w2 ⟨rfl,hb2⟩)
     go_roundw
     case rel => refine ⟨_,_,_,_,_,_,_,_,_,_,_,_,_,_,_,_,_,_,_,_,_,_,_,?_,rfl⟩;exact ⟨i,j + 1,L',rfl,by go_num,by omega,by omega,hidb (HST2.out _ hb2)⟩
     case measure => simp [intOf];omega
    | false =>
     rw [hT] at c1
     have HST2 := hidb (fun W hb => (HST.out.below (w' := W) hb).keep hij (by have := HL.out;omega) HX.out hT)
     clear hT
     go_wp2_with (go_at_call 84;(with_reducible refine c1.mono ?_);rintro e w2 ⟨rfl,hb2⟩;obtain ⟨u,ci1,ci2⟩ := HIC.out _ hb2)
     go_roundw
     case rel => refine ⟨_,_,_,_,_,_,_,_,_,_,_,_,_,_,_,_,_,_,_,_,_,_,_,?_,rfl⟩;exact ⟨i + 1,j + 1,_,by go_num,by go_num,by omega,by omega,hidb (HST2.out _ hb2)⟩
     case measure => simp [intOf];omega
   ·obtain rfl : j = n := by omega
    have HRW := hidb hL'
    have hi0' : (0 : Int) <= (i : Int) := by omega
    have hi1' : (i : Int) <= (j : Int) := by omega
    have hi2' : (i : Int) < (c : Int) := by omega
    have hs0 : ((j : Int) - (i : Int)).toNat = j - i := by omega
    have hs1 : ((c : Int) - (i : Int)).toNat = c - i := by omega
    clear hL'
    go_wp2_with (first
     | (refine xqm rfl (.tmp 38) 38 rfl 3 _ Tryz.underlying38 zero_o _ g i _ _ rfl _ _ HRW.out (zones_o _) (by intro _;exact ⟨rfl,by rw [zeros_o];omega⟩) ?_;intro w3 L3 hL3 hb3))
    go_ret
    have htk : (ds.take j).filter (fun x => !q x) = ds.filter fun x => !q x := by rw [List.take_of_length_le (by have := HDS.out;omega)]
    exact HFIN.out _ i L3 hL3.out.1 (by rw [hL3.out.2.1];exact HST.out.len) (by rw [hL3.out.2.2,HST.out.tk,htk]) (by rw [<- htk];exact HST.out.fl) (xq4 HST.out.gr hb3.out)
structure ReadSt (W1 wr : World) (e : TypeId) (s : Nat) (E : Type) (enc : E -> List Value) (ts : List CutV) (f : CutV -> List E) (j : Nat) (A : Option Addr) (m c : Nat) : Prop where
 row : wr.ownsRow W1.heap.size e s (.slice A m c) m (cellsAll enc ((ts.take j).flatMap f))
 len : ((ts.take j).flatMap f).length = m
 bel : Below W1.heap.size W1 wr
theorem ReadSt.start (W1 : World) (e : TypeId) (s : Nat) (E : Type) (enc : E -> List Value) (ts : List CutV) (f : CutV -> List E) : ReadSt W1 W1 e s E enc ts f 0 none 0 0 :=
 ⟨World.ownsRow_nil _ _ _ _,rfl,Below.refl _ _⟩
def encI1 (x : Int) : List Value := [iv x]
theorem xjt (l : List Int) : cellsAll encI1 l = l.map iv := by
 induction l with
 | nil => rfl
 | cons x l ih => show encI1 x ++ cellsAll encI1 l = _;rw [ih];rfl
theorem ReadSt.step {W1 wr w2 w3 : World} {e : TypeId} {s : Nat} {E : Type} {enc : E -> List Value} {ts : List CutV} {f : CutV -> List E} {j m c m2 : Nat} {A A' : Option Addr} {c' : Nat} (h : ReadSt W1 wr e s E enc ts f j A m c) {k : CutV} (hk : ts[j]? = some k) (hb : Below wr.heap.size wr w2) (hm : (f k).length = m2)
  (hr : w3.ownsRow W1.heap.size e s (.slice A' (m + m2) c') (m + m2) (cellsAll enc ((ts.take j).flatMap f) ++ cellsAll enc (f k))) (hg : w2.grownBy w3 (Value.slice A m c).ownBlock) : ReadSt W1 w3 e s E enc ts f (j + 1) A' (m + m2) c' := by
 have e1 : (ts.take (j + 1)).flatMap f = (ts.take j).flatMap f ++ f k := by rw [List.take_add_one,hk,List.flatMap_append];simp
 have hb2 : Below W1.heap.size W1 w2 := h.bel.trans (hb.mono h.bel.size)
 exact ⟨by rw [e1,xq7];exact hr,by rw [e1,List.length_append,h.len,hm],hb2.grown hg hb2.size (fun b hb => (h.row.lt b hb).1)⟩
theorem xkb {w1 : World} {base N c : Nat} {A : Option Addr} {ts : List CutV} (h : w1.ownsRow base 135 1 (.slice A N c) N (cellsAll pcell ts)) : Sl w1 w1.heap.size A N (ts.map pv) := by
 rw [xxw] at h;exact Sl.of_own h
def Reads9 (w : World) (ks : List CutV) (q : CutV -> Bool) (f : CutV -> List Int) (e : Ending) (w' : World) : Prop := ∃ ds,InOrderP ks ds /\ OwnInts w ((ds.filter q).flatMap f) e w'
set_option maxRecDepth 100000 in
theorem yze {w : World} {Sh : Nat -> Prop} {p hp ap g mb n m : Nat} {D : DataW Unit} {v : PoolW} (k : PlAt w Sh p hp ap g mb n m D v) (o : PlOk n m v) (order : Int) :
  Calls Tryz.prog 18 #[.pointer (some ⟨p,0,none⟩),.int .i64 order] w (Reads9 w v.ks (fun k => k.s.2.2.2 == order) (·.l)) := by
 obtain ⟨w0,hw0⟩ : ∃ w0,w0 = w.alloc (.cells #[.int .i64 order] 3) := ⟨_,rfl⟩
 have hb0 : Below w.heap.size w w0 := by rw [hw0];exact (Below.refl _ _).alloc (Nat.le_refl _) _
 have hbx : w0.cell? ⟨w.heap.size,0,none⟩ = some (.int .i64 order) := by rw [hw0];exact World.cell?_alloc_at _ _ _ 0 (by simp)
 have k0 := k.below hb0
 have cr : Calls Tryz.prog 73 #[.pointer (some ⟨p,0,none⟩),.func (.func 76) #[] #[.pointer (some ⟨w.heap.size,0,none⟩)]] w0 (Rising w0 v.ks (fun k => k.s.2.2.2 == order)) :=
  xz7 k0 o 76 #[.pointer (some ⟨w.heap.size,0,none⟩)] _ (fun W2 t hb2 ht c hc => r2_list c t w.heap.size order W2 ((k0.cuts c hc).below hb2) ht ((hb2.cell (p := ⟨w.heap.size,0,none⟩) (xq0 hbx)).trans hbx))
 obtain ⟨_,hks⟩ := o.starts k.hp_.ok
 have HLEN : Hid (∀ ds,InOrderP v.ks ds -> (ds.filter (fun k => k.s.2.2.2 == order)).length <= 1024 /\ (∀ c ∈ ds.filter (fun k => k.s.2.2.2 == order),c ∈ v.ks) /\ ∀ c ∈ ds.filter (fun k => k.s.2.2.2 == order),c.l.length <= 65536) := hidb (fun ds hd => by
  have hp1 : ds.Perm v.ks := (List.perm_ext_iff_of_nodup (xqc hd.1) (xqc o.ids)).2 hd.2.1
  have hl : (ds.filter (fun k => k.s.2.2.2 == order)).length <= ds.length := List.length_filter_le _ _
  have hm : ∀ c ∈ ds.filter (fun k => k.s.2.2.2 == order),c ∈ v.ks := fun c hc => (hd.2.1 c).1 (List.mem_filter.1 hc).1
  exact ⟨by rw [hp1.length_eq] at hl;omega,hm,fun c hc => (xqs (o.lst c (hm c hc)) (by rw [k.ar.hlen];exact k.ar.small)).1⟩)
 have HCI : Hid (∀ W,Below w0.heap.size w0 W -> ∀ c ∈ v.ks,W.cell? ⟨p,1,none⟩ = some (.pointer (some ⟨ap,0,none⟩)) /\ Calls Tryz.prog 77 #[.pointer (some ⟨c.b,0,none⟩),.pointer (some ⟨ap,0,none⟩)] W (InIs W c.l)) := hidb (fun W hb c hc => ⟨(k0.below hb).c1,xJ4 (k0.below hb) o hc⟩)
 obtain ⟨i0,hi,hz0,hz1,hz2⟩ := info_parts xqw
 have HW0 := hidb hw0
 have HB0 := hidb hb0
 unfold Rising OwnCuts at cr
 clear k o k0 hbx hw0 hb0 hks
 go_enter Tryz.func18,Tryz.ntmps18
 go_wp2_with (first
  | (go_at_call 73;rw [<- HW0.out];(with_reducible refine cr.mono ?_);rintro e w1 ⟨ds,hd,A,d,rfl,hrow,hb1⟩;obtain ⟨ts,hts⟩ : ∃ ts,(List.filter (fun k : CutV => k.s.2.2.2 == order) ds) = ts := ⟨_,rfl⟩;rw [hts] at hrow;rw [hts];obtain ⟨N,hN⟩ : ∃ N,List.length ts = N := ⟨_,rfl⟩;rw [hN] at hrow;rw [hN]))
 obtain ⟨hNl,hsub,hll⟩ := HLEN.out ds hd
 rw [hts] at hNl hsub hll
 rw [hN] at hNl
 have hsl := xkb hrow
 have HSUB := hidb hsub
 have HLL := hidb hll
 have HNE := hidb hN
 have HTS := hidb hts
 have HD := hidb hd
 have HB1 := hidb hb1
 have hz1s := hb1.size
 have HSL : Hid (∀ W,Below w1.heap.size w1 W -> Sl W W.heap.size A N (ts.map pv)) := hidb (fun W hb => (hsl.below hb).more hb.size)
 clear hsub hll hN hts hd hb1 hsl hrow cr HLEN
 go_loopw [5,7,12] (fun s5 _ s12 wr => ∃ (j : Nat) (A' : Option Addr) (m' c' : Nat),s12 = .int .i64 j /\ s5 = .slice A' m' c' /\ j <= N /\ m' <= 65536 * j /\ Hid (ReadSt w1 wr 3 1 Int encI1 ts (·.l) j A' m' c')) (fun _ _ s12 _ => (N - intOf s12).toNat)
 case atStart => exact ⟨0,none,0,0,rfl,rfl,by omega,by omega,hidb (ReadSt.start _ _ _ _ _ _ _)⟩
 case round =>
  obtain ⟨j,A',m',c',rfl,rfl,hj,hm',HR⟩ := hrel
  by_cases hlt : j < N
  ·obtain ⟨b,off,u,rfl,_,hx,hc⟩ := (HSL.out wr HR.out.bel).at_ hlt
   obtain ⟨q,hq,rfl⟩ : ∃ q,ts[j]? = some q /\ pv q = u := by
    rw [List.getElem?_map] at hx
    exact Option.map_eq_some_iff.1 hx
   have hqk := HSUB.out q (List.mem_of_getElem? hq)
   obtain ⟨c1,ci⟩ := HCI.out wr (HB1.out.trans (HR.out.bel.mono HB1.out.size)) q hqk
   have hll := HLL.out q (List.mem_of_getElem? hq)
   have hj0 : (0 : Int) <= (j : Int) := by omega
   have hj1 : (j : Int) < (N : Int) := by omega
   have HQ := hidb hq
   unfold pv at hc
   unfold InIs at ci
   obtain ⟨ml,hml⟩ : ∃ ml,q.l.length = ml := ⟨_,rfl⟩
   rw [hml] at ci hll
   have HML := hidb hml
   have HST : Hid (∀ w2 w3 A3 c3,Below wr.heap.size wr w2 -> w3.ownsRow w1.heap.size 3 1 (.slice A3 (m' + ml) c3) (m' + ml) (cellsAll encI1 ((ts.take j).flatMap (·.l)) ++ q.l.map iv) -> w2.grownBy w3 (Value.slice A' m' c').ownBlock -> ReadSt w1 w3 3 1 Int encI1 ts (·.l) (j + 1) A3 (m' + ml) c3) := hidb (fun w2 w3 A3 c3 hb hr hg => HR.out.step HQ.out hb HML.out (by rw [xjt q.l];exact hr) hg)
   have hsz := HR.out.bel.size
   clear hx hq hml
   go_wp2_with (first
    | (go_at_call 77;(with_reducible refine ci.mono ?_);rintro e w2 ⟨A2,d2,rfl,q3,q4,hb2,q6⟩;have hb2s := hb2.size)
    | (at_builtin;refine xqf w2 rfl _ _ 38 rfl w1.heap.size 3 i0 (.int .i64 0) 1 8 Tryz.underlying38 hi hz0 hz1 hz2 rfl (by decide) _ m' _ rfl (by exact xqk HR.out.row hb2) (by omega) A2 ml d2 (q.l.map iv) rfl (by rw [List.length_map,HML.out,Nat.mul_one]) (fun h => q4 h) (xwa q3) (xJ3 _) (by unfold maxLen;omega) (by omega) ?_;intro A3 c3 w3 hown3 hg3;have HR3 := hidb (HST.out w2 w3 A3 c3 hb2 hown3 hg3);clear hown3 hg3))
   go_roundw
   case rel => exact ⟨j + 1,A3,m' + ml,c3,by go_num,rfl,by omega,by omega,HR3⟩
   case measure => simp [intOf];omega
  ·obtain rfl : j = N := by omega
   have P : Hid (Reads9 w v.ks (fun k => k.s.2.2.2 == order) (·.l) (.returned (.slice A' m' c')) wr) := hidb (by
    have h1 := HR.out.row
    have h2 := HR.out.len
    rw [List.take_of_length_le (by rw [HNE.out];exact Nat.le_refl _)] at h1 h2
    rw [xjt] at h1
    refine ⟨ds,HD.out,A',c',?_,?_,?_⟩
    ·rw [HTS.out,h2]
    ·rw [HTS.out,h2]
     exact xxb h1 (by have := HB0.out.size;have := HB1.out.size;omega)
    ·exact HB0.out.trans ((HB1.out.trans (HR.out.bel.mono HB1.out.size)).mono HB0.out.size))
   go_wp2
   go_ret
   exact P.out
theorem flat_one (ts : List CutV) : ts.flatMap (fun k => [k.s]) = ts.map (·.s) := by
 induction ts with
 | nil => rfl
 | cons k ts ih => rw [List.flatMap_cons,ih];rfl
def outK (k : CutV) : List Int := (pBlocks k.s).filter fun x => !decide (x ∈ k.l)
theorem q_out2 (x : Int) (t : Nat) (A : Option Addr) (n d : Nat) (l : List Int) (W : World) (ht : W.cell? ⟨t,0,none⟩ = some (.slice A n d)) (hs : Sl W W.heap.size A n (l.map iv)) (hn : n <= 131072) :
  Calls Tryz.prog 84 #[iv x,.pointer (some ⟨t,0,none⟩)] W fun e w' => e = .returned (.bool (decide (x ∈ l))) /\ Below W.heap.size W w' := by
 have ci := xqz A n d l x W hs hn
 generalize decide (x ∈ l) = r at ci ⊢
 unfold iv
 clear hs
 go_enter Tryz.func84,Tryz.ntmps84
 go_wp2_with (go_at_call 79;(with_reducible refine ci.mono ?_);rintro e w' ⟨rfl,rfl⟩)
 go_ret
 exact ⟨rfl,Below.refl _ _⟩
set_option maxRecDepth 100000 in
theorem xWl {w : World} {Sh : Nat -> Prop} {p hp ap g mb n m : Nat} {D : DataW Unit} {v : PoolW} (k : PlAt w Sh p hp ap g mb n m D v) (o : PlOk n m v) (order : Int) :
  Calls Tryz.prog 15 #[.pointer (some ⟨p,0,none⟩),.int .i64 order] w fun e w' => ∃ ds,InOrderP v.ks ds /\ OwnSpansC w ((ds.filter (fun k => k.s.2.2.2 == order)).map (·.s)) e w' := by
 obtain ⟨w0,hw0⟩ : ∃ w0,w0 = w.alloc (.cells #[.int .i64 order] 3) := ⟨_,rfl⟩
 have hb0 : Below w.heap.size w w0 := by rw [hw0];exact (Below.refl _ _).alloc (Nat.le_refl _) _
 have hbx : w0.cell? ⟨w.heap.size,0,none⟩ = some (.int .i64 order) := by rw [hw0];exact World.cell?_alloc_at _ _ _ 0 (by simp)
 have k0 := k.below hb0
 have cr : Calls Tryz.prog 73 #[.pointer (some ⟨p,0,none⟩),.func (.func 74) #[] #[.pointer (some ⟨w.heap.size,0,none⟩)]] w0 (Rising w0 v.ks (fun k => k.s.2.2.2 == order)) :=
  xz7 k0 o 74 #[.pointer (some ⟨w.heap.size,0,none⟩)] _ (fun W2 t hb2 ht c hc => r2_spans c t w.heap.size order W2 ((k0.cuts c hc).below hb2) ht ((hb2.cell (p := ⟨w.heap.size,0,none⟩) (xq0 hbx)).trans hbx))
 obtain ⟨_,hks⟩ := o.starts k.hp_.ok
 have HLEN : Hid (∀ ds,InOrderP v.ks ds -> (ds.filter (fun k => k.s.2.2.2 == order)).length <= 1024 /\ (∀ c ∈ ds.filter (fun k => k.s.2.2.2 == order),c ∈ v.ks) /\ ∀ c ∈ ds.filter (fun k => k.s.2.2.2 == order),c.l.length <= 65536) := hidb (fun ds hd => by
  have hp1 : ds.Perm v.ks := (List.perm_ext_iff_of_nodup (xqc hd.1) (xqc o.ids)).2 hd.2.1
  have hl : (ds.filter (fun k => k.s.2.2.2 == order)).length <= ds.length := List.length_filter_le _ _
  have hm : ∀ c ∈ ds.filter (fun k => k.s.2.2.2 == order),c ∈ v.ks := fun c hc => (hd.2.1 c).1 (List.mem_filter.1 hc).1
  exact ⟨by rw [hp1.length_eq] at hl;omega,hm,fun c hc => (xqs (o.lst c (hm c hc)) (by rw [k.ar.hlen];exact k.ar.small)).1⟩)
 have HCI : Hid (∀ W,Below w0.heap.size w0 W -> ∀ c ∈ v.ks,CutAt W c) := hidb (fun W hb c hc => (k0.cuts c hc).below hb)
 obtain ⟨i0,hi,hz0,hz1,hz2⟩ := info_parts xjf
 have HW0 := hidb hw0
 have HB0 := hidb hb0
 unfold Rising OwnCuts at cr
 clear k o k0 hbx hw0 hb0 hks
 go_enter Tryz.func15,Tryz.ntmps15
 go_wp2_with (first
  | (go_at_call 73;rw [<- HW0.out];(with_reducible refine cr.mono ?_);rintro e w1 ⟨ds,hd,A,d,rfl,hrow,hb1⟩;obtain ⟨ts,hts⟩ : ∃ ts,(List.filter (fun k : CutV => k.s.2.2.2 == order) ds) = ts := ⟨_,rfl⟩;rw [hts] at hrow;rw [hts];obtain ⟨N,hN⟩ : ∃ N,List.length ts = N := ⟨_,rfl⟩;rw [hN] at hrow;rw [hN]))
 obtain ⟨hNl,hsub,hll⟩ := HLEN.out ds hd
 rw [hts] at hNl hsub hll
 rw [hN] at hNl
 have hsl := xkb hrow
 have HSUB := hidb hsub
 have HLL := hidb hll
 have HNE := hidb hN
 have HTS := hidb hts
 have HD := hidb hd
 have HB1 := hidb hb1
 have hz1s := hb1.size
 have HSL : Hid (∀ W,Below w1.heap.size w1 W -> Sl W W.heap.size A N (ts.map pv)) := hidb (fun W hb => (hsl.below hb).more hb.size)
 clear hsub hll hN hts hd hb1 hsl hrow cr HLEN
 go_loopw [5,7,12] (fun s5 _ s12 wr => ∃ (j : Nat) (A' : Option Addr) (m' c' : Nat),s12 = .int .i64 j /\ s5 = .slice A' m' c' /\ j <= N /\ m' <= j /\ Hid (ReadSt w1 wr 49 4 (Int × Int × Int × Int) scells ts (fun k => [k.s]) j A' m' c')) (fun _ _ s12 _ => (N - intOf s12).toNat)
 case atStart => exact ⟨0,none,0,0,rfl,rfl,by omega,by omega,hidb (ReadSt.start _ _ _ _ _ _ _)⟩
 case round =>
  obtain ⟨j,A',m',c',rfl,rfl,hj,hm',HR⟩ := hrel
  by_cases hlt : j < N
  ·obtain ⟨b,off,u,rfl,_,hx,hc⟩ := (HSL.out wr HR.out.bel).at_ hlt
   obtain ⟨q,hq,rfl⟩ : ∃ q,ts[j]? = some q /\ pv q = u := by
    rw [List.getElem?_map] at hx
    exact Option.map_eq_some_iff.1 hx
   have hqk := HSUB.out q (List.mem_of_getElem? hq)
   have hcq := HCI.out wr (HB1.out.trans (HR.out.bel.mono HB1.out.size)) q hqk
   have d0 := hcq.c0
   have d1 := hcq.c1
   have d2 := hcq.c2
   have d3 := hcq.c3
   have hj0 : (0 : Int) <= (j : Int) := by omega
   have hj1 : (j : Int) < (N : Int) := by omega
   have HQ := hidb hq
   unfold pv at hc
   obtain ⟨⟨s1,s2,s3,s4⟩,hqs⟩ : ∃ s,q.s = s := ⟨_,rfl⟩
   rw [hqs] at d0 d1 d2 d3
   simp only at d0 d1 d2 d3
   have HST : Hid (∀ w2 w3 A3 c3,Below wr.heap.size wr w2 -> w3.ownsRow w1.heap.size 49 4 (.slice A3 (m' + 1) c3) (m' + 1) (cellsAll scells ((ts.take j).flatMap (fun k => [k.s])) ++ scells (s1,s2,s3,s4)) -> w2.grownBy w3 (Value.slice A' m' c').ownBlock -> ReadSt w1 w3 49 4 (Int × Int × Int × Int) scells ts (fun k => [k.s]) (j + 1) A3 (m' + 1) c3) := hidb (fun w2 w3 A3 c3 hb hr hg => HR.out.step HQ.out hb rfl (by rw [hqs,xx6];exact hr) hg)
   have hsz := HR.out.bel.size
   have HBA : Hid (Below wr.heap.size wr (wr.alloc (.cells (scells (s1,s2,s3,s4)).toArray 49))) := hidb ((Below.refl _ _).alloc (Nat.le_refl _) _)
   clear hx hq hqs hcq
   go_wp2_with (first
    | (at_builtin;refine wpList_append_own _ rfl _ _ 30 rfl w1.heap.size 49 i0 (.agg #[.int .i64 0,.int .i64 0,.int .i64 0,.int .i64 0]) 4 32 Tryz.underlying30 hi hz0 hz1 hz2 rfl (by decide) _ m' _ rfl (by exact xqk HR.out.row HBA.out) ⟨wr.heap.size,0,none⟩ 1 1 (scells (s1,s2,s3,s4)) rfl rfl (xxz wr (scells (s1,s2,s3,s4)) _ _ rfl) (xQ7 _) (by unfold maxLen;omega) (by omega) (by exact Nat.le_trans hsz HBA.out.size) ?_;intro v3 w3 hown3 hg3 _;obtain ⟨A3,c3,rfl⟩ := xj5 hown3;have HR3 := hidb (HST.out _ w3 A3 c3 HBA.out hown3 hg3);clear hown3 hg3))
   go_roundw
   case rel => exact ⟨j + 1,A3,m' + 1,c3,by go_num,rfl,by omega,by omega,HR3⟩
   case measure => simp [intOf];omega
  ·obtain rfl : j = N := by omega
   have P : Hid (∃ ds,InOrderP v.ks ds /\ OwnSpansC w ((ds.filter (fun k => k.s.2.2.2 == order)).map (·.s)) (.returned (.slice A' m' c')) wr) := hidb (by
    have h1 := HR.out.row
    have h2 := HR.out.len
    have e9 : (ts.take j).flatMap (fun k => [k.s]) = ts.map (·.s) := by
     rw [List.take_of_length_le (by rw [HNE.out];exact Nat.le_refl _)]
     exact flat_one ts
    rw [e9] at h1 h2
    refine ⟨ds,HD.out,A',c',?_,?_,?_⟩
    ·rw [HTS.out,h2]
    ·rw [HTS.out,h2]
     exact xxb h1 (by have := HB0.out.size;have := HB1.out.size;omega)
    ·exact HB0.out.trans ((HB1.out.trans (HR.out.bel.mono HB1.out.size)).mono HB0.out.size))
   go_wp2
   go_ret
   exact P.out
set_option maxRecDepth 100000 in
theorem ykw {w : World} {Sh : Nat -> Prop} {p hp ap g mb n m : Nat} {D : DataW Unit} {v : PoolW} (k : PlAt w Sh p hp ap g mb n m D v) (o : PlOk n m v) (_ : Unit) :
  Calls Tryz.prog 22 #[.pointer (some ⟨p,0,none⟩)] w (Reads9 w v.ks (fun _ => true) outK) := by
 have cr : Calls Tryz.prog 73 #[.pointer (some ⟨p,0,none⟩),.func (.func 81) #[] #[]] w (Rising w v.ks (fun _ => true)) :=
  xz7 k o 81 #[] _ (fun W2 t hb2 ht c hc => r2_all c t W2 ((k.cuts c hc).below hb2) ht)
 obtain ⟨_,hks⟩ := o.starts k.hp_.ok
 have HLEN : Hid (∀ ds,InOrderP v.ks ds -> (ds.filter (fun _ => true)).length <= 1024 /\ (∀ c ∈ ds.filter (fun _ => true),c ∈ v.ks) /\ ∀ c ∈ ds.filter (fun _ => true),c.l.length <= 65536) := hidb (fun ds hd => by
  have hp1 : ds.Perm v.ks := (List.perm_ext_iff_of_nodup (xqc hd.1) (xqc o.ids)).2 hd.2.1
  have hl : (ds.filter (fun _ => true)).length <= ds.length := List.length_filter_le _ _
  have hm : ∀ c ∈ ds.filter (fun _ => true),c ∈ v.ks := fun c hc => (hd.2.1 c).1 (List.mem_filter.1 hc).1
  exact ⟨by rw [hp1.length_eq] at hl;omega,hm,fun c hc => (xqs (o.lst c (hm c hc)) (by rw [k.ar.hlen];exact k.ar.small)).1⟩)
 have HCI : Hid (∀ W,Below w.heap.size w W -> ∀ c ∈ v.ks,W.cell? ⟨p,1,none⟩ = some (.pointer (some ⟨ap,0,none⟩)) /\ Calls Tryz.prog 77 #[.pointer (some ⟨c.b,0,none⟩),.pointer (some ⟨ap,0,none⟩)] W (InIs W c.l) /\ Calls Tryz.prog 83 #[.pointer (some ⟨c.b,0,none⟩)] W (OwnInts W (pBlocks c.s))) := hidb (fun W hb c hc => by
  obtain ⟨h1,h2,h3,h4,h5⟩ := o.cutOk k.hp_.ok hc
  exact ⟨(k.below hb).c1,xJ4 (k.below hb) o hc,xzd c W ((k.cuts c hc).below hb) h1 h2 h3 h4 h5⟩)
 have HBL : Hid (∀ c ∈ v.ks,(pBlocks c.s).length <= 16) := hidb (fun c hc => by
  obtain ⟨h1,h2,h3,h4,h5⟩ := o.cutOk k.hp_.ok hc
  rw [xq9,h1]
  exact (xx4 _ h4 h5).2.1)
 obtain ⟨i0,hi,hz0,hz1,hz2⟩ := info_parts xqw
 unfold Rising OwnCuts at cr
 clear k o hks
 go_enter Tryz.func22,Tryz.ntmps22
 go_wp2_with (first
  | (go_at_call 73;(with_reducible refine cr.mono ?_);rintro e w1 ⟨ds,hd,A,d,rfl,hrow,hb1⟩;obtain ⟨ts,hts⟩ : ∃ ts,(List.filter (fun _ : CutV => true) ds) = ts := ⟨_,rfl⟩;rw [hts] at hrow;rw [hts];obtain ⟨N,hN⟩ : ∃ N,List.length ts = N := ⟨_,rfl⟩;rw [hN] at hrow;rw [hN]))
 obtain ⟨hNl,hsub,hll⟩ := HLEN.out ds hd
 rw [hts] at hNl hsub hll
 rw [hN] at hNl
 have hsl := xkb hrow
 have HSUB := hidb hsub
 have HLL := hidb hll
 have HNE := hidb hN
 have HTS := hidb hts
 have HD := hidb hd
 have HB1 := hidb hb1
 have hz1s := hb1.size
 have HSL : Hid (∀ W,Below w1.heap.size w1 W -> Sl W W.heap.size A N (ts.map pv)) := hidb (fun W hb => (hsl.below hb).more hb.size)
 clear hsub hll hN hts hd hb1 hsl hrow cr HLEN
 go_loopw [3,5,6,10] (fun s5 _ _ s12 wr => ∃ (j : Nat) (A' : Option Addr) (m' c' : Nat),s12 = .int .i64 j /\ s5 = .slice A' m' c' /\ j <= N /\ m' <= 16 * j /\ Hid (ReadSt w1 wr 3 1 Int encI1 ts outK j A' m' c')) (fun _ _ _ s12 _ => (N - intOf s12).toNat)
 case atStart => exact ⟨0,none,0,0,rfl,rfl,by omega,by omega,hidb (ReadSt.start _ _ _ _ _ _ _)⟩
 case round =>
  obtain ⟨j,A',m',c',rfl,rfl,hj,hm',HR⟩ := hrel
  by_cases hlt : j < N
  ·obtain ⟨b,off,u,rfl,_,hx,hc⟩ := (HSL.out wr HR.out.bel).at_ hlt
   obtain ⟨q,hq,rfl⟩ : ∃ q,ts[j]? = some q /\ pv q = u := by
    rw [List.getElem?_map] at hx
    exact Option.map_eq_some_iff.1 hx
   have hqk := HSUB.out q (List.mem_of_getElem? hq)
   have hbw := HB1.out.trans (HR.out.bel.mono HB1.out.size)
   obtain ⟨c1,ci,_⟩ := HCI.out wr hbw q hqk
   have hll := HLL.out q (List.mem_of_getElem? hq)
   have hbl := HBL.out q hqk
   have hj0 : (0 : Int) <= (j : Int) := by omega
   have hj1 : (j : Int) < (N : Int) := by omega
   have HQ := hidb hq
   unfold pv at hc
   unfold InIs at ci
   obtain ⟨ml,hml⟩ : ∃ ml,(outK q).length = ml := ⟨_,rfl⟩
   have hml16 : ml <= 16 := by
    rw [<- hml]
    exact Nat.le_trans (List.length_filter_le _ _) hbl
   have HML := hidb hml
   have HST : Hid (∀ w2 w3 A3 c3,Below wr.heap.size wr w2 -> w3.ownsRow w1.heap.size 3 1 (.slice A3 (m' + ml) c3) (m' + ml) (cellsAll encI1 ((ts.take j).flatMap outK) ++ (outK q).map iv) -> w2.grownBy w3 (Value.slice A' m' c').ownBlock -> ReadSt w1 w3 3 1 Int encI1 ts outK (j + 1) A3 (m' + ml) c3) := hidb (fun w2 w3 A3 c3 hb hr hg => HR.out.step HQ.out hb HML.out (by rw [xjt (outK q)];exact hr) hg)
   have hsz := HR.out.bel.size
   have HDEL : Hid (∀ w2 A2 d2,Below wr.heap.size wr w2 -> Sl w2 w2.heap.size A2 q.l.length (q.l.map iv) -> ∀ w3 A3 d3,Below (w2.heap.size + 1) (w2.alloc (.cells #[.slice A2 q.l.length d2] 38)) w3 -> w3.ownsRow (w2.heap.size + 1) 3 1 (.slice A3 (pBlocks q.s).length d3) (pBlocks q.s).length ((pBlocks q.s).map iv) ->
     Calls Tryz.prog 82 #[.slice A3 (pBlocks q.s).length d3,.func (.func 84) #[] #[.pointer (some ⟨w2.heap.size,0,none⟩)]] w3 fun e w4 => ∃ A4 c4,e = .returned (.slice A4 ml c4) /\ Sl w4 w4.heap.size A4 ml ((outK q).map iv) /\ (A4 = none -> ml = 0) /\ Below wr.heap.size wr w4) := hidb (fun w2 A2 d2 hb2 hin w3 A3 d3 hb3 hrow => by
    have hza : (w2.alloc (.cells #[.slice A2 q.l.length d2] 38)).heap.size = w2.heap.size + 1 := by simp
    have hbx : (w2.alloc (.cells #[.slice A2 q.l.length d2] 38)).cell? ⟨w2.heap.size,0,none⟩ = some (.slice A2 q.l.length d2) := World.cell?_alloc_at _ _ _ 0 (by simp)
    have hina : Sl (w2.alloc (.cells #[.slice A2 q.l.length d2] 38)) (w2.heap.size + 1) A2 q.l.length (q.l.map iv) := (hin.alloc (Nat.le_refl _) _).more (Nat.le_succ _)
    have hrb : ∀ b,(Value.slice A3 (pBlocks q.s).length d3).ownBlock = some b -> w2.heap.size + 1 <= b := fun b hb => (hrow.lt b hb).1
    refine (ykv (fun x => decide (x ∈ q.l)) w2.heap.size A3 (pBlocks q.s).length d3 (pBlocks q.s) w3 (w2.heap.size + 1) hrow rfl (by omega) (fun W hg x hx => ?_)).mono ?_
    ·have hbW : Below (w2.heap.size + 1) (w2.alloc (.cells #[.slice A2 q.l.length d2] 38)) W := hb3.grown hg (by have := hb3.size;omega) hrb
     exact q_out2 x w2.heap.size A2 q.l.length d2 q.l W ((hbW.cell (p := ⟨w2.heap.size,0,none⟩) (by show w2.heap.size < _;omega)).trans hbx) ((hina.below hbW).more (by have := hbW.size;omega)) (by omega)
    ·rintro e w4 ⟨A4,c4,rfl,hrow4,hg4⟩
     have e4 : ((pBlocks q.s).filter fun x => !(fun x => decide (x ∈ q.l)) x) = outK q := rfl
     rw [e4,HML.out] at hrow4
     refine ⟨A4,c4,by rw [e4,HML.out],Sl.of_own hrow4,fun h => ?_,?_⟩
     ·rcases hrow4.2 with ⟨_,h0⟩ | ⟨g',_,_,h1,_⟩
      ·exact h0
      ·injection h1 with h1;rw [h] at h1;cases h1
     ·have hb5 : Below (w2.heap.size + 1) (w2.alloc (.cells #[.slice A2 q.l.length d2] 38)) w4 := hb3.grown hg4 (by have := hb3.size;omega) hrb
      exact (hb2.alloc hb2.size _).trans (hb5.mono (by have := hb2.size;omega)))
   have HBK : Hid (∀ w2 o,Below wr.heap.size wr w2 -> Calls Tryz.prog 83 #[.pointer (some ⟨q.b,0,none⟩)] (w2.alloc o) (OwnInts (w2.alloc o) (pBlocks q.s))) := hidb (fun w2 o hb => (HCI.out (w2.alloc o) (hbw.trans ((hb.alloc hb.size o).mono hbw.size)) q hqk).2.2)
   unfold OwnInts at HBK
   clear hx hq hml hbl
   go_wp2_with (first
    | (go_at_call 77;(with_reducible refine ci.mono ?_);rintro e w2 ⟨A2,d2,rfl,q3,q4,hb2,q6⟩;have hb2s := hb2.size;have cbk := HBK.out w2 (.cells #[.slice A2 q.l.length d2] 38) hb2;have HQ3 := hidb q3;clear q3 q4 q6)
    | (go_at_call 83;(with_reducible refine cbk.mono ?_);rintro e w3 ⟨A3,d3,rfl,hown3,hb3⟩;(rw [show (w2.alloc (.cells #[.slice A2 q.l.length d2] 38)).heap.size = w2.heap.size + 1 by simp] at hown3 hb3);have cdl := HDEL.out w2 A2 d2 hb2 HQ3.out w3 A3 d3 hb3 hown3;clear hown3 hb3)
    | (go_at_call 82;(with_reducible refine cdl.mono ?_);rintro e w4 ⟨A4,d4,rfl,p3,p4,hb4⟩;have hb4s := hb4.size)
    | (at_builtin;refine xqf w4 rfl _ _ 38 rfl w1.heap.size 3 i0 (.int .i64 0) 1 8 Tryz.underlying38 hi hz0 hz1 hz2 rfl (by decide) _ m' _ rfl (by exact xqk HR.out.row hb4) (by omega) A4 ml d4 ((outK q).map iv) rfl (by rw [List.length_map,HML.out,Nat.mul_one]) (fun h => p4 h) (xwa p3) (xJ3 _) (by unfold maxLen;omega) (by omega) ?_;intro A5 c5 w5 hown5 hg5;have HR5 := hidb (HST.out w4 w5 A5 c5 hb4 hown5 hg5);clear hown5 hg5))
   go_roundw
   case rel => exact ⟨j + 1,A5,m' + ml,c5,by go_num,rfl,by omega,by omega,HR5⟩
   case measure => simp [intOf];omega
  ·obtain rfl : j = N := by omega
   have P : Hid (Reads9 w v.ks (fun _ => true) outK (.returned (.slice A' m' c')) wr) := hidb (by
    have h1 := HR.out.row
    have h2 := HR.out.len
    rw [List.take_of_length_le (by rw [HNE.out];exact Nat.le_refl _)] at h1 h2
    rw [xjt] at h1
    refine ⟨ds,HD.out,A',c',?_,?_,?_⟩
    ·rw [HTS.out,h2]
    ·rw [HTS.out,h2]
     exact xxb h1 (by have := HB1.out.size;omega)
    ·exact HB1.out.trans (HR.out.bel.mono HB1.out.size))
   go_wp2
   go_ret
   exact P.out
end Go.Proofs.YtlcdgmjinhbncaaGreat
