import Derived.Shelf.Sort.Plain
import Derived.Shelf.Slices.In.SortNone
import Derived.Test.YtlcdgmjinhbncaaGreatProg
import Derived.Test.YtlcdgmjinhbncaaGreatRCacheTake
import Derived.Test.YtlcdgmjinhbncaaGreatRPoolAdd
import Derived.RangeFuncBox
import Derived.Deep.Cut
import Derived.Deep.CutRange
import Derived.Deep.RegionLaw
import Derived.Test.YtlcdgmjinhbncaaGreatRPoolList
namespace Go.Proofs
open Go.Shelf
open Go.Sort Go.RowKit in
open Go.RowKit Go.Sort in
set_option linter.unusedVariables false
end Go.Proofs
namespace Go.Proofs.YtlcdgmjinhbncaaGreat
open Go.RowKit
set_option linter.unusedVariables false
theorem xkd {α : Type} (f : α -> Int) : ∀ {l m : List α},l.Pairwise (fun a b => f a < f b) -> m.Pairwise (fun a b => f a < f b) -> (∀ x,x ∈ l ↔ x ∈ m) -> l = m
 | [],[],_,_,_ => rfl
 | [],b :: m,_,_,h => absurd ((h b).2 (List.mem_cons_self ..)) (by simp)
 | a :: l,[],_,_,h => absurd ((h a).1 (List.mem_cons_self ..)) (by simp)
 | a :: l,b :: m,h1,h2,h => by
  obtain ⟨p1,p2⟩ := List.pairwise_cons.1 h1
  obtain ⟨q1,q2⟩ := List.pairwise_cons.1 h2
  have e : a = b := by
   rcases List.mem_cons.1 ((h a).1 (List.mem_cons_self ..)) with e | e
   ·exact e
   ·rcases List.mem_cons.1 ((h b).2 (List.mem_cons_self ..)) with e' | e'
    ·exact e'.symm
    ·have := p1 b e'
     have := q1 a e
     omega
  subst e
  rw [xkd f p2 q2 fun x => ⟨fun hx => ?_,fun hx => ?_⟩]
  ·rcases List.mem_cons.1 ((h x).1 (List.mem_cons_of_mem _ hx)) with e | e
   ·subst e;have := p1 x hx;omega
   ·exact e
  ·rcases List.mem_cons.1 ((h x).2 (List.mem_cons_of_mem _ hx)) with e | e
   ·subst e;have := q1 x hx;omega
   ·exact e
section
variable {w W W' : World} {p hp : Nat} {S S' : Nat -> Prop} {v v' : PoolW} {k k' : Nat} {pages : Int}
theorem PoolSt.strict (s : PoolSt w W p hp S v k pages) {ds : List CutV} (h : InOrderP v.ks ds) : (ds.map CutV.plain).Pairwise (fun a b => a.1.2.1 < b.1.2.1) := by
 obtain ⟨Sh,ap,g,mb,n,m,D,q1,q2,q3⟩ := s.pl
 refine List.pairwise_map.2 (List.pairwise_iff_getElem.2 fun i j hi hj hij => ?_)
 have h1 := List.pairwise_iff_getElem.1 h.2.2 i j hi hj hij
 have h2 := List.pairwise_iff_getElem.1 (List.pairwise_map.1 h.1) i j hi hj hij
 have h3 : ds[i].s.2.1 ≠ ds[j].s.2.1 := fun e => h2 (by rw [xXn q2 q1.hp_.ok ((h.2.1 _).1 (List.getElem_mem hi)) ((h.2.1 _).1 (List.getElem_mem hj)) e])
 show ds[i].s.2.1 < ds[j].s.2.1
 omega
end
theorem sum_leC {l : List Nat} {m : Nat} (h : ∀ x ∈ l,x <= m) : l.sum <= l.length * m := by
 induction l with
 | nil => simp
 | cons a l ih =>
  have h1 := h a (List.mem_cons_self ..)
  have h2 := ih fun x hx => h x (List.mem_cons_of_mem _ hx)
  simp only [List.sum_cons,List.length_cons,Nat.add_mul,Nat.one_mul]
  omega
theorem list_few {w W : World} {p hp : Nat} {S : Nat -> Prop} {v : PoolW} {k : Nat} {pages : Int} (s : PoolSt w W p hp S v k pages) {ds : List CutV} (h : InOrderP v.ks ds) (o : Int) : ((ds.filter (fun k => k.s.2.2.2 == o)).flatMap (·.l)).length <= 9223372036854775806 := by
 obtain ⟨Sh,ap,g,mb,n,m,D,q1,q2,q3⟩ := s.pl
 obtain ⟨_,hks⟩ := q2.starts q1.hp_.ok
 have hp1 : ds.Perm v.ks := (List.perm_ext_iff_of_nodup (xqc h.1) (xqc q2.ids)).2 h.2.1
 have hl : (ds.filter (fun k => k.s.2.2.2 == o)).length <= ds.length := List.length_filter_le _ _
 have he := hp1.length_eq
 rw [List.length_flatMap]
 have h5 := sum_leC (l := (ds.filter (fun k => k.s.2.2.2 == o)).map fun c => c.l.length) (m := 65536) fun x hx => by
  obtain ⟨c,hc,rfl⟩ := List.mem_map.1 hx
  exact (xqs (q2.lst c ((h.2.1 c).1 (List.mem_filter.1 hc).1)) (by rw [q1.ar.hlen];exact q1.ar.small)).1
 rw [List.length_map] at h5
 have h6 : (ds.filter (fun k => k.s.2.2.2 == o)).length * 65536 <= 1024 * 65536 := Nat.mul_le_mul_right _ (by omega)
 omega
def Room (cs : List CL) : Prop := ∀ (i : Nat) d,cs[i]? = some d -> d.2.length * pSize ((i % 4 : Nat) : Int) <= 256
section
variable {w W : World} {S : Nat -> Prop} {v : PoolW} {cs : List CL} {k : Nat} {pages : Int}
end
def cutsAt (l : PL) (is : List Nat) : PL := is.filterMap fun i => l[i]?
theorem xjj (l : PL) (order : Int) (hst : ∀ c ∈ l,c.1.2.1 < 1024) (hinj : ∀ a ∈ l,∀ b ∈ l,a.1.2.1 = b.1.2.1 -> a = b) : ∀ (k : Nat) (f : Int),1024 <= (k : Int) + f ->
  (∀ c,c ∈ cutsAt l (pSpansF l order k f) ↔ c ∈ l /\ c.1.2.2.2 = order /\ f <= c.1.2.1) /\ (cutsAt l (pSpansF l order k f)).Pairwise (fun a b => a.1.2.1 < b.1.2.1) /\ (∀ (j i : Nat),(pSpansF l order k f)[j]? = some i -> i < l.length /\ (cutsAt l (pSpansF l order k f))[j]? = l[i]?) /\ (cutsAt l (pSpansF l order k f)).length = (pSpansF l order k f).length
 | 0,f,h => by
  refine ⟨fun c => ⟨fun hc => (by cases hc),fun ⟨hc,_,h2⟩ => ?_⟩,List.Pairwise.nil,fun j i hj => (by cases hj),rfl⟩
  have := hst c hc
  omega
 | k + 1,f,h => by
  unfold pSpansF
  rcases xz9 l order f false with ⟨e,hn⟩ | ⟨i,c,e,hc,hf,hm⟩
  ·rw [e]
   simp only
   refine ⟨fun c => ⟨fun hc => (by cases hc),fun ⟨hc,h1,h2⟩ => ?_⟩,List.Pairwise.nil,fun j i hj => (by cases hj),rfl⟩
   have := hn c hc
   unfold pFits at this
   simp [h1,h2] at this
  ·rw [e]
   simp only
   rw [hc]
   simp only
   have hcm := List.mem_of_getElem? hc
   have hf2 : c.1.2.2.2 = order /\ f <= c.1.2.1 := by
    unfold pFits at hf
    simpa using hf
   obtain ⟨q1,q2,q3,q4⟩ := xjj l order hst hinj k (c.1.2.1 + 1) (by omega)
   have ex : cutsAt l (i :: pSpansF l order k (c.1.2.1 + 1)) = c :: cutsAt l (pSpansF l order k (c.1.2.1 + 1)) := by
    unfold cutsAt
    rw [List.filterMap_cons,hc]
   rw [ex]
   refine ⟨fun d => ?_,List.pairwise_cons.2 ⟨fun d hd => ?_,q2⟩,fun j i' hj => ?_,by rw [List.length_cons,List.length_cons,q4]⟩
   ·rw [List.mem_cons,q1]
    constructor
    ·rintro (rfl | ⟨h1,h2,h3⟩)
     ·exact ⟨hcm,hf2⟩
     ·exact ⟨h1,h2,by omega⟩
    ·rintro ⟨h1,h2,h3⟩
     have h4 := hm d h1 (by unfold pFits;simp [h2,h3])
     by_cases he : c.1.2.1 = d.1.2.1
     ·exact Or.inl (hinj c hcm d h1 he).symm
     ·exact Or.inr ⟨h1,h2,by omega⟩
   ·have := ((q1 d).1 hd).2.2
    omega
   ·cases j with
    | zero =>
     obtain rfl := Option.some.inj hj
     exact ⟨(List.getElem?_eq_some_iff.1 hc).1,hc.symm⟩
    | succ j => exact q3 j i' hj
theorem xV7 (l : PL) : ∀ is : List Nat,is.flatMap (lAt l) = (cutsAt l is).flatMap (·.2)
 | [] => rfl
 | i :: is => by
  rw [List.flatMap_cons,xV7 l is]
  unfold cutsAt
  rw [List.filterMap_cons]
  cases h : l[i]? with
  | none => simp [lAt,h]
  | some c => simp [lAt,h]
theorem yqs {α : Type} (p : α -> Bool) : ∀ l : List α,l.find? p = (l.findIdx? p).bind fun i => l[i]?
 | [] => rfl
 | a :: l => by
  rw [List.find?_cons,List.findIdx?_cons]
  cases p a with
  | true => rfl
  | false =>
   simp only [Bool.false_eq_true,if_false]
   rw [yqs p l]
   cases l.findIdx? p <;> rfl
theorem xWv (l : PL) (x : Int) : pOrder l x = match l.find? (fun c => decide (x ∈ pBlocks c.1)) with
  | none => -1
  | some c => if x ∈ c.2 then -1 else c.1.2.2.2 := by
 have h := yqs (fun c : (Int × Int × Int × Int) × List Int => decide (x ∈ pBlocks c.1)) l
 unfold pOrder pOf
 cases e : l.findIdx? (fun c => decide (x ∈ pBlocks c.1)) with
 | none =>
  rw [e] at h
  rw [h]
  rfl
 | some i =>
  rw [e] at h
  rw [h]
  rfl
theorem yzu (ks : List CutV) (x : Int) : orderP ks x = pOrder (ks.map CutV.plain) x := by
 rw [xWv,List.find?_map]
 unfold orderP cutAtP
 have : ((fun c : (Int × Int × Int × Int) × List Int => decide (x ∈ pBlocks c.1)) ∘ CutV.plain) = fun k : CutV => decide (x ∈ pBlocks k.s) := rfl
 rw [this]
 cases ks.find? (fun k => decide (x ∈ pBlocks k.s)) <;> rfl
section
variable {w W : World} {p hp : Nat} {S : Nat -> Prop} {v : PoolW} {k : Nat} {pages : Int}
theorem POk.starts {q : PoolV} (o : POk q) : (∀ c ∈ q.l,c.1.2.1 < 1024) /\ ∀ a ∈ q.l,∀ b ∈ q.l,a.1.2.1 = b.1.2.1 -> a = b := by
 refine ⟨fun c hc => ?_,fun a ha b hb e => ?_⟩
 ·have h1 := o.hok.start (o.mem c hc)
  have h2 := o.hok.p1
  omega
 ·have h1 := o.hok.start (o.mem a ha)
  have h2 := o.hok.start (o.mem b hb)
  have h3 := o.hok.apart (o.mem a ha) (o.mem b hb) (p := a.1.2.1) ⟨Int.le_refl _,by omega⟩ ⟨by omega,by omega⟩
  obtain ⟨i,hi⟩ := List.getElem?_of_mem ha
  obtain ⟨j,hj⟩ := List.getElem?_of_mem hb
  have := xV0 o.ids hi hj (by rw [h3])
  subst this
  rw [hi] at hj
  exact Option.some.inj hj
theorem PoolSt.spans_same (s : PoolSt w W p hp S v k pages) {ds : List CutV} (h : InOrderP v.ks ds) (o : Int) : cutsAt v.plain.l (pSpans v.plain.l o) = (ds.filter fun k => k.s.2.2.2 == o).map CutV.plain := by
 obtain ⟨h1,h2⟩ := s.pok.starts
 obtain ⟨q1,q2,_⟩ := xjj v.plain.l o h1 h2 1025 0 (by omega)
 have hstrict := s.strict h
 refine xkd (fun c => c.1.2.1) q2 ?_ fun c => ?_
 ·rw [List.pairwise_map] at hstrict ⊢
  exact hstrict.filter _
 ·rw [show cutsAt v.plain.l (pSpans v.plain.l o) = cutsAt v.plain.l (pSpansF v.plain.l o 1025 0) from rfl,q1,List.mem_map]
  constructor
  ·rintro ⟨hc,ho,_⟩
   obtain ⟨d,hd,rfl⟩ := List.mem_map.1 (show c ∈ v.ks.map CutV.plain from hc)
   have ho2 : d.s.2.2.2 = o := ho
   exact ⟨d,List.mem_filter.2 ⟨(h.2.1 d).2 hd,by simpa using ho2⟩,rfl⟩
  ·rintro ⟨d,hd,rfl⟩
   obtain ⟨hd1,hd2⟩ := List.mem_filter.1 hd
   have hdm : d ∈ v.ks := (h.2.1 d).1 hd1
   have hm : d.plain ∈ v.plain.l := List.mem_map.2 ⟨d,hdm,rfl⟩
   have ho2 : d.s.2.2.2 = o := by simpa using hd2
   exact ⟨hm,ho2,(s.pok.hok.start (s.pok.mem _ hm)).1⟩
theorem PoolSt.spans_at (s : PoolSt w W p hp S v k pages) {ds : List CutV} (h : InOrderP v.ks ds) (o : Int) : (pSpans v.plain.l o).length = (ds.filter fun k => k.s.2.2.2 == o).length /\ ∀ (j i : Nat),(pSpans v.plain.l o)[j]? = some i -> ∃ t,(ds.filter fun k => k.s.2.2.2 == o)[j]? = some t /\ v.plain.l[i]? = some t.plain := by
 obtain ⟨h1,h2⟩ := s.pok.starts
 obtain ⟨_,_,q3,q4⟩ := xjj v.plain.l o h1 h2 1025 0 (by omega)
 have e := s.spans_same h o
 have e' : cutsAt v.plain.l (pSpansF v.plain.l o 1025 0) = (ds.filter fun k => k.s.2.2.2 == o).map CutV.plain := e
 rw [e'] at q3 q4
 rw [List.length_map] at q4
 refine ⟨q4.symm,fun j i hj => ?_⟩
 obtain ⟨hi,h3⟩ := q3 j i hj
 rw [List.getElem?_eq_getElem hi,List.getElem?_map] at h3
 obtain ⟨t,ht,e2⟩ := Option.map_eq_some_iff.1 h3
 exact ⟨t,ht,by rw [List.getElem?_eq_getElem hi,<- e2]⟩
theorem PoolSt.list_same (s : PoolSt w W p hp S v k pages) {ds : List CutV} (h : InOrderP v.ks ds) (o : Int) : (ds.filter fun k => k.s.2.2.2 == o).flatMap (·.l) = pList v.plain.l o := by
 unfold pList
 rw [xV7,s.spans_same h o,List.flatMap_map]
 rfl
theorem yzv {q : PoolV} (o : POk q) (x : Int) : pIsOut q.l x = true ↔ ∃ c ∈ q.l,x ∈ pBlocks c.1 /\ x ∉ c.2 := by
 unfold pIsOut
 cases e : pOf q.l x with
 | none =>
  simp only
  refine ⟨fun h => (by cases h),fun ⟨c,hc,hx,_⟩ => ?_⟩
  obtain ⟨i,hi⟩ := List.getElem?_of_mem hc
  rw [o.of_at hi hx] at e
  cases e
 | some i =>
  obtain ⟨c,hc,hx⟩ := xwc e
  simp only
  rw [hc]
  simp only [Bool.not_eq_true',decide_eq_false_iff_not]
  refine ⟨fun h => ⟨c,List.mem_of_getElem? hc,hx,h⟩,fun ⟨d,hd,hxd,hn⟩ => ?_⟩
  rw [o.one_span (List.mem_of_getElem? hc) hd hx hxd]
  exact hn
theorem yzw {s : Int × Int × Int × Int} {x : Int} (h : x ∈ pBlocks s) (h0 : 0 <= s.2.1) : ∃ i : Nat,x = ((16 * i : Nat) : Int) := by
 obtain ⟨j,hj,rfl⟩ := List.mem_map.1 h
 refine ⟨4 * s.2.1.toNat + j * 2 ^ s.2.2.2.toNat,?_⟩
 have : j * pSize s.2.2.2 = 16 * (j * 2 ^ s.2.2.2.toNat) := by
  unfold pSize
  rw [Nat.mul_comm 16,<- Nat.mul_assoc,Nat.mul_comm]
 rw [this]
 omega
theorem xV8 (s : Int × Int × Int × Int) : (pBlocks s).Pairwise (· < ·) := by
 unfold pBlocks
 refine List.pairwise_map.2 (List.Pairwise.imp (fun {a b} (h : a < b) => ?_) List.pairwise_lt_range)
 have h1 : a * pSize s.2.2.2 < b * pSize s.2.2.2 := Nat.mul_lt_mul_of_pos_right h (xzq _)
 omega
theorem PoolSt.out_same (s : PoolSt w W p hp S v k pages) {ds : List CutV} (h : InOrderP v.ks ds) : (ds.filter fun _ => true).flatMap outK = pOut v.plain.l (4 * pages.toNat) := by
 have o := s.pok
 have hpg := s.pg
 have hp0 := o.hok.p0
 have e : (ds.filter fun _ => true) = ds := List.filter_eq_self.2 fun _ _ => rfl
 rw [e]
 have hm : ∀ c ∈ ds,c.plain ∈ v.plain.l := fun c hc => List.mem_map.2 ⟨c,(h.2.1 c).1 hc,rfl⟩
 refine xkd (fun x => x) ?_ ?_ fun x => ?_
 ·rw [List.pairwise_flatMap]
  refine ⟨fun c hc => (xV8 c.s).filter _,?_⟩
  have h1 := s.strict h
  rw [List.pairwise_map] at h1
  refine h1.imp_of_mem fun {a b} ha hb hlt x hx y hy => ?_
  have hxa := (List.mem_filter.1 hx).1
  have hyb := (List.mem_filter.1 hy).1
  obtain ⟨f1,f2,f3⟩ := o.four _ (hm a ha)
  obtain ⟨g1,g2,g3⟩ := o.four _ (hm b hb)
  have i1 := xz8 hxa f1 ⟨f2,f3⟩
  have i2 := xz8 hyb g1 ⟨g2,g3⟩
  have hsz := xzq a.s.2.2.2
  have hne : a.plain.1 ≠ b.plain.1 := fun e => by rw [e] at hlt;omega
  have hsd := o.hok.side (o.mem _ (hm a ha)) (o.mem _ (hm b hb)) hne
  have hl2 : a.s.2.1 < b.s.2.1 := hlt
  have hsd2 : a.s.2.1 + a.s.2.2.1 <= b.s.2.1 \/ b.s.2.1 + b.s.2.2.1 <= a.s.2.1 := hsd
  have f1' : a.s.2.2.1 = 4 := f1
  have g1' : b.s.2.2.1 = 4 := g1
  omega
 ·unfold pOut
  refine List.Pairwise.filter _ (List.pairwise_map.2 (List.Pairwise.imp (fun {a b} (h : a < b) => ?_) List.pairwise_lt_range))
  omega
 ·have hr : x ∈ pOut v.plain.l (4 * pages.toNat) ↔ (∃ i,i < 4 * pages.toNat /\ ((16 * i : Nat) : Int) = x) /\ pIsOut v.plain.l x = true := by
   unfold pOut
   rw [List.mem_filter,List.mem_map]
   constructor
   ·rintro ⟨⟨i,hi,e⟩,h2⟩
    exact ⟨⟨i,List.mem_range.1 hi,e⟩,h2⟩
   ·rintro ⟨⟨i,hi,e⟩,h2⟩
    exact ⟨⟨i,List.mem_range.2 hi,e⟩,h2⟩
  rw [hr,yzv o,List.mem_flatMap]
  constructor
  ·rintro ⟨c,hc,hx⟩
   obtain ⟨h1,h2⟩ := List.mem_filter.1 hx
   refine ⟨?_,c.plain,hm c hc,h1,by show x ∉ c.l;simpa using h2⟩
   obtain ⟨f1,f2,f3⟩ := o.four _ (hm c hc)
   have i1 := xz8 h1 f1 ⟨f2,f3⟩
   have hst := o.hok.start (o.mem _ (hm c hc))
   obtain ⟨i,rfl⟩ := yzw h1 hst.1
   have hsz := xzq c.s.2.2.2
   have hst2 : c.s.2.1 + c.s.2.2.1 <= v.h.pages := hst.2.2
   have f1' : c.s.2.2.1 = 4 := f1
   exact ⟨i,by omega,rfl⟩
  ·rintro ⟨_,c,hc,h1,h2⟩
   obtain ⟨k,hk,rfl⟩ := List.mem_map.1 (show c ∈ v.ks.map CutV.plain from hc)
   exact ⟨k,(h.2.1 k).2 hk,List.mem_filter.2 ⟨h1,by have h3 : x ∉ k.l := h2;simpa using h3⟩⟩
end
end Go.Proofs.YtlcdgmjinhbncaaGreat
namespace Go.Proofs.YtlcdgmjinhbncaaGreat
open Go.RowKit Go.Maps
set_option linter.unusedVariables false
theorem span_atQ {W : World} {base c : Nat} {A : Option Addr} {l : List (Int × Int × Int × Int)} (h : W.ownsRow base 49 4 (.slice A l.length c) l.length (cellsAll scells l)) {i : Nat} (hi : i < l.length) :
  ∃ b off s,A = some ⟨b,off,none⟩ /\ l[i]? = some s /\ b < W.heap.size /\ W.cell? ⟨b,off + i * 4,none⟩ = some (.int .i64 s.1) /\ W.cell? ⟨b,off + i * 4 + 1,none⟩ = some (.int .i64 s.2.1) /\ W.cell? ⟨b,off + i * 4 + 2,none⟩ = some (.int .i64 s.2.2.1) /\ W.cell? ⟨b,off + i * 4 + 3,none⟩ = some (.int .i64 s.2.2.2) := by
 have hr : Sn W W.heap.size A l.length l := RowOf.of_own xqg h rfl
 obtain ⟨b,off,s,cs,e,hb,hy,_,hc,rfl⟩ := RowOf.at_ hr hi
 exact ⟨b,off,s,e,hy,hb,hc 0 (by decide),hc 1 (by decide),hc 2 (by decide),hc 3 (by decide)⟩
section
variable {w W W' : World} {p hp mb : Nat} {S : Nat -> Prop} {v : PoolW} {k : Nat} {pages : Int} {A A2 A3 : Option Addr} {n c n2 c2 n3 c3 : Nat}
theorem PoIs.rows {P : Nat -> Prop} {q : PoolV} {pg la : Int} {hd : Bool} (h : PoIs W P q (pval pg A n c A2 n2 c2 la A3 n3 c3 hd)) : ∃ ys,HIs W P q.heap (hval q.heap.pages A n c A2 n2 c2 q.heap.last) /\ Cn W P A3 n3 ys /\ ys.map CV.plain = q.l := by
 obtain ⟨B,j,d,B2,j2,d2,B3,j3,d3,ys,e,h1,h2,h3,_⟩ := h
 unfold pval at e
 simp only [Value.agg.injEq,Array.mk.injEq,List.cons.injEq,Value.slice.injEq,Value.int.injEq,Value.bool.injEq,and_true,true_and] at e
 obtain ⟨_,⟨rfl,rfl,rfl⟩,⟨rfl,rfl,rfl⟩,_,⟨rfl,rfl,rfl⟩,_⟩ := e
 exact ⟨ys,h1,h2,h3⟩
theorem HIs.heapParts {P : Nat -> Prop} {h : HeapV} {pg la : Int} (k : HIs W P h (hval pg A n c A2 n2 c2 la)) : n = h.free.length /\ n2 = h.l.length /\ Sl W W.heap.size A n (h.free.map bv) /\ Sn W W.heap.size A2 n2 h.l := by
 obtain ⟨B,d,B2,d2,e,h1,h2,h3,h4,h5,h6,h7,h8,_⟩ := k
 unfold hval at e
 simp only [Value.agg.injEq,Array.mk.injEq,List.cons.injEq,Value.slice.injEq,Value.int.injEq,and_true,true_and] at e
 obtain ⟨_,⟨rfl,rfl,rfl⟩,⟨rfl,rfl,rfl⟩,_⟩ := e
 exact ⟨rfl,rfl,h4,h8⟩
theorem L9.does2 (s : L9 w W p hp mb S v k pages A n c A2 n2 c2 A3 n3 c3) {W1 : World} {u0 u1 u2 u3 u4 u5 : Value} (hb1 : Below W.heap.size W W1) (ht : F6 W1 W.heap.size u0 u1 u2 u3 u4 u5) (hk : k + 1 <= 60000) (a : Act9) (hor : in64 a.order) (hs : Sl w w.heap.size a.A a.len (a.at'.map iv)) (hN : a.len <= 60000) (hid : ∀ i ∈ a.at',in64 i) (la la' : Int) (hd hd' : Bool) (e1 : v.h.last = la) (e2 : v.held = hd) (e3 : (qStep v.plain a).heap.last = la') (e4 : (qStep v.plain a).held = hd') :
  Calls Tryz.prog 14 #[.pointer (some ⟨hp,0,none⟩),.pointer (some ⟨p,0,none⟩),.agg #[.int .i64 pages,.slice A n c,.slice A2 n2 c2,.int .i64 la,.slice A3 n3 c3,.bool hd],.agg #[.int .i64 a.kind,.int .i64 a.order,.bool a.on,.slice a.A a.len a.cap]] W1 fun e w3 => ∃ B j1 d1 B2 j2 d2 B3 j3 d3,e = .returned (.tuple #[.bool true,.agg #[.int .i64 pages,.slice B j1 d1,.slice B2 j2 d2,.int .i64 la',.slice B3 j3 d3,.bool hd']]) /\
   F6 w3 mb (.int .i64 pages) (.slice A n c) (.slice A2 n2 c2) (.int .i64 la) (.slice A3 n3 c3) (.bool hd) /\ F6 w3 W.heap.size u0 u1 u2 u3 u4 u5 /\ mb < W.heap.size /\ W.heap.size < w3.heap.size /\
   Hid (∀ W4,Kept (fun b => W.heap.size = b) w3 W4 -> ∃ S' u,u.plain = qStep v.plain a /\ L9 w (set6 W4 mb (.int .i64 pages) (.slice B j1 d1) (.slice B2 j2 d2) (.int .i64 la') (.slice B3 j3 d3) (.bool hd')) p hp mb S' u (k + 1) pages B j1 d1 B2 j2 d2 B3 j3 d3) := by
 have hlt := s.f6.lt
 have htl := ht.lt
 have hz := hb1.size
 have s1 := s.st.below hb1
 have hSl := s.st.lt
 have hfl : 0 < v.plain.heap.free.length := by
  have := s.st.pok.hok.fl
  omega
 have hpo : PoIs W1 (fun b => ¬ S b /\ mb ≠ b /\ W.heap.size ≠ b) v.plain (pval v.h.pages A n c A2 n2 c2 v.h.last A3 n3 c3 v.held) := ((s.po.apart hfl).weaken (fun b h => ⟨h.1.1,h.1.2,fun e => by have := h.2;omega⟩)).below hb1
 have hwl := s.st.bel.size
 have := yvk (D := fun b => mb ≠ b /\ W.heap.size ≠ b) (fun b hb => by constructor <;> omega) s1 s.cm hk hpo a hor hs hN hid
 unfold pval at this
 rw [s.st.pg,e1,e2] at this
 refine this.mono ?_
 rintro e w3 ⟨mv,rfl,S',u,s',hu,d,hs'⟩
 obtain ⟨B,j1,d1,B2,j2,d2,B3,j3,d3,ys,hmv,_⟩ := id d
 have hpg' : (qStep v.plain a).heap.pages = pages := by rw [<- hu];exact s'.pg
 unfold pval at hmv
 rw [e3,e4,hpg'] at hmv
 subst hmv
 have hf := hs'.f6 (s.f6.below hb1) s.hm
 have hft := hs'.f6 ht (fun c => by have := hSl _ c;omega)
 have hS' : ¬ S' mb := hs'.not (by omega) s.hm
 have hSt : ¬ S' W.heap.size := hs'.not htl (fun c => by have := hSl _ c;omega)
 have hsz := hs'.1.size
 rw [s.st.pg,e1,e2] at hf
 have hu1 : u.h.last = la' := by rw [<- e3,<- hu];rfl
 have hu2 : u.held = hd' := by rw [<- e4,<- hu];rfl
 refine ⟨B,j1,d1,B2,j2,d2,B3,j3,d3,rfl,hf,hft,hlt,by omega,hidb (fun W4 hK4 => ⟨S',u,hu,?_⟩)⟩
 have hK : Kept (fun b => mb = b) W4 (set6 W4 mb (.int .i64 pages) (.slice B j1 d1) (.slice B2 j2 d2) (.int .i64 la') (.slice B3 j3 d3) (.bool hd')) := xx1 (Kept.refl _ _) (Or.inl rfl) _ _ _ _ _ _
 have hle := s.le
 have s4 := s'.kept hK4 (fun b hb e => hSt (e ▸ hb)) (fun b e => by omega)
 exact ⟨s4.kept hK (fun b hb e => hS' (e ▸ hb)) (fun b e => by omega),by rw [hu];exact s.cm.step s.st.pok a,by rw [hu,s'.pg,hu1,hu2];exact ((d.kept hK4 (fun b hb => hb.2.2)).weaken (fun b hb => (⟨hb.1,hb.2.1⟩ : ¬ S' b /\ mb ≠ b))).kept hK (fun b hb => hb.2),by rw [s'.pg,hu1,hu2];exact (hf.kept hK4 (fun e => by omega)).put _ _ _ _ _ _,hS',hle⟩
end
end Go.Proofs.YtlcdgmjinhbncaaGreat
