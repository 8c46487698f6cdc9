import Derived.Test.YtlcdgmjinhbncaaGreatRAppendAt
import Derived.Test.YtlcdgmjinhbncaaGreatRPoolGive
namespace Go.Proofs.YtlcdgmjinhbncaaGreat
open Go.RowKit
set_option linter.unusedVariables false
theorem yzm (p : PoolV) (order : Int) : (pTake p order).1.held = p.held := by
 unfold pTake
 split
 ·rfl
 ·cases pFirst p.l order 0 true with
  | some i =>
   simp only
   cases p.l[i]? <;> rfl
  | none =>
   simp only
   split <;> rfl
section
variable {w W : World} {p hp : Nat} {S : Nat -> Prop} {v : PoolW} {k : Nat} {pages : Int}
end
end Go.Proofs.YtlcdgmjinhbncaaGreat
namespace Go.Proofs.YtlcdgmjinhbncaaGreat
set_option linter.unusedVariables false
section
variable {p : PoolV}
theorem POk.one_span (o : POk p) {c d : (Int × Int × Int × Int) × List Int} (hc : c ∈ p.l) (hd : d ∈ p.l) {x : Int} (h1 : x ∈ pBlocks c.1) (h2 : x ∈ pBlocks d.1) : c = d := by
 obtain ⟨i,hi⟩ := List.getElem?_of_mem hc
 obtain ⟨j,hj⟩ := List.getElem?_of_mem hd
 have e1 := o.of_at hi h1
 have e2 := o.of_at hj h2
 rw [e1] at e2
 obtain rfl := Option.some.inj e2
 rw [hi] at hj
 exact Option.some.inj hj
end
theorem yzn {bl l : List Int} (hb : bl.Nodup) (hl : l.Nodup) (hs : ∀ x ∈ l,x ∈ bl) : (bl.filter fun x => decide (x ∈ l)).length = l.length := by
 have hn : (bl.filter fun x => decide (x ∈ l)).Nodup := hb.sublist List.filter_sublist
 have h1 : ∀ x,x ∈ (bl.filter fun x => decide (x ∈ l)) ↔ x ∈ l := fun x => by
  rw [List.mem_filter]
  constructor
  ·exact fun h => of_decide_eq_true h.2
  ·exact fun h => ⟨hs x h,decide_eq_true h⟩
 have h2 : ∀ {a b : List Int},a.Nodup -> (∀ x ∈ a,x ∈ b) -> a.length <= b.length := by
  intro a
  induction a with
  | nil => intro b _ _;exact Nat.zero_le _
  | cons x a ih =>
   intro b hd hm
   obtain ⟨s,t,rfl⟩ := List.append_of_mem (hm x (List.mem_cons_self ..))
   have hd2 := List.nodup_cons.1 hd
   have := ih (b := s ++ t) hd2.2 fun y hy => by
    have h1 := hm y (List.mem_cons_of_mem _ hy)
    rcases List.mem_append.1 h1 with h | h
    ·exact List.mem_append_left _ h
    ·rcases List.mem_cons.1 h with rfl | h
     ·exact absurd hy hd2.1
     ·exact List.mem_append_right _ h
   rw [List.length_append] at this
   simp only [List.length_cons,List.length_append]
   omega
 exact Nat.le_antisymm (h2 hn fun x hx => (h1 x).1 hx) (h2 hl fun x hx => (h1 x).2 hx)
def Calm (p : PoolV) : Prop := p.held = false -> ∀ c ∈ p.l,pWhole c = false
theorem yvg (h : HeapV) : hDrop h [] = (h,0) := rfl
section
variable {p : PoolV}
theorem yzo (k : Calm p) : pSweep p = p := by
 unfold pSweep
 cases h : p.held with
 | true => simp
 | false =>
  have h1 := k h
  have e1 : p.l.filter pWhole = [] := List.filter_eq_nil_iff.2 fun c hc => by rw [h1 c hc];decide
  have e2 : p.l.filter (fun c => !pWhole c) = p.l := List.filter_eq_self.2 fun c hc => by rw [h1 c hc];rfl
  rw [e1,e2]
  simp only [List.map_nil,yvg,Bool.false_eq_true,if_false]
  rw [<- h]
theorem gGive_eq (k : Calm p) (xs : List Int) : gGive p xs = pGive p xs := by
 unfold gGive pGive
 split
 ·rfl
 ·cases hp : pPuts p.l xs with
  | none => rfl
  | some l =>
   simp only
   by_cases hx : xs = []
   ·subst hx
    obtain rfl : p.l = l := Option.some.inj hp
    rw [if_pos rfl]
    have := yzo k
    rw [this]
   ·rw [if_neg hx]
theorem Calm.sweep (p : PoolV) : Calm (pSweep p) := by
 intro h c hc
 unfold pSweep at h hc
 split at hc
 ·rename_i h2
  rw [if_pos h2] at h
  rw [h2] at h
  cases h
 ·have := (List.mem_filter.1 hc).2
  simpa using this
theorem Calm.give (k : Calm p) (xs : List Int) : Calm (pGive p xs).1 := by
 unfold pGive
 split
 ·exact k
 ·cases pPuts p.l xs with
  | none => exact k
  | some l =>
   simp only
   split
   ·exact k
   ·exact Calm.sweep _
theorem Calm.take (k : Calm p) (o : POk p) (order : Int) : Calm (pTake p order).1 := by
 intro h c hc
 have hh : p.held = false := by rw [<- h];exact (yzm p order).symm
 by_cases ho : order < 0 \/ 3 < order
 ·unfold pTake at hc
  rw [if_pos ho] at hc
  exact k hh c hc
 ·unfold pTake at hc
  rw [if_neg ho] at hc
  split at hc
  ·rename_i i hf
   split at hc
   ·rename_i d hd
    rcases List.mem_or_eq_of_mem_set hc with h1 | rfl
    ·exact k hh c h1
    ·have hdm := List.mem_of_getElem? hd
     have h2 := k hh d hdm
     have hpos : 0 < d.2.length := by
      rcases xz9 p.l order 0 true with ⟨e,_⟩ | ⟨b,d',e,hd',hfd,_⟩
      ·rw [hf] at e;cases e
      ·rw [hf] at e
       obtain rfl := Option.some.inj e
       rw [hd] at hd'
       obtain rfl := Option.some.inj hd'
       unfold pFits at hfd
       simp at hfd
       exact List.length_pos_iff.2 (fun e => by rw [e] at hfd;simp at hfd)
     have hle := yzn (xJ7 d.1) (o.nod d hdm) (o.sub d hdm)
     have h3 : ((pBlocks d.1).filter fun x => decide (x ∈ d.2)).length <= (pBlocks d.1).length := List.length_filter_le _ _
     unfold pWhole
     simp only [List.length_tail,beq_eq_false_iff_ne]
     omega
   ·exact k hh c hc
  ·split at hc
   ·rename_i he
    rcases List.mem_append.1 hc with h1 | h1
    ·exact k hh c h1
    ·obtain rfl := List.mem_singleton.1 h1
     unfold pWhole
     simp only [List.length_tail,beq_eq_false_iff_ne]
     have hp : 0 < (pBlocks (hMake p.heap 4 order).2.1).length := by
      cases hb : fBest p.heap.free 4 with
      | none => rw [xzj (by omega) hb] at he;exact absurd he (by show ¬ (3 : Int) = 0;decide)
      | some r =>
       obtain ⟨g,_,_,_,e,_⟩ := xzk o.hok (n := 4) (o := order) (by omega) hb
       rw [e,xq9]
       have := (xx4 order (by omega) (by omega)).1
       show 0 < pMany 4 order
       omega
     omega
   ·exact k hh c hc
end
end Go.Proofs.YtlcdgmjinhbncaaGreat
namespace Go.Proofs.YtlcdgmjinhbncaaGreat
open Go.RowKit Go.Maps
set_option linter.unusedVariables false
def SideP (S : Nat -> Prop) (W : World) (S' : Nat -> Prop) (W' : World) : Prop := Kept S W W' /\ ∀ b,S' b -> S b \/ W.heap.size <= b
theorem SideP.not {S S' : Nat -> Prop} {W W' : World} (h : SideP S W S' W') {b : Nat} (hb : b < W.heap.size) (hn : ¬ S b) : ¬ S' b := fun c => (h.2 b c).elim hn fun q => by omega
theorem SideP.below {S : Nat -> Prop} {W W' : World} (hb : Below W.heap.size W W') : SideP S W S W' := ⟨Kept.of_below hb S,fun b h => Or.inl h⟩
theorem SideP.did {S : Nat -> Prop} {W W' : World} (hK : Kept S W W') : SideP S W (more S W W') W' := ⟨hK,fun b h => h.1⟩
theorem xWs {h : HeapV} (n o : Int) : ∀ s ∈ h.l,s ∈ (hMake h n o).1.l := fun s hs => by
 unfold hMake
 split
 ·exact hs
 ·split
  ·exact hs
  ·exact List.mem_append_left _ hs
theorem xWt {h : HeapV} (n o : Int) : h.last <= (hMake h n o).1.last := by
 unfold hMake
 split
 ·exact Int.le_refl _
 ·split
  ·exact Int.le_refl _
  ·show h.last <= h.last + 1;omega
theorem xwd {α : Type} : ∀ {l m : List α},l.Nodup -> (∀ x ∈ l,x ∈ m) -> l.length <= m.length
 | [],_,_,_ => Nat.zero_le _
 | x :: l,m,hd,hm => by
  obtain ⟨a,b,rfl⟩ := List.append_of_mem (hm x (List.mem_cons_self ..))
  have hd2 := List.nodup_cons.1 hd
  have ih := xwd (l := l) (m := a ++ b) hd2.2 fun y hy => by
   have h1 := hm y (List.mem_cons_of_mem _ hy)
   rcases List.mem_append.1 h1 with h | h
   ·exact List.mem_append_left _ h
   ·rcases List.mem_cons.1 h with rfl | h
    ·exact absurd hy hd2.1
    ·exact List.mem_append_right _ h
  rw [List.length_append] at ih
  simp only [List.length_cons,List.length_append]
  omega
theorem yzp {h : HeapV} (k : HOk h) {n : Nat} (hlb : h.last <= n) : h.l.length <= n := by
 have h1 := xxk n (h.l.map (·.1)) k.ids fun x hx => by
  obtain ⟨s,hs,rfl⟩ := List.mem_map.1 hx
  have := k.idr s hs
  omega
 rwa [List.length_map] at h1
section
variable {w W W' : World} {p hp : Nat} {S T : Nat -> Prop} {v : PoolW} {k : Nat} {pages : Int}
theorem PoolSt.kept (s : PoolSt w W p hp S v k pages) (hK : Kept T W W') (hn : ∀ b,S b -> ¬ T b) (hT : ∀ b,T b -> w.heap.size <= b) : PoolSt w W' p hp S v k pages := by
 obtain ⟨⟨Sh,ap,g,mb,n,m,D,q1,q2,q3⟩,l1,l2,l3,l4,l5⟩ := s
 exact ⟨⟨Sh,ap,g,mb,n,m,D,q1.keep hK fun b hb => hn b (q3 b hb),q2,q3⟩,fun b h => Nat.lt_of_lt_of_le (l1 b h) hK.size,l2,l3.trans (hK.below l3.size hT),l4,l5⟩
theorem PoolSt.later (s : PoolSt w W p hp S v k pages) {k' : Nat} (h : k <= k') : PoolSt w W p hp S v k' pages := ⟨s.pl,s.lt,s.low,s.bel,by have := s.la;omega,s.pg⟩
theorem PoolSt.few (s : PoolSt w W p hp S v k pages) (hk : k <= 60000) : v.plain.heap.l.length <= 60000 /\ v.plain.l.length <= 60000 /\ v.plain.heap.last <= 1000000000 := by
 have o := s.pok
 have hl := s.la
 have h1 : v.plain.heap.l.length <= k := yzp o.hok hl
 have h2 : v.plain.l.length <= v.plain.heap.l.length := by
  have := xwd (l := v.plain.l.map (·.1)) (m := v.plain.heap.l) ?_ fun x hx => ?_
  ·rw [List.length_map] at this;exact this
  ·have := List.pairwise_map.1 o.ids
   exact List.pairwise_map.2 (this.imp fun {a b} hab e => hab (by rw [e]))
  ·obtain ⟨c,hc,rfl⟩ := List.mem_map.1 hx
   exact o.mem c hc
 exact ⟨by omega,by omega,by show v.h.last <= _;omega⟩
theorem k_ptake (s : PoolSt w W p hp S v k pages) (hk : k + 1 <= 1000000000) (order : Int) (ho : in64 order) (p' : PoolV) (at' no : Int) (e : pTake v.plain order = (p',at',no)) :
  Calls Tryz.prog 60 #[.pointer (some ⟨p,0,none⟩),.int .i64 order] W fun e w' => e = .returned (.tuple #[.int .i64 at',.int .i64 no]) /\ ∃ S' v',PoolSt w w' p hp S' v' (k + 1) pages /\ v'.plain = p' /\ SideP S W S' w' := by
 by_cases c : order < 0 \/ 3 < order
 ·refine (xjy (some ⟨p,0,none⟩) order ho c W).mono ?_
  unfold pTake at e
  rw [if_pos c] at e
  injection e with e1 e2
  injection e2 with e2 e3
  subst e2 e3
  rintro e w' ⟨rfl,hb⟩
  exact ⟨rfl,S,v,(s.below hb).later (by omega),e1,SideP.below hb⟩
 ·obtain ⟨Sh,ap,g,mb,n,m,D,q1,q2,q3⟩ := s.pl
  have hla := s.la
  refine (xXs q1 q2 order (by omega) (by omega)).mono ?_
  rintro e' w' ⟨at2,no2,v',rfl,hw,e2,_⟩
  rw [e] at e2
  injection e2 with e3 e4
  injection e4 with e4 e5
  subst e4 e5
  have hh := xXt (p := v.plain) q1.hp_.ok order
  rw [e,e3] at hh
  obtain ⟨s2,hK⟩ := s.did (k' := k + 1) q3 hw (by have h1 : v'.h.last <= v.h.last + 1 := hh.2;omega) hh.1
  exact ⟨rfl,_,v',s2,e3.symm,SideP.did hK⟩
theorem k_pgive (s : PoolSt w W p hp S v k pages) (A : Option Addr) (N c : Nat) (xs : List Int) (hs : Sl W W.heap.size A N (xs.map iv)) (hA : 0 < N -> ∀ a,A = some a -> ¬ S a.block) (hN : N <= 65536) (hx : ∀ x ∈ xs,in64 x) (p' : PoolV) (no : Int) (e : gGive v.plain xs = (p',no)) :
  Calls Tryz.prog 68 #[.pointer (some ⟨p,0,none⟩),.slice A N c] W fun e w' => e = .returned (.int .i64 no) /\ ∃ S' v',PoolSt w w' p hp S' v' k pages /\ v'.plain = p' /\ SideP S W S' w' := by
 obtain ⟨Sh,ap,g,mb,n,m,D,q1,q2,q3⟩ := s.pl
 refine (yzd q1 q2 A N c xs hs (fun h0 a ha h => hA h0 a ha (q3 _ h)) hN hx).mono ?_
 rintro e' w' ⟨no2,v',rfl,hw,e2,_⟩
 rw [e] at e2
 injection e2 with e3 e4
 subst e4
 have hh := yzf (p := v.plain) q1.hp_.ok xs
 rw [e,e3] at hh
 obtain ⟨s2,hK⟩ := s.did (k' := k) q3 hw (by have h1 : v'.h.last = v.h.last := hh.2;have := s.la;omega) hh.1
 exact ⟨rfl,_,v',s2,e3.symm,SideP.did hK⟩
theorem k_phold (s : PoolSt w W p hp S v k pages) (on : Bool) (p' : PoolV) (was : Bool) (e : pSweep { v.plain with held := on } = p') (hwas : v.held = was) :
  Calls Tryz.prog 70 #[.pointer (some ⟨p,0,none⟩),.bool on] W fun e w' => e = .returned (.bool was) /\ ∃ S' v',PoolSt w w' p hp S' v' k pages /\ v'.plain = p' /\ SideP S W S' w' := by
 obtain ⟨Sh,ap,g,mb,n,m,D,q1,q2,q3⟩ := s.pl
 have hpl := xWm q2 (by rw [q1.ar.hlen];exact q1.ar.small) on
 refine (yzb q1 q2 on).mono ?_
 rintro e' w' ⟨rfl,S2,D2,r1,r2,r3,r4⟩
 have hsub : ∀ c ∈ (holdV v on).ks,c ∈ v.ks := fun c hc => by
  unfold holdV trimV at hc
  split at hc
  ·exact hc
  ·exact (List.mem_filter.1 hc).1
 have hw : Went W Sh p hp ap g mb n v.ks w' (holdV v on) := ⟨S2,m,D2,r1,r2,r3,fun b hb => by
  rcases hb with h | h | h | h | h | ⟨c,hc,e⟩
  ·rcases r4 b h with h2 | h2
   ·exact Or.inl (Or.inl h2)
   ·exact Or.inr h2
  ·exact Or.inl (Or.inr (Or.inl h))
  ·exact Or.inl (Or.inr (Or.inr (Or.inl h)))
  ·exact Or.inl (Or.inr (Or.inr (Or.inr (Or.inl h))))
  ·exact Or.inl (Or.inr (Or.inr (Or.inr (Or.inr (Or.inl h)))))
  ·exact Or.inl (Or.inr (Or.inr (Or.inr (Or.inr (Or.inr ⟨c,hsub c hc,e⟩)))))⟩
 have hh := xQa q1.hp_.ok v.plain.l on
 rw [show (⟨v.h,v.plain.l,on⟩ : PoolV) = { v.plain with held := on } from rfl,<- hpl] at hh
 obtain ⟨s2,hK⟩ := s.did (k' := k) q3 hw (by have h1 : (holdV v on).h.last = v.h.last := hh.2;have := s.la;omega) hh.1
 exact ⟨by rw [hwas],_,holdV v on,s2,by rw [hpl,e],SideP.did hK⟩
theorem k_pmake (s : PoolSt w W p hp S v k pages) (hk : k + 1 <= 1000000000) (kn o : Int) (h0 : in64 kn) (h1 : in64 o) (h' : HeapV) (s1 s2 s3 s4 no : Int) (e : hMake v.h kn o = (h',(s1,s2,s3,s4),no)) :
  Calls Tryz.prog 72 #[.pointer (some ⟨hp,0,none⟩),.int .i64 kn,.int .i64 o] W fun e w' => e = .returned (.tuple #[.agg #[.int .i64 s1,.int .i64 s2,.int .i64 s3,.int .i64 s4],.int .i64 no]) /\ ∃ S' v',PoolSt w w' p hp S' v' (k + 1) pages /\ v'.plain = { v.plain with heap := h' } /\ SideP S W S' w' := by
 obtain ⟨Sh,ap,g,mb,n,m,D,q1,q2,q3⟩ := s.pl
 have hm := yq2 q1.hp_.ok kn o
 have hmm := xWs (h := v.h) kn o
 have hml := xWt (h := v.h) kn o
 have hl := s.la
 rw [e] at hm hmm hml
 simp only at hm hmm hml
 refine (xXf q1.hp_ kn o h0 h1 (by omega)).mono ?_
 rw [e]
 rintro e w' ⟨rfl,hp',hK⟩
 have hK2 : Kept (PlS Sh p ap g mb v.ks) W w' := ⟨hK.os,hK.tape,hK.output,hK.size,fun b hb hn => hK.block b hb (fun c => hn (Or.inl c))⟩
 have hw : Went W Sh p hp ap g mb n v.ks w' { v with h := h' } := by
  refine ⟨_,m,D,q1.heap_ hK hp',⟨by have := q2.len;show (n : Int) = 64 * h'.pages;rw [hm.2.1];exact this,q2.wide,fun c hc => hmm _ (q2.mem c hc),q2.four,q2.lst,q2.sub,q2.ids,by have := q2.cnt;show (m : Int) <= h'.last;omega⟩,hK2,fun b hb => ?_⟩
  rcases hb with h | h
  ·rcases h.1 with h2 | h2
   ·exact Or.inl (Or.inl h2)
   ·exact Or.inr h2
  ·exact Or.inl (Or.inr h)
 obtain ⟨s2',hK3⟩ := s.did (k' := k + 1) q3 hw (by show h'.last <= _;omega) hm.2.1
 exact ⟨rfl,_,{ v with h := h' },s2',rfl,SideP.did hK3⟩
end
end Go.Proofs.YtlcdgmjinhbncaaGreat
