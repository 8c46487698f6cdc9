import Derived.Test.YtlcdgmjinhbncaaGreatRPoolTake
import Derived.Test.YtlcdgmjinhbncaaGreatRPoolGive
import Derived.Test.YtlcdgmjinhbncaaGreatRPoolReads2
import Derived.Test.YtlcdgmjinhbncaaGreatRPoolAdd
import Derived.Test.YtlcdgmjinhbncaaGreatRRowWords
import Derived.Maps.AppendAt
namespace Go.Proofs.YtlcdgmjinhbncaaGreat
open Go.RowKit Go.Maps
set_option linter.unusedVariables false
theorem alloc_at (W : World) (o : Obj) : (W.alloc o).heap[W.heap.size]? = some o := by show (W.heap.push o)[W.heap.size]? = _;simp
theorem ykx {w : World} {Sh : Nat -> Prop} {hp ap g n : Nat} {h : HeapV} {ws : List Nat} (k : Hp w Sh hp h) (ha : Ar w 0 ap g n ws) (hn : (n : Int) = 64 * h.pages) (hw : Wide ws) (h1 : ¬ Sh ap) (h2 : ¬ Sh g) :
  Calls Tryz.prog 63 #[.pointer (some ⟨hp,0,none⟩),.pointer (some ⟨ap,0,none⟩)] w fun e w' => ∃ p mb,e = .returned (.pointer (some ⟨p,0,none⟩)) /\ PlAt w' Sh p hp ap g mb n 0 (.map []) ⟨h,ws,false,[]⟩ /\ PlOk n 0 ⟨h,ws,false,[]⟩ /\ Below w.heap.size w w' /\ w.heap.size <= p /\ w.heap.size <= mb := by
 have cw := xxi ap _ _ _ w ha.cell
 have cz := yxu k
 have hp0 := k.ok.p0
 have hp1 := k.ok.p1
 have HE : Hid (∀ w2,Below w.heap.size w w2 -> PlAt ((w2.alloc (.map #[] 0)).alloc (.cells #[.pointer (some ⟨hp,0,none⟩),.pointer (some ⟨ap,0,none⟩),.map (some w2.heap.size),.bool false] 145)) Sh (w2.heap.size + 1) hp ap g w2.heap.size n 0 (.map []) ⟨h,ws,false,[]⟩ /\ Below w.heap.size w ((w2.alloc (.map #[] 0)).alloc (.cells #[.pointer (some ⟨hp,0,none⟩),.pointer (some ⟨ap,0,none⟩),.map (some w2.heap.size),.bool false] 145))) := hidb (fun w2 hb => by
  have hb2 := hb.alloc hb.size (.map #[] 0)
  have hb3 := hb2.alloc hb2.size (.cells #[.pointer (some ⟨hp,0,none⟩),.pointer (some ⟨ap,0,none⟩),.map (some w2.heap.size),.bool false] 145)
  have hz : (w2.alloc (.map #[] 0)).heap.size = w2.heap.size + 1 := by simp
  have hs := hb.size
  have q : ((w2.alloc (.map #[] 0)).alloc (.cells #[.pointer (some ⟨hp,0,none⟩),.pointer (some ⟨ap,0,none⟩),.map (some w2.heap.size),.bool false] 145)).heap[w2.heap.size + 1]? = some (.cells #[.pointer (some ⟨hp,0,none⟩),.pointer (some ⟨ap,0,none⟩),.map (some w2.heap.size),.bool false] 145 (0,0)) := by
   have h9 := alloc_at (w2.alloc (.map #[] 0)) (.cells #[.pointer (some ⟨hp,0,none⟩),.pointer (some ⟨ap,0,none⟩),.map (some w2.heap.size),.bool false] 145)
   rw [hz] at h9
   exact h9
  obtain ⟨c0,c1,c2,c3,f0,f1,f2,f3⟩ := cells4 q
  have hm := World.ownsMap_made w2 Tryz.prog 3 ptrR
  have hap := ha.ltp
  have hgl := ha.lt
  have hSl := k.lt
  refine ⟨⟨c0,c1,c2,c3,fun j => ?_,xq2 hm (by rw [Below.heap_alloc _ _ _ (by simp)]),pis_nil,k.below hb3,(ha.below hb3 (Nat.le_refl _)),fun c hc => (by cases hc),⟨by omega,by omega,by omega,by omega,by omega⟩,fun c hc => (by cases hc),⟨fun h => by have := hSl _ h;omega,h1,h2,fun h => by have := hSl _ h;omega⟩,List.nodup_nil⟩,hb3⟩
  have hR : Rw ((w2.alloc (.map #[] 0)).alloc (.cells #[.pointer (some ⟨hp,0,none⟩),.pointer (some ⟨ap,0,none⟩),.map (some w2.heap.size),.bool false] 145)) (w2.heap.size + 1) 145 [.pointer (some ⟨hp,0,none⟩),.pointer (some ⟨ap,0,none⟩),.map (some w2.heap.size),.bool false] := q
  exact hR.free j)
 have HOK : Hid (PlOk n 0 ⟨h,ws,false,[]⟩) := hidb ⟨hn,hw,fun c hc => (by cases hc),fun c hc => (by cases hc),fun c hc => (by cases hc),fun c hc => (by cases hc),List.nodup_nil,by have := k.ok.la;show ((0 : Nat) : Int) <= h.last;omega⟩
 have hmk := @run_makeMap Tryz.prog
 obtain ⟨pg,hpg⟩ : ∃ pg,h.pages = pg := ⟨_,rfl⟩
 rw [hpg] at cz hn hp0 hp1
 have hd : ((n : Int) == pg * 64) = true := by simpa using (show (n : Int) = pg * 64 by omega)
 clear k ha hpg hw h1 h2 hn
 go_enter Tryz.func63,Tryz.ntmps63
 go_wp2_with (first
  | (go_at_call 135;(with_reducible refine cw.mono ?_);rintro e w1 ⟨rfl,rfl⟩)
  | (go_at_call 136;(with_reducible refine cz.mono ?_);rintro e w2 ⟨rfl,hb2⟩;have P := hidb (HE.out w2 hb2);have hs2 := hb2.size))
 go_ret
 obtain ⟨p1,p2⟩ := P.out
 exact ⟨w2.heap.size + 1,w2.heap.size,rfl,p1,HOK.out,p2,by omega,by omega⟩
structure PoolSt (w W : World) (p hp : Nat) (S : Nat -> Prop) (v : PoolW) (k : Nat) (pages : Int) : Prop where
 pl : ∃ Sh ap g mb n m D,PlAt W Sh p hp ap g mb n m D v /\ PlOk n m v /\ ∀ b,PlS Sh p ap g mb v.ks b -> S b
 lt : ∀ b,S b -> b < W.heap.size
 low : ∀ b,S b -> w.heap.size <= b
 bel : Below w.heap.size w W
 la : v.h.last <= k
 pg : v.h.pages = pages
theorem more_any {S : Nat -> Prop} {W W' : World} {b : Nat} (h : S b \/ W.heap.size <= b) (hl : b < W'.heap.size) : more S W W' b := ⟨h,hl⟩
section
variable {w W W' : World} {p hp : Nat} {S : Nat -> Prop} {v v' : PoolW} {k k' : Nat} {pages : Int}
theorem PoolSt.below (s : PoolSt w W p hp S v k pages) (hb : Below W.heap.size W W') : PoolSt w W' p hp S v k pages := by
 obtain ⟨⟨Sh,ap,g,mb,n,m,D,q1,q2,q3⟩,l1,l2,l3,l4,l5⟩ := s
 exact ⟨⟨Sh,ap,g,mb,n,m,D,q1.below hb,q2,q3⟩,fun b h => Nat.lt_of_lt_of_le (l1 b h) hb.size,l2,l3.trans (hb.mono l3.size),l4,l5⟩
theorem PoolSt.did {Sh : Nat -> Prop} {ap g mb n : Nat} (s : PoolSt w W p hp S v k pages) (h3 : ∀ b,PlS Sh p ap g mb v.ks b -> S b) (h : Went W Sh p hp ap g mb n v.ks W' v') (hl : v'.h.last <= k') (hg : v'.h.pages = v.h.pages) : PoolSt w W' p hp (more S W W') v' k' pages /\ Kept S W W' := by
 obtain ⟨S2,m2,D2,q1,q2,q3,q4⟩ := h
 have hK : Kept S W W' := ⟨q3.os,q3.tape,q3.output,q3.size,fun b hb hn => q3.block b hb (fun c => hn (h3 b c))⟩
 refine ⟨⟨⟨S2,ap,g,mb,n,m2,D2,q1,q2,fun b hb => more_any ?_ (q1.lt b hb)⟩,fun b hb => hb.2,xWw s.bel.size s.low,s.bel.trans (hK.below s.bel.size s.low),hl,hg.trans s.pg⟩,hK⟩
 rcases q4 b hb with h4 | h4
 ·exact Or.inl (h3 b h4)
 ·exact Or.inr h4
end
theorem xQa {h : HeapV} (k : HOk h) (l : PL) (held : Bool) : (pSweep ⟨h,l,held⟩).heap.pages = h.pages /\ (pSweep ⟨h,l,held⟩).heap.last = h.last := by
 unfold pSweep
 split
 ·exact ⟨rfl,rfl⟩
 ·have := yq3 k ((l.filter pWhole).map (·.1.1))
  exact ⟨this.2.1,this.2.2.2⟩
theorem xXt {p : PoolV} (k : HOk p.heap) (order : Int) : (pTake p order).1.heap.pages = p.heap.pages /\ (pTake p order).1.heap.last <= p.heap.last + 1 := by
 have h := yq2 k 4 order
 unfold pTake
 split
 ·exact ⟨rfl,by show p.heap.last <= p.heap.last + 1;omega⟩
 ·split
  ·split
   ·exact ⟨rfl,by show p.heap.last <= p.heap.last + 1;omega⟩
   ·exact ⟨rfl,by show p.heap.last <= p.heap.last + 1;omega⟩
  ·split
   ·exact ⟨h.2.1,h.2.2.2⟩
   ·exact ⟨rfl,by show p.heap.last <= p.heap.last + 1;omega⟩
theorem yzf {p : PoolV} (k : HOk p.heap) (xs : List Int) : (gGive p xs).1.heap.pages = p.heap.pages /\ (gGive p xs).1.heap.last = p.heap.last := by
 unfold gGive
 split
 ·exact ⟨rfl,rfl⟩
 ·split
  ·exact ⟨rfl,rfl⟩
  ·exact xQa k _ _
section
variable {w W : World} {p hp : Nat} {S : Nat -> Prop} {v : PoolW} {k : Nat} {pages : Int}
theorem yky (s : PoolSt w W p hp S v k pages) (hk : k + 1 <= 1000000000) (order : Int) (ho : in64 order) (p' : PoolV) (at' no : Int) (e : pTake v.plain order = (p',at',no)) :
  Calls Tryz.prog 60 #[.pointer (some ⟨p,0,none⟩),.int .i64 order] W fun e w' => e = .returned (.tuple #[.int .i64 at',.int .i64 no]) /\ ∃ S' v',PoolSt w w' p hp S' v' (k + 1) pages /\ v'.plain = p' /\ ToO S W S' w' := by
 by_cases c : order < 0 \/ 3 < order
 ·refine (xjy (some ⟨p,0,none⟩) order ho c W).mono ?_
  unfold pTake at e
  rw [if_pos c] at e
  injection e with e1 e2
  injection e2 with e2 e3
  subst e2 e3
  rintro e w' ⟨rfl,hb⟩
  have s2 := s.below hb
  exact ⟨rfl,S,v,⟨s2.pl,s2.lt,s2.low,s2.bel,by have := s2.la;omega,s2.pg⟩,e1,ToO.below hb⟩
 ·obtain ⟨Sh,ap,g,mb,n,m,D,q1,q2,q3⟩ := s.pl
  have hla := s.la
  refine (xXs q1 q2 order (by omega) (by omega)).mono ?_
  rintro e' w' ⟨at2,no2,v',rfl,hw,e2,_⟩
  rw [e] at e2
  injection e2 with e3 e4
  injection e4 with e4 e5
  subst e4 e5
  have hh := xXt (p := v.plain) q1.hp_.ok order
  rw [e,e3] at hh
  obtain ⟨s2,hK⟩ := s.did (k' := k + 1) q3 hw (by have h1 : v'.h.last <= v.h.last + 1 := hh.2;omega) hh.1
  exact ⟨rfl,_,v',s2,e3.symm,ToO.did hK⟩
theorem xWm {n m : Nat} {v : PoolW} (o : PlOk n m v) (hn : v.ws.length <= 65536) (on : Bool) : (holdV v on).plain = pSweep { v.plain with held := on } := by
 have o2 : PlOk n m { v with held := on } := ⟨o.len,o.wide,o.mem,o.four,o.lst,o.sub,o.ids,o.cnt⟩
 unfold holdV
 rw [o2.trim_plain hn]
 rfl
theorem t_porder (s : PoolSt w W p hp S v k pages) (a : Int) (ha : in64 a) (r : Int) (e : orderP v.ks a = r) :
  Calls Tryz.prog 20 #[.pointer (some ⟨p,0,none⟩),.int .i64 a] W fun e w' => e = .returned (.int .i64 r) /\ Below W.heap.size W w' := by
 obtain ⟨Sh,ap,g,mb,n,m,D,q1,q2,q3⟩ := s.pl
 have := xQ8 q1 q2 a ha
 rw [e] at this
 exact this
theorem t_plist (s : PoolSt w W p hp S v k pages) (order : Int) : Calls Tryz.prog 18 #[.pointer (some ⟨p,0,none⟩),.int .i64 order] W (Reads9 W v.ks (fun k => k.s.2.2.2 == order) (·.l)) := by
 obtain ⟨Sh,ap,g,mb,n,m,D,q1,q2,q3⟩ := s.pl
 exact yze q1 q2 order
theorem t_pout (s : PoolSt w W p hp S v k pages) : Calls Tryz.prog 22 #[.pointer (some ⟨p,0,none⟩)] W (Reads9 W v.ks (fun _ => true) outK) := by
 obtain ⟨Sh,ap,g,mb,n,m,D,q1,q2,q3⟩ := s.pl
 exact ykw q1 q2 ()
theorem t_pspans (s : PoolSt w W p hp S v k pages) (order : Int) : Calls Tryz.prog 15 #[.pointer (some ⟨p,0,none⟩),.int .i64 order] W fun e w' => ∃ ds,InOrderP v.ks ds /\ OwnSpansC W ((ds.filter (fun k => k.s.2.2.2 == order)).map (·.s)) e w' := by
 obtain ⟨Sh,ap,g,mb,n,m,D,q1,q2,q3⟩ := s.pl
 exact xWl q1 q2 order
theorem t_phruns (s : PoolSt w W p hp S v k pages) : Calls Tryz.prog 28 #[.pointer (some ⟨hp,0,none⟩)] W (OwnRuns W (fList v.h.free)) := by
 obtain ⟨Sh,ap,g,mb,n,m,D,q1,q2,q3⟩ := s.pl
 exact yxv q1.hp_
theorem ykz (s : PoolSt w W p hp S v k pages) : Calls Tryz.prog 25 #[.pointer (some ⟨hp,0,none⟩)] W (OwnSpansC W (hSpans v.h)) := by
 obtain ⟨Sh,ap,g,mb,n,m,D,q1,q2,q3⟩ := s.pl
 exact xW4 q1.hp_
end
end Go.Proofs.YtlcdgmjinhbncaaGreat
namespace Go.Proofs.YtlcdgmjinhbncaaGreat
open Go.RowKit
set_option linter.unusedVariables false
theorem xKy (pages : Int) (w : World) (h0 : 4 <= pages) (h1 : pages <= 1024) : ∃ F ws,hNew pages = (⟨pages,F,[],0⟩,0) /\
  Calls Tryz.prog 12 #[.int .i64 pages] w fun e w' => ∃ hp ap p S,e = .returned (.tuple #[.pointer (some ⟨hp,0,none⟩),.pointer (some ⟨ap,0,none⟩),.pointer (some ⟨p,0,none⟩)]) /\ PoolSt w w' p hp S ⟨⟨pages,F,[],0⟩,ws,false,[]⟩ 0 pages := by
 obtain ⟨F,e1,c1⟩ := t_hnew pages w h0 h1
 obtain ⟨n,rfl⟩ : ∃ n : Nat,pages = n := ⟨pages.toNat,by omega⟩
 obtain ⟨ws,hws⟩ : ∃ ws,List.replicate (64 * n) 0 = ws := ⟨_,rfl⟩
 have hwide : Wide ws := fun x hx => by rw [<- hws] at hx;rw [(List.mem_replicate.1 hx).2];decide
 refine ⟨F,ws,e1,?_⟩
 have C2 : Hid (∀ W,Calls Tryz.prog 62 #[.int .i64 (n : Int)] W fun e w' => ∃ p g,e = .returned (.tuple #[.pointer (some ⟨p,0,none⟩),.int .i64 0]) /\ Ar w' W.heap.size p g (64 * n) ws /\ Below W.heap.size W w') := hidb (fun W => by
  have := yji n W (by omega) (by omega)
  rw [hws] at this
  exact this)
 have C3 : Hid (∀ w1 w2 hp ap g Sh,HeapSt w w1 hp Sh ⟨(n : Int),F,[],0⟩ 0 n -> Ar w2 w1.heap.size ap g (64 * n) ws -> Below w1.heap.size w1 w2 -> Calls Tryz.prog 63 #[.pointer (some ⟨hp,0,none⟩),.pointer (some ⟨ap,0,none⟩)] w2 fun e w' => ∃ p S,e = .returned (.pointer (some ⟨p,0,none⟩)) /\ PoolSt w w' p hp S ⟨⟨(n : Int),F,[],0⟩,ws,false,[]⟩ 0 n) := hidb (fun w1 w2 hp ap g Sh hh ha hb => by
  have hSl := hh.hp.lt
  have hge := ha.ge
  have hgg := ha.geg
  have k := hh.hp.below hb
  refine (ykx k (ha.more (Nat.zero_le _)) (by show ((64 * n : Nat) : Int) = 64 * (n : Int);omega) hwide (fun h => by have := hSl _ h;omega) (fun h => by have := hSl _ h;omega)).mono ?_
  rintro e w' ⟨p,mb,rfl,q1,q2,q3,q4,q5⟩
  have hb1 := hh.bel.size
  have hb2 := hb.size
  refine ⟨p,PlS Sh p ap g mb [],rfl,⟨Sh,ap,g,mb,_,_,_,q1,q2,fun b h => h⟩,q1.lt,fun b h => ?_,(hh.bel.trans (hb.mono hb1)).trans (q3.mono (by omega)),Int.le_refl _,rfl⟩
  rcases h with h | h | h | h | h | ⟨c,hc,_⟩
  ·exact hh.low b h
  ·omega
  ·omega
  ·omega
  ·omega
  ·cases hc)
 clear e1 hws hwide
 go_enter Tryz.func12,Tryz.ntmps12
 go_wp2_with (first
  | (go_at_call 61;(with_reducible refine c1.mono ?_);rintro e w1 ⟨hp,Sh,rfl,s1⟩;have S1 := hidb s1;clear s1)
  | (go_at_call 62;(with_reducible refine (C2.out _).mono ?_);rintro e w2 ⟨ap,g,rfl,ha,hb2⟩;have c3 := C3.out _ _ _ _ _ _ S1.out ha hb2;clear ha hb2)
  | (go_at_call 63;(with_reducible refine c3.mono ?_);rintro e w3 ⟨p,S,rfl,s3⟩;have S3 := hidb s3;clear s3))
 exact bodyPost_ret (v := .tuple #[.pointer (some ⟨hp,0,none⟩),.pointer (some ⟨ap,0,none⟩),.pointer (some ⟨p,0,none⟩)]) (by simp [results,Tryz.results12,go_sem]) rfl ⟨hp,ap,p,S,rfl,S3.out⟩
theorem xKz (pages : Int) (w : World) (hp : in64 pages) (h : pages < 4 \/ 1024 < pages) :
  Calls Tryz.prog 12 #[.int .i64 pages] w fun e w' => e = .returned (.tuple #[.pointer none,.pointer none,.pointer none]) /\ Below w.heap.size w w' := by
 have c1 := xK9 pages w h
 have c2 := fun W => xK2 pages W h
 go_enter Tryz.func12,Tryz.ntmps12
 go_wp2_with (first
  | (go_at_call 61;(with_reducible refine c1.mono ?_);rintro e w1 ⟨rfl,rfl⟩)
  | (go_at_call 62;(with_reducible refine (c2 _).mono ?_);rintro e w2 ⟨rfl,rfl⟩))
 exact bodyPost_ret (v := .tuple #[.pointer none,.pointer none,.pointer none]) (by simp [results,Tryz.results12,go_sem]) rfl ⟨rfl,Below.refl _ _⟩
theorem aw_make9 {F : List Bool} (hN : hNew 8 = (⟨8,F,[],0⟩,0)) : ∃ h',hMake ⟨8,F,[],0⟩ 4 1 = (h',(1,0,4,1),0) := by
 obtain ⟨F',e1,_,hk⟩ := xVg (pages := 8) (by omega) (by omega)
 obtain rfl : F' = F := by rw [e1] at hN;injection hN with hN _;injection hN
 have hl := hk.ends rfl
 simp only at hl
 have hb : fBest F' 4 = some (0,8) := by
  rw [xZ9 F' (by have := hk.fl;simp only at this;omega),hl]
  rfl
 obtain ⟨g,_,_,_,e,_⟩ := xzk hk (n := 4) (o := 1) (by omega) hb
 exact ⟨_,e⟩
theorem yv0 : pBlocks (1,0,4,1) = [0,32,64,96,128,160,192,224] := by decide
theorem aw_take1 {h h' : HeapV} (hm : hMake h 4 1 = (h',(1,0,4,1),0)) : pTake ⟨h,[],false⟩ 1 = (⟨h',[((1,0,4,1),[32,64,96,128,160,192,224])],false⟩,0,0) := by
 rw [xQ9 (p := ⟨h,[],false⟩) (order := 1) (by omega) rfl hm,yv0];rfl
theorem aw_take2 (h' : HeapV) : pTake ⟨h',[((1,0,4,1),[32,64,96,128,160,192,224])],false⟩ 1 = (⟨h',[((1,0,4,1),[64,96,128,160,192,224])],false⟩,32,0) := by
 rw [xvk (p := ⟨h',[((1,0,4,1),[32,64,96,128,160,192,224])],false⟩) (order := 1) (i := 0) (c := ((1,0,4,1),[32,64,96,128,160,192,224])) (by omega) (by show pFirst [((1,0,4,1),[32,64,96,128,160,192,224])] 1 0 true = some 0;decide) rfl];rfl
theorem awake9 (w : World) : Calls Tryz.prog 11 #[] w fun e w' => e = .returned (.bool true) /\ Below w.heap.size w w' := by
 obtain ⟨F,ws,hN,c1⟩ := xKy 8 w (by omega) (by omega)
 obtain ⟨h',hM⟩ := aw_make9 hN
 have C2 : Hid (∀ W p hp S,PoolSt w W p hp S ⟨⟨8,F,[],0⟩,ws,false,[]⟩ 0 8 -> Calls Tryz.prog 60 #[.pointer (some ⟨p,0,none⟩),.int .i64 1] W fun e w' => e = .returned (.tuple #[.int .i64 0,.int .i64 0]) /\ ∃ S' v',PoolSt w w' p hp S' v' (0 + 1) 8 /\ v'.plain = ⟨h',[((1,0,4,1),[32,64,96,128,160,192,224])],false⟩ /\ ToO S W S' w') := hidb (fun W p hp S s => yky s (by omega) 1 ⟨by omega,by omega⟩ _ 0 0 (aw_take1 hM))
 have C3 : Hid (∀ W p hp S v,PoolSt w W p hp S v 1 8 -> v.plain = ⟨h',[((1,0,4,1),[32,64,96,128,160,192,224])],false⟩ -> Calls Tryz.prog 60 #[.pointer (some ⟨p,0,none⟩),.int .i64 1] W fun e w' => e = .returned (.tuple #[.int .i64 32,.int .i64 0]) /\ ∃ S' v',PoolSt w w' p hp S' v' (1 + 1) 8 /\ v'.plain = ⟨h',[((1,0,4,1),[64,96,128,160,192,224])],false⟩ /\ ToO S W S' w') := hidb (fun W p hp S v s hv => yky s (by omega) 1 ⟨by omega,by omega⟩ _ 32 0 (by rw [hv];exact aw_take2 h'))
 clear hN hM
 go_enter Tryz.func11,Tryz.ntmps11
 go_wp2_with (first
  | (go_at_call 12;(with_reducible refine c1.mono ?_);rintro e w1 ⟨hp,ap,p,S,rfl,s1⟩;have c2 := C2.out _ _ _ _ s1;clear s1)
  | (go_at_call 60;(with_reducible refine c2.mono ?_);rintro e w2 ⟨rfl,S',v',s2,hv2,_⟩;have c3 := C3.out _ _ _ _ _ s2 hv2;clear s2 hv2)
  | (go_at_call 60;(with_reducible refine c3.mono ?_);rintro e w3 ⟨rfl,S3,v3,s3,_,_⟩;have P := hidb s3.bel;clear s3))
 go_ret
 exact ⟨rfl,P.out⟩
structure POk (p : PoolV) : Prop where
 hok : HOk p.heap
 mem : ∀ c ∈ p.l,c.1 ∈ p.heap.l
 four : ∀ c ∈ p.l,c.1.2.2.1 = 4 /\ 0 <= c.1.2.2.2 /\ c.1.2.2.2 <= 3
 sub : ∀ c ∈ p.l,∀ x ∈ c.2,x ∈ pBlocks c.1
 nod : ∀ c ∈ p.l,c.2.Nodup
 ids : (p.l.map (·.1.1)).Nodup
theorem PoolSt.pok {w W : World} {p hp : Nat} {S : Nat -> Prop} {v : PoolW} {k : Nat} {pages : Int} (s : PoolSt w W p hp S v k pages) : POk v.plain := by
 obtain ⟨Sh,ap,g,mb,n,m,D,q1,q2,q3⟩ := s.pl
 have hn : v.ws.length <= 65536 := by rw [q1.ar.hlen];exact q1.ar.small
 have hm : ∀ c ∈ v.plain.l,∃ k ∈ v.ks,k.plain = c := fun c hc => List.mem_map.1 hc
 refine ⟨q1.hp_.ok,fun c hc => ?_,fun c hc => ?_,fun c hc => ?_,fun c hc => ?_,?_⟩
 ·obtain ⟨k,hk,rfl⟩ := hm c hc;exact q2.mem k hk
 ·obtain ⟨k,hk,rfl⟩ := hm c hc;exact q2.four k hk
 ·obtain ⟨k,hk,rfl⟩ := hm c hc;exact q2.sub k hk
 ·obtain ⟨k,hk,rfl⟩ := hm c hc;exact (xqs (q2.lst k hk) hn).2.2.2.2.1
 ·show ((v.ks.map CutV.plain).map (·.1.1)).Nodup
  rw [List.map_map]
  exact q2.ids
theorem xV0 {l : PL} (hd : (l.map (·.1.1)).Nodup) {i j : Nat} {c d : (Int × Int × Int × Int) × List Int} (hi : l[i]? = some c) (hj : l[j]? = some d) (h : c.1.1 = d.1.1) : i = j := by
 obtain ⟨hi2,e1⟩ := List.getElem?_eq_some_iff.1 hi
 obtain ⟨hj2,e2⟩ := List.getElem?_eq_some_iff.1 hj
 have := List.pairwise_iff_getElem.1 hd
 rcases Nat.lt_trichotomy i j with hlt | e | hlt
 ·exact absurd (by rw [List.getElem_map,List.getElem_map,e1,e2,h]) (this i j (by simpa using hi2) (by simpa using hj2) hlt)
 ·exact e
 ·exact absurd (by rw [List.getElem_map,List.getElem_map,e1,e2,h]) (this j i (by simpa using hj2) (by simpa using hi2) hlt)
theorem xwc {l : PL} {x : Int} {i : Nat} (h : pOf l x = some i) : ∃ c,l[i]? = some c /\ x ∈ pBlocks c.1 := by
 obtain ⟨hi,h1,_⟩ := List.findIdx?_eq_some_iff_getElem.1 h
 exact ⟨l[i],List.getElem?_eq_getElem hi,by simpa using h1⟩
theorem POk.of_at {p : PoolV} (o : POk p) {i : Nat} {c : (Int × Int × Int × Int) × List Int} (hi : p.l[i]? = some c) {x : Int} (hx : x ∈ pBlocks c.1) : pOf p.l x = some i := by
 have hcm := List.mem_of_getElem? hi
 cases h : pOf p.l x with
 | none =>
  have := List.findIdx?_eq_none_iff.1 h c hcm
  simp [hx] at this
 | some j =>
  obtain ⟨d,hd,hxd⟩ := xwc h
  have hdm := List.mem_of_getElem? hd
  obtain ⟨f1,f2,f3⟩ := o.four c hcm
  obtain ⟨g1,g2,g3⟩ := o.four d hdm
  have e := o.hok.apart (o.mem c hcm) (o.mem d hdm) (xx5 hx f1 ⟨f2,f3⟩) (xx5 hxd g1 ⟨g2,g3⟩)
  rw [xV0 o.ids hi hd (by rw [e])]
theorem xJ7 (s : Int × Int × Int × Int) : (pBlocks s).Nodup := by
 unfold pBlocks
 refine List.pairwise_map.2 (List.Pairwise.imp (fun {a b} (h : a < b) e4 => ?_) List.pairwise_lt_range)
 have h1 : a * pSize s.2.2.2 < b * pSize s.2.2.2 := Nat.mul_lt_mul_of_pos_right h (xzq _)
 omega
end Go.Proofs.YtlcdgmjinhbncaaGreat
namespace Go.Proofs.YtlcdgmjinhbncaaGreat
open Go.RowKit Go.Maps
set_option linter.unusedVariables false
theorem xw1 {P : Program} {ops : Array Oper} {o : Oper} {a : Act} {w : World} {K : Act -> World -> Prop} {Q : Exit -> Act -> World -> Prop} {E : Prop}
  (hg : o.guard = none) (s x : Operand) (t : TypeId) (hop : o.op = Op.call { callee := Callee.builtin Builtin.append,args := #[s,x],argTypes := #[t,t] })
  (base : Nat) (e : TypeId) (i : TypeInfo) (z : Value) (size bytes : Nat) (ht : P.underlying t = some (.slice e)) (hi : P.info? e = some i) (hz : i.zero = some z)
  (hsize : i.size = size) (hby : i.bytes = bytes) (hzs : z.cells.size = size) (hsz : 0 < size)
  (v : Value) (n : Nat) (xs : List Value) (hs : a.eval s = v) (hown : w.ownsRow base e size v n xs)
  (ad : Addr) (m c : Nat) (news : List Value) (hx : a.eval x = .slice (some ad) m c) (hl : news.length = m * size) (hnews : ∀ j u,news[j]? = some u -> w.cell? (ad.add j) = some u) (h1 : ∀ u ∈ news,u.oneCell' = true)
  (h63 : n + m <= maxLen) (hbytes : (n + m) * bytes <= 140737488355328) (hbase : base <= w.heap.size)
  (hK : ∀ A' c' w',w'.ownsRow base e size (.slice A' (n + m) c') (n + m) (xs ++ news) -> w.grownBy w' v.ownBlock -> ((Value.slice A' (n + m) c').ownBlock = v.ownBlock \/ (Value.slice A' (n + m) c').ownBlock = some w.heap.size) -> K (a.put o.dst (.slice A' (n + m) c')) w') :
  if Region.wanted o (yielded ops a.tmps) = true then Oper.wp P o a w K Q else E := by
 have hw : Region.wanted o (yielded ops a.tmps) = true := by simp [Region.wanted,hg]
 rw [if_pos hw]
 obtain ⟨v',w',hrun,r1,r2,_,r4⟩ := run_append_own_at (P := P) w base t o.type e i z size bytes ht hi hz hsize hby hzs hsz v n xs hown ad m c news hl hnews h1 h63 hbytes hbase
 obtain ⟨A',c',rfl⟩ : ∃ A c,v' = .slice A (n + m) c := by
  rcases r1.2 with ⟨rfl,h0⟩ | ⟨g,cap,cur,rfl,_⟩
  ·exact ⟨none,0,by rw [h0]⟩
  ·exact ⟨_,_,rfl⟩
 unfold Oper.wp
 simp [execOp,hop,resolve,invoke,builtin,hs,hx,hrun,Result.andThen]
 exact hK A' c' w' r1 r2 r4
theorem xw2 {P : Program} {ops : Array Oper} {o : Oper} {a : Act} {w : World} {K : Act -> World -> Prop} {Q : Exit -> Act -> World -> Prop} {E : Prop}
  (hg : o.guard = none) (s x : Operand) (t : TypeId) (hop : o.op = Op.call { callee := Callee.builtin Builtin.append,args := #[s,x],argTypes := #[t,t] })
  (base : Nat) (e : TypeId) (i : TypeInfo) (z : Value) (size bytes : Nat) (ht : P.underlying t = some (.slice e)) (hi : P.info? e = some i) (hz : i.zero = some z)
  (hsize : i.size = size) (hby : i.bytes = bytes) (hzs : z.cells.size = size) (hsz : 0 < size)
  (v : Value) (n : Nat) (xs : List Value) (hs : a.eval s = v) (hown : w.ownsRow base e size v n xs) (hbase : base <= w.heap.size)
  (A : Option Addr) (m c : Nat) (news : List Value) (hx : a.eval x = .slice A m c) (hl : news.length = m * size) (hA : A = none -> m = 0 /\ c = 0)
  (hnews : CellsAt w A news) (h1 : ∀ u ∈ news,u.oneCell' = true) (h63 : n + m <= maxLen) (hbytes : (n + m) * bytes <= 140737488355328)
  (hK : ∀ A' c' w',w'.ownsRow base e size (.slice A' (n + m) c') (n + m) (xs ++ news) -> w.grownBy w' v.ownBlock -> ((Value.slice A' (n + m) c').ownBlock = v.ownBlock \/ (Value.slice A' (n + m) c').ownBlock = some w.heap.size) -> K (a.put o.dst (.slice A' (n + m) c')) w') :
  if Region.wanted o (yielded ops a.tmps) = true then Oper.wp P o a w K Q else E := by
 have hw : Region.wanted o (yielded ops a.tmps) = true := by simp [Region.wanted,hg]
 cases A with
 | some ad => exact xw1 hg s x t hop base e i z size bytes ht hi hz hsize hby hzs hsz v n xs hs hown ad m c news hx hl (hnews ad rfl) h1 h63 hbytes hbase hK
 | none =>
  obtain ⟨rfl,rfl⟩ := hA rfl
  obtain rfl : news = [] := List.eq_nil_of_length_eq_zero (by rw [hl,Nat.zero_mul])
  rw [if_pos hw]
  obtain ⟨A',c',rfl⟩ : ∃ A c,v = .slice A n c := by
   rcases hown.2 with ⟨rfl,h0⟩ | ⟨g,cap,cur,rfl,_⟩
   ·exact ⟨none,0,by rw [h0]⟩
   ·exact ⟨_,_,rfl⟩
  have hrun := run_append_owned_none (P := P) (w := w) base t o.type e i size ht hi _ n xs hown
  unfold Oper.wp
  simp [execOp,hop,resolve,invoke,builtin,hs,hx,hrun,Result.andThen]
  have := hK A' c' w (by rw [List.append_nil];exact hown) ⟨rfl,rfl,rfl,Nat.le_refl _,fun _ _ _ => rfl⟩ (Or.inl rfl)
  rw [Nat.add_zero] at this
  exact this
end Go.Proofs.YtlcdgmjinhbncaaGreat
