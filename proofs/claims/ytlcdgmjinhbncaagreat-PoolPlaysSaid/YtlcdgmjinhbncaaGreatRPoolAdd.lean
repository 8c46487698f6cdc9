import Derived.Test.YtlcdgmjinhbncaaGreatRPoolAt
import Derived.Test.YtlcdgmjinhbncaaGreatRRowWords
import Derived.WalkKit
import Derived.ProofKit
import Derived.WalkLawsBesides
import Derived.WalkSpells
import Derived.Deep.QuietTactic
import Derived.BigQuiet
import Derived.Laws.OwnMore
import Derived.Laws.StructEq
import Derived.Test.YtlcdgmjinhbncaaGreatRPoolSort
import Derived.Test.YtlcdgmjinhbncaaGreatRHeapMain
import Derived.Shelf.Slices.Reverse
import Derived.Test.YtlcdgmjinhbncaaGreatProg
import Derived.Deep.Cut
import Derived.Deep.CutRange
import Derived.Deep.RegionLaw
namespace Go.Proofs.YtlcdgmjinhbncaaGreat
open Go.RowKit Go.Maps
set_option linter.unusedVariables false
def wholeK (k : CutV) : Bool := k.c.2 == ((pBlocks k.s).length : Int)
def pWhole (c : (Int × Int × Int × Int) × List Int) : Bool := c.2.length == (pBlocks c.1).length
def pSweep (p : PoolV) : PoolV := if p.held then p else ⟨(hDrop p.heap ((p.l.filter pWhole).map (·.1.1))).1,p.l.filter (fun c => !pWhole c),p.held⟩
def trimV (v : PoolW) : PoolW := if v.held then v else ⟨(hDrop v.h ((v.ks.filter wholeK).map (·.s.1))).1,v.ws,v.held,v.ks.filter (fun k => !wholeK k)⟩
theorem yz9 {h : HeapV} (k : HOk h) {a b : List Int} (hp : a.Perm b) : hDrop h a = hDrop h b := by
 by_cases c : a.Nodup /\ ∀ i ∈ a,∃ s ∈ h.l,s.1 = i
 ·have c2 : b.Nodup /\ ∀ i ∈ b,∃ s ∈ h.l,s.1 = i := ⟨hp.nodup_iff.1 c.1,fun i hi => c.2 i (hp.mem_iff.2 hi)⟩
  obtain ⟨g1,e1,k1⟩ := xzl k c
  obtain ⟨g2,e2,k2⟩ := xzl k c2
  have hl : hLeft h.l a = hLeft h.l b := by
   unfold hLeft
   refine List.filter_congr fun s _ => ?_
   have e : a.contains s.1 = b.contains s.1 := by
    rw [Bool.eq_iff_iff,List.contains_iff_mem,List.contains_iff_mem];exact hp.mem_iff
   rw [e]
  have hf := k1.free_eq k2 rfl (fun s => by show s ∈ hLeft h.l a ↔ s ∈ hLeft h.l b;rw [hl])
  rw [e1,e2,hl]
  simp only at hf
  rw [hf]
 ·have c2 : ¬ (b.Nodup /\ ∀ i ∈ b,∃ s ∈ h.l,s.1 = i) := fun c3 => c ⟨hp.nodup_iff.2 c3.1,fun i hi => c3.2 i (hp.mem_iff.1 hi)⟩
  rw [xw6 k c,xw6 k c2]
section
variable {n m : Nat} {v : PoolW}
theorem PlOk.whole (o : PlOk n m v) (hn : v.ws.length <= 65536) {k : CutV} (hk : k ∈ v.ks) : wholeK k = pWhole k.plain := by
 have h := (xqs (o.lst k hk) hn).2.2.2.1
 unfold wholeK pWhole CutV.plain
 simp only
 rw [<- h,Bool.eq_iff_iff]
 simp
 omega
theorem PlOk.plain_filter (o : PlOk n m v) (hn : v.ws.length <= 65536) : (v.ks.filter (fun k => !wholeK k)).map CutV.plain = (v.ks.map CutV.plain).filter (fun c => !pWhole c) /\ (v.ks.filter wholeK).map (·.s.1) = ((v.ks.map CutV.plain).filter pWhole).map (·.1.1) := by
 have e : ∀ k ∈ v.ks,wholeK k = (pWhole ∘ CutV.plain) k := fun k hk => o.whole hn hk
 constructor
 ·rw [List.filter_map]
  congr 1
  exact List.filter_congr fun k hk => by show (!wholeK k) = !(pWhole k.plain);rw [o.whole hn hk]
 ·rw [List.filter_map,List.map_map,List.filter_congr e]
  rfl
theorem PlOk.trim_plain (o : PlOk n m v) (hn : v.ws.length <= 65536) : (trimV v).plain = pSweep v.plain := by
 unfold trimV pSweep
 obtain ⟨e1,e2⟩ := o.plain_filter hn
 cases hh : v.held with
 | true => simp [PoolW.plain,hh]
 | false =>
  simp only [PoolW.plain,hh,Bool.false_eq_true,if_false]
  rw [e1,e2]
theorem PlOk.starts (o : PlOk n m v) (k : HOk v.h) : (v.ks.map (·.s.2.1)).Nodup /\ v.ks.length <= 1024 := by
 have h1 : (v.ks.map (·.s.2.1)).Nodup := by
  refine List.pairwise_map.2 ((List.pairwise_map.1 o.ids).imp_of_mem fun {a b} ha hb hne => ?_)
  have h2 := k.side (o.mem a ha) (o.mem b hb) (fun e => hne (by rw [e]))
  have h3 := k.start (o.mem a ha)
  have h4 := k.start (o.mem b hb)
  omega
 refine ⟨h1,?_⟩
 have h2 := xxk 1024 (v.ks.map fun c => c.s.2.1 + 1) (List.pairwise_map.2 ((List.pairwise_map.1 h1).imp fun {a b} h e => h (by omega))) (fun x hx => by
  obtain ⟨c,hc,rfl⟩ := List.mem_map.1 hx
  have h3 := k.start (o.mem c hc)
  have h4 := k.p1
  omega)
 rw [List.length_map] at h2
 exact h2
def leftK (ks ts : List CutV) : List CutV := ks.filter fun k => !(ts.any fun t => t.s.1 == k.s.1)
theorem ykm (ks : List CutV) : leftK ks [] = ks := by unfold leftK;simp
theorem yza (ks ts : List CutV) (t : CutV) : leftK ks (ts ++ [t]) = (leftK ks ts).filter fun k => !(t.s.1 == k.s.1) := by
 unfold leftK
 rw [List.filter_filter]
 refine List.filter_congr fun k _ => ?_
 rw [List.any_append]
 simp [Bool.and_comm]
theorem xWc (hd : (v.ks.map (·.s.1)).Nodup) {ds : List CutV} (h : InOrderP v.ks ds) : leftK v.ks (ds.filter wholeK) = v.ks.filter fun k => !wholeK k := by
 unfold leftK
 refine List.filter_congr fun k hk => ?_
 congr 1
 rw [Bool.eq_iff_iff,List.any_eq_true]
 constructor
 ·rintro ⟨t,ht,e⟩
  obtain ⟨h1,h2⟩ := List.mem_filter.1 ht
  rw [<- xj0 hd ((h.2.1 t).1 h1) hk (by simpa using e)]
  exact h2
 ·intro hw
  exact ⟨k,List.mem_filter.2 ⟨(h.2.1 k).2 hk,hw⟩,by simp⟩
theorem PIs.del {D : DataW Unit} {ks : List CutV} (h : PIs D ks) (id : Int) : PIs (D.del (.int .i64 id)) (ks.filter fun k => !(id == k.s.1)) := by
 refine ⟨fun i => ?_,fun k hk z => ?_⟩
 ·by_cases c : i = id
  ·subst c
   rw [Maps.has_del_same]
   symm
   rw [List.any_eq_false]
   intro k hk
   have := (List.mem_filter.1 hk).2
   simp at this ⊢
   exact fun e => this e.symm
  ·rw [Maps.has_del_other (xkp c),h.has,List.any_filter]
   congr 1
   funext k
   by_cases e : k.s.1 = i
   ·simp [e,Ne.symm c]
   ·simp [e]
 ·obtain ⟨h1,h2⟩ := List.mem_filter.1 hk
  rw [Maps.atKey_del_other (xkp (fun e : k.s.1 = id => by simp [e] at h2)),h.at_ k h1]
end
structure TrimSt (W1 wr : World) (mb m : Nat) (D : DataW Unit) (ks ds : List CutV) (j : Nat) (A : Option Addr) (c : Nat) : Prop where
 gr : W1.grownBy wr (some mb)
 mp : wr.ownsMap Tryz.prog 3 ptrR mb m D
 mis : PIs D (leftK ks (ds.take j))
 row : wr.ownsRow W1.heap.size 3 1 (.slice A j c) j ((ds.take j).map fun k => iv k.s.1)
theorem TrimSt.app {W1 wr w2 : World} {mb m j c : Nat} {D : DataW Unit} {ks ds : List CutV} {A : Option Addr} (h : TrimSt W1 wr mb m D ks ds j A c) (hlt : mb < W1.heap.size) (hb : Below W1.heap.size wr w2) : W1.grownBy w2 (some mb) /\ w2.ownsMap Tryz.prog 3 ptrR mb m D :=
 ⟨⟨hb.os.trans h.gr.os,hb.tape.trans h.gr.tape,hb.output.trans h.gr.output,Nat.le_trans h.gr.size hb.size,fun i hi hr => (hb.block i hi).trans (h.gr.block i hi hr)⟩,xq2 h.mp (hb.block mb hlt)⟩
theorem xqc {α β : Type} {f : α -> β} {l : List α} (h : (l.map f).Nodup) : l.Nodup := (List.pairwise_map.1 h).imp fun h e => h (by rw [e])
def Trimmed (w : World) (Sh : Nat -> Prop) (p hp ap g mb n m : Nat) (v : PoolW) (e : Ending) (w' : World) : Prop :=
 e = .returned (.tuple #[]) /\ ∃ Sh' D',PlAt w' Sh' p hp ap g mb n m D' (trimV v) /\ PlOk n m (trimV v) /\ Kept (PlS Sh p ap g mb v.ks) w w' /\ ∀ b,Sh' b -> Sh b \/ w.heap.size <= b
theorem PlOk.trim {n m : Nat} {v : PoolW} (o : PlOk n m v) (k : HOk v.h) (hn : v.ws.length <= 65536) : PlOk n m (trimV v) := by
 unfold trimV
 cases hh : v.held with
 | true => simpa using o
 | false =>
  simp only [Bool.false_eq_true,if_false]
  have hids : ((v.ks.filter wholeK).map (·.s.1)).Nodup /\ ∀ i ∈ (v.ks.filter wholeK).map (·.s.1),∃ s ∈ v.h.l,s.1 = i := ⟨List.Nodup.sublist (List.Sublist.map _ List.filter_sublist) o.ids,fun i hi => by
   obtain ⟨c,hc,rfl⟩ := List.mem_map.1 hi
   exact ⟨c.s,o.mem c (List.mem_filter.1 hc).1,rfl⟩⟩
  obtain ⟨g,e1,k1⟩ := xzl k hids
  rw [e1]
  have hsub : ∀ c,c ∈ v.ks.filter (fun k => !wholeK k) -> c ∈ v.ks := fun c hc => (List.mem_filter.1 hc).1
  refine ⟨o.len,o.wide,fun c hc => ?_,fun c hc => o.four c (hsub c hc),fun c hc => o.lst c (hsub c hc),fun c hc => o.sub c (hsub c hc),List.Nodup.sublist (List.Sublist.map _ List.filter_sublist) o.ids,o.cnt⟩
  show c.s ∈ hLeft v.h.l _
  rw [xzn]
  refine ⟨o.mem c (hsub c hc),fun hi => ?_⟩
  obtain ⟨d,hd,e⟩ := List.mem_map.1 hi
  obtain ⟨h1,h2⟩ := List.mem_filter.1 hd
  have h3 := (List.mem_filter.1 hc).2
  rw [<- xj0 o.ids h1 (hsub c hc) e,h2] at h3
  cases h3
set_option maxRecDepth 100000 in
theorem xXk {w : World} {Sh : Nat -> Prop} {p hp ap g mb n m : Nat} {D : DataW Unit} {v : PoolW} (k : PlAt w Sh p hp ap g mb n m D v) (o : PlOk n m v) :
  Calls Tryz.prog 144 #[.pointer (some ⟨p,0,none⟩)] w (Trimmed w Sh p hp ap g mb n m v) := by
 have hws : v.ws.length <= 65536 := by rw [k.ar.hlen];exact k.ar.small
 have cp := xj2 p (some ⟨hp,0,none⟩) (some ⟨ap,0,none⟩) (some mb) v.held w k.c0 k.c1 k.c2 k.c3
 cases hh : v.held with
 | true =>
  have e : trimV v = v := by unfold trimV;rw [hh];rfl
  have HE : Hid (∀ W,Below w.heap.size w W -> Trimmed w Sh p hp ap g mb n m v (.returned (.tuple #[])) W) := hidb (fun W hb => ⟨rfl,Sh,D,by rw [e];exact k.below hb,by rw [e];exact o,Kept.of_below hb _,fun b h => Or.inl h⟩)
  rw [hh] at cp
  clear k o e hh hws
  go_enter Tryz.func144,Tryz.ntmps144
  go_wp2_with (first
   | (go_at_call 150;(with_reducible refine cp.mono ?_);rintro e w1 ⟨rfl,hb1⟩;have P := hidb (HE.out _ (hb1.alloc hb1.size (.cells #[.pointer (some ⟨hp,0,none⟩),.pointer (some ⟨ap,0,none⟩),.map (some mb),.bool true] 145)))))
  exact bodyPost_ret (v := .tuple #[]) (by simp [results,Tryz.results144,go_sem]) rfl P.out
 | false =>
  rw [hh] at cp
  obtain ⟨hst,hlen⟩ := o.starts k.hp_.ok
  have HK := hidb k
  have cr : ∀ W,Below w.heap.size w W -> Calls Tryz.prog 73 #[.pointer (some ⟨p,0,none⟩),.func (.func 204) #[] #[]] W (Rising W v.ks wholeK) := fun W hb => xz7 (k.below hb) o 204 #[] wholeK (fun W2 t hb2 ht c hc => r2_full c t W2 (((k.below hb).cuts c hc).below hb2) ht (o.cutOk k.hp_.ok hc))
  have HDS : Hid (∀ ds,InOrderP v.ks ds -> (ds.filter wholeK).length <= 1024 /\ (∀ c ∈ ds.filter wholeK,c ∈ v.ks) /\ ((ds.filter wholeK).map (·.s.1)).Perm ((v.ks.filter wholeK).map (·.s.1)) /\ leftK v.ks (ds.filter wholeK) = v.ks.filter (fun k => !wholeK k)) := hidb (fun ds hd => by
   have hp1 : ds.Perm v.ks := (List.perm_ext_iff_of_nodup (xqc hd.1) (xqc o.ids)).2 hd.2.1
   have hl : (ds.filter wholeK).length <= ds.length := List.length_filter_le _ _
   exact ⟨by rw [hp1.length_eq] at hl;omega,fun c hc => (hd.2.1 c).1 (List.mem_filter.1 hc).1,(hp1.filter _).map _,xWc o.ids hd⟩)
  have HIN : Hid (∀ c ∈ v.ks,in64 c.s.1) := hidb (fun c hc => by
   have h1 := k.hp_.ok.idr c.s (o.mem c hc)
   have h2 := k.hp_.lb
   exact ⟨by omega,by omega⟩)
  have HEND : Hid (∀ wr D' ks' Sh2 (J : List Int) w',PlAt wr Sh p hp ap g mb n m D' { v with ks := ks' } -> Kept (PlS Sh p ap g mb v.ks) w wr -> ks' = v.ks.filter (fun k => !wholeK k) -> J.Perm ((v.ks.filter wholeK).map (·.s.1)) -> Hp w' (more Sh wr w') hp (hDrop v.h J).1 -> Kept Sh wr w' -> Sh2 = more Sh wr w' -> Trimmed w Sh p hp ap g mb n m v (.returned (.tuple #[])) w') := hidb (fun wr D' ks' Sh2 J w' q1 q2 q3 q4 q5 q6 _ => by
   have h1 := q1.heap_ q6 q5
   have e1 : ({ { v with ks := ks' } with h := (hDrop v.h J).1 } : PoolW) = trimV v := by
    unfold trimV
    rw [hh,yz9 k.hp_.ok q4,q3]
    simp
   rw [e1] at h1
   refine ⟨rfl,_,D',h1,o.trim k.hp_.ok hws,q2.trans q6 (fun b hb h => Or.inl h),fun b hb => ?_⟩
   rcases hb.1 with h | h
   ·exact Or.inl h
   ·exact Or.inr (Nat.le_trans q2.size h))
  have hmb := k.mp.lt
  have HCB : Hid (∀ W,w.grownBy W (some mb) -> ∀ c ∈ v.ks,CutAt W c) := hidb (fun W hg c hc => (k.cuts c hc).keep (hg.block c.b (k.cuts c hc).lt (fun e => (k.nk c hc).2.2.2.1 (by injection e))))
  have HMAP : Hid (∀ W D' ks',w.grownBy W (some mb) -> W.ownsMap Tryz.prog 3 ptrR mb m D' -> PIs D' ks' -> (∀ c ∈ ks',c ∈ v.ks) -> (ks'.map (·.b)).Nodup -> PlAt W Sh p hp ap g mb n m D' { v with ks := ks' }) := hidb (fun W D' ks' hg hm hi hsub hd => by
   have hc := HCB.out W hg
   exact k.map_ (w' := W) hg hm hi (fun c h => ⟨k.cuts c (hsub c h),k.nk c (hsub c h)⟩) hd)
  have HNDB : Hid (∀ ts,(((leftK v.ks ts).map (·.b)).Nodup /\ ∀ c ∈ leftK v.ks ts,c ∈ v.ks)) := hidb (fun ts => ⟨List.Nodup.sublist (List.Sublist.map _ List.filter_sublist) k.nd,fun c hc => (List.mem_filter.1 hc).1⟩)
  have HP0 := hidb k.mp
  have HPI := hidb k.mis
  have HMBS : Hid (∀ W,w.grownBy W (some mb) -> Kept (PlS Sh p ap g mb v.ks) w W) := hidb (fun W hg => (Kept.refl _ w).grown hg (fun b e => by injection e with e;subst e;exact Or.inl (by unfold PlS;simp)))
  obtain ⟨i0,hi,hz0,hz1,hz2⟩ := info_parts xqw
  obtain ⟨ks,hks⟩ : ∃ ks,v.ks = ks := ⟨_,rfl⟩
  rw [hks] at cr HDS HIN HCB HNDB HPI
  have HKS := hidb hks
  clear hks k o hh hws hst hlen
  go_enter Tryz.func144,Tryz.ntmps144
  go_wp2_with (first
   | (go_at_call 150;(with_reducible refine cp.mono ?_);rintro e w1 ⟨rfl,hb1⟩)
   | (go_at_call 73;(with_reducible refine (cr _ (hb1.alloc hb1.size _)).mono ?_);rintro e w2 ⟨ds,hd,A,c,rfl,hrow,hb2'⟩))
  have hbX := hb1.alloc hb1.size (.cells #[.pointer (some ⟨hp,0,none⟩),.pointer (some ⟨ap,0,none⟩),.map (some mb),.bool false] 145)
  have hb2 := hbX.trans (hb2'.mono hbX.size)
  have y0 : w2.cell? ⟨w1.heap.size,0,none⟩ = some (.pointer (some ⟨hp,0,none⟩)) := (hb2'.cell (p := ⟨w1.heap.size,0,none⟩) (by simp)).trans (by simp)
  have y2 : w2.cell? ⟨w1.heap.size,2,none⟩ = some (.map (some mb)) := (hb2'.cell (p := ⟨w1.heap.size,2,none⟩) (by simp)).trans (by simp)
  obtain ⟨hN,hsub,hperm,hleft⟩ := HDS.out ds hd
  generalize ds.filter wholeK = ts at hN hsub hperm hleft hrow
  obtain ⟨N,hNe⟩ : ∃ N,ts.length = N := ⟨_,rfl⟩
  rw [hNe] at hrow hN
  rw [hNe]
  have hsz1 : w.heap.size <= w1.heap.size := hb1.size
  have hsz2 := hb2.size
  have hob : ∀ a,A = some a -> mb < a.block := fun a ha => by
   subst ha
   have hsx : (w1.alloc (.cells #[.pointer (some ⟨hp,0,none⟩),.pointer (some ⟨ap,0,none⟩),.map (some mb),.bool false] 145)).heap.size = w1.heap.size + 1 := by simp
   rcases hrow.2 with ⟨h,_⟩ | ⟨g',cap,cur,h,hg',_⟩
   ·cases h
   ·injection h with h1
    injection h1 with h1
    rw [h1]
    show mb < g'
    omega
  have hsl : Sl w2 w2.heap.size A N (ts.map pv) := by rw [xxw] at hrow;exact Sl.of_own hrow
  have HX : Hid (∀ W,w2.grownBy W (some mb) -> W.cell? ⟨w1.heap.size,0,none⟩ = some (.pointer (some ⟨hp,0,none⟩)) /\ W.cell? ⟨w1.heap.size,2,none⟩ = some (.map (some mb)) /\ Sl W W.heap.size A N (ts.map pv) /\ (∀ c ∈ ks,CutAt W c) /\ w.grownBy W (some mb)) := hidb (fun W hg => by
   have hlt1 : w1.heap.size < w2.heap.size := xq0 y0
   have hbx := hg.block w1.heap.size hlt1 (fun e => by injection e with e;omega)
   have hgw := xq4 (xq3 hb2 (some mb)) hg
   exact ⟨(World.cell?_of_block (w := w2) (a := ⟨w1.heap.size,0,none⟩) hbx).trans y0,(World.cell?_of_block (w := w2) (a := ⟨w1.heap.size,2,none⟩) hbx).trans y2,(hsl.beside hg (fun _ a ha e => by have := hob a ha;omega)).more hg.size,HCB.out W hgw,hgw⟩)
  have HT0 : Hid (TrimSt w2 w2 mb m D ks ts 0 none 0) := hidb (by
   refine ⟨grownSelf _ _,xq2 HP0.out (hb2.block mb hmb),?_,?_⟩
   ·rw [List.take_zero,ykm];exact HPI.out
   ·rw [List.take_zero];exact World.ownsRow_nil _ _ _ _)
  have hmb2 : mb < w2.heap.size := by omega
  have HNE := hidb hNe
  have HSUB := hidb hsub
  have HB2 := hidb hb2
  clear hrow hd hob hsl y0 y2 hbX hb2' HDS HCB HP0 HPI hNe hsub cr hb2 cp
  go_loopw [3,5,13] (fun s3 _ s13 wr => ∃ (j : Nat) (A' : Option Addr) (c' : Nat) (D' : DataW Unit),s13 = .int .i64 j /\ s3 = .slice A' j c' /\ j <= N /\ Hid (TrimSt w2 wr mb m D' ks ts j A' c')) (fun _ _ s13 _ => (N - intOf s13).toNat)
  case atStart => exact ⟨0,none,0,D,rfl,rfl,by omega,HT0⟩
  case round =>
   obtain ⟨j,A',c',D',rfl,rfl,hj,HT⟩ := hrel
   by_cases hlt : j < N
   ·obtain ⟨y0,y2,hsl,hcut,hgw⟩ := HX.out wr HT.out.gr
    obtain ⟨b,off,u,rfl,_,hx,hc⟩ := hsl.at_ hlt
    obtain ⟨q,hq,rfl⟩ : ∃ q,ts[j]? = some q /\ pv q = u := by
     rw [List.getElem?_map] at hx
     exact Option.map_eq_some_iff.1 hx
    have hqk := HSUB.out q (List.mem_of_getElem? hq)
    have hid := HIN.out q hqk
    have hk0 := (hcut q hqk).c0
    have hj0 : (0 : Int) <= (j : Int) := by omega
    have hj1 : (j : Int) < (N : Int) := by omega
    have HQ := hidb hq
    clear hx hq
    unfold pv at hc
    have hown := HT.out.row
    have hsz3 := HT.out.gr.size
    obtain ⟨id,hidq⟩ : ∃ id,q.s.1 = id := ⟨_,rfl⟩
    rw [hidq] at hid hk0
    have hqb : q.b < wr.heap.size := xq0 hk0
    have HQS := hidb hidq
    clear hidq hsl hcut hgw
    go_wp2_with (first
     | (at_builtin;refine xqo wr rfl _ _ 38 rfl w2.heap.size 3 i0 (.int .i64 0) 8 Tryz.underlying38 hi hz0 hz1 hz2 rfl _ _ _ rfl (by exact hown) hsz3 (.int .i64 id) rfl _ rfl (by unfold maxLen;omega) (by omega) ?_;intro v3 w3 hown3 hb3;obtain ⟨A3,c3,rfl⟩ := xzr hown3))
    obtain ⟨hg3,hm3⟩ := HT.out.app hmb2 hb3
    obtain ⟨w4,hrun,hown4,hturn⟩ := World.ownsMap.drop (P := Tryz.prog) (w := w3.drew) (xq2 (w' := w3.drew) hm3 rfl) keyed Tryz.underlying143 (xzp hid) 0
    have hg4 : w3.drew.grownBy w4 (some mb) := hturn.grown
    have hg24 : w2.grownBy w4 (some mb) := xq4 (xX8 hg3) hg4
    have HT4 : Hid (TrimSt w2 w4 mb m (D'.del (.int .i64 id)) ks ts (j + 1) A3 c3) := hidb (by
     have e : ts.take (j + 1) = ts.take j ++ [q] := by rw [List.take_add_one,HQ.out];rfl
     refine ⟨hg24,hown4,?_,?_⟩
     ·rw [e,yza,HQS.out]
      exact HT.out.mis.del id
     ·rw [e,List.map_append]
      have h1 := xZp (W := w3.drew) (W' := w4) (b := mb) (base := w2.heap.size) (by exact hown3) hmb2 hg4
      rw [show [q].map (fun k => iv k.s.1) = [iv id] by simp [HQS.out]]
      exact h1)
    obtain ⟨x0,x2,_,hcut3,_⟩ := HX.out w3 hg3
    have xk := (hcut3 q hqk).c0
    rw [HQS.out] at xk
    have S4 : Hid (w4.cell? ⟨w1.heap.size,2,none⟩ = some (.map (some mb)) /\ w4.cell? ⟨q.b,0,none⟩ = some (.int .i64 id)) := hidb (by
     obtain ⟨_,z2,_,hcut4,_⟩ := HX.out w4 hg24
     have zk := (hcut4 q hqk).c0
     rw [HQS.out] at zk
     exact ⟨z2,zk⟩)
    clear hown3 hb3 hg3 hm3 hturn hg4 hg24 hown4 hcut3 hown y0 y2 hk0 x0
    go_region_held3 (fun w' => w'.cell? ⟨w1.heap.size,2,none⟩ = some (.map (some mb)) /\ w'.cell? ⟨q.b,0,none⟩ = some (.int .i64 id)) (first | exact S4.out | (go_keep;done)) (fail)
    go_wp2
    go_roundw
    case rel => exact ⟨j + 1,A3,c3,_,by go_num,rfl,by omega,HT4⟩
    case measure => simp [intOf];omega
   ·obtain rfl : j = N := by omega
    obtain ⟨y0,y2,_,_,hgw⟩ := HX.out wr HT.out.gr
    have ht : ts.take j = ts := List.take_of_length_le (by rw [HNE.out];exact Nat.le_refl _)
    have hrow := HT.out.row
    rw [ht] at hrow
    have hsl : Sl wr wr.heap.size A' j ((ts.map (·.s.1)).map iv) := by rw [List.map_map];exact Sl.of_own hrow
    obtain ⟨hnd,hsub2⟩ := HNDB.out ts
    have hmis := HT.out.mis
    rw [ht] at hmis
    have hpl := HMAP.out wr D' (leftK ks ts) hgw HT.out.mp hmis (by rw [HKS.out];exact hsub2) hnd
    have hf := yxw hpl.hp_ A' j c' (ts.map (·.s.1)) hsl (by omega) (fun i hi => by
     obtain ⟨q,hq,rfl⟩ := List.mem_map.1 hi
     exact HIN.out q (HSUB.out q hq))
    have HPL := hidb hpl
    have HGW := hidb hgw
    have HFIN : Hid (∀ w5,Hp w5 (more Sh wr w5) hp (hDrop v.h (ts.map (·.s.1))).1 -> Kept Sh wr w5 -> Trimmed w Sh p hp ap g mb n m v (.returned (.tuple #[])) w5) := hidb (fun w5 h1 h2 => HEND.out wr D' (leftK ks ts) _ (ts.map (·.s.1)) w5 HPL.out (HMBS.out wr HGW.out) (by rw [HKS.out];exact hleft) (by rw [HKS.out];exact hperm) h1 h2 rfl)
    unfold FreedHp at hf
    clear hrow hsl hmis hpl hgw HT HX hnd hsub2
    go_wp2_with (go_at_call 205;(with_reducible refine hf.mono ?_);rintro e w5 ⟨rfl,hp5,hk5⟩;have P := hidb (HFIN.out w5 hp5 hk5))
    exact bodyPost_ret (v := .tuple #[]) (by simp [results,Tryz.results144,go_sem]) rfl P.out
def holdV (v : PoolW) (on : Bool) : PoolW := trimV { v with held := on }
def Held (w : World) (Sh : Nat -> Prop) (p hp ap g mb n m : Nat) (v : PoolW) (on : Bool) (e : Ending) (w' : World) : Prop :=
 e = .returned (.bool v.held) /\ ∃ Sh' D',PlAt w' Sh' p hp ap g mb n m D' (holdV v on) /\ PlOk n m (holdV v on) /\ Kept (PlS Sh p ap g mb v.ks) w w' /\ ∀ b,Sh' b -> Sh b \/ w.heap.size <= b
theorem yzb {w : World} {Sh : Nat -> Prop} {p hp ap g mb n m : Nat} {D : DataW Unit} {v : PoolW} (k : PlAt w Sh p hp ap g mb n m D v) (o : PlOk n m v) (on : Bool) :
  Calls Tryz.prog 70 #[.pointer (some ⟨p,0,none⟩),.bool on] w (Held w Sh p hp ap g mb n m v on) := by
 have k2 := k.hold on
 have o2 : PlOk n m { v with held := on } := ⟨o.len,o.wide,o.mem,o.four,o.lst,o.sub,o.ids,o.cnt⟩
 have ct := xXk k2 o2
 have HE : Hid (∀ w',Trimmed (w.setCell ⟨p,3,none⟩ (.bool on)) Sh p hp ap g mb n m { v with held := on } (.returned (.tuple #[])) w' -> Held w Sh p hp ap g mb n m v on (.returned (.bool v.held)) w') := hidb (fun w' ⟨_,Sh',D',q1,q2,q3,q4⟩ => by
  refine ⟨rfl,Sh',D',q1,q2,?_,fun b hb => by simpa using q4 b hb⟩
  exact (((Kept.refl (PlS Sh p ap g mb v.ks) w).set (a := ⟨p,3,none⟩) (Or.inl (by unfold PlS;simp)) (.bool on))).trans q3 (fun b hb h => h))
 have c3 := k.c3
 have f3 := k.fz 3
 obtain ⟨held,hh⟩ : ∃ held,v.held = held := ⟨_,rfl⟩
 rw [hh] at c3 HE
 clear k k2 o o2 hh
 go_enter Tryz.func70,Tryz.ntmps70
 go_wp2_with (go_at_call 144;(with_reducible refine ct.mono ?_);rintro e w1 ht;have he := ht.1;subst he;have P := hidb (HE.out _ ht);clear ht)
 go_ret
 exact P.out
theorem xXl : ∀ {m : List Int} {s : List Nat × (Int × Int)} {h : Int} {l : List Int},(∀ x ∈ m,0 <= x /\ x ∉ l) -> Links s.1 h l -> Links (cAll s m).1 h l
 | [],s,h,l,_,k => k
 | a :: m,s,h,l,hm,k => by
  have ha := hm a (List.mem_cons_self ..)
  exact xXl (m := m) (s := cStep s a) (fun x hx => hm x (List.mem_cons_of_mem _ hx)) (k.set_ ha.1 ha.2)
theorem xKs {ws : List Nat} {c : Int × Int} {l m : List Int} (c0 : Int × Int) (h : cList ws c = some l) (hm : ∀ x ∈ m,0 <= x /\ x ∉ l) : cList (cAll (ws,c0) m).1 c = some l := by
 obtain ⟨c1,c2⟩ := c
 obtain ⟨h1,h2,h3⟩ := xqh.1 h
 exact xqh.2 ⟨xXl (s := (ws,c0)) hm h1,h2,h3⟩
theorem nodup_at {l : List Int} (hd : l.Nodup) {i : Nat} (hi : i < l.length) : l.getD i 0 ∉ l.take i := fun c => by
 obtain ⟨j,hj,e⟩ := List.mem_iff_getElem.1 c
 rw [List.length_take] at hj
 rw [List.getElem_take,List.getD_eq_getElem?_getD,List.getElem?_eq_getElem hi] at e
 exact absurd e ((List.pairwise_iff_getElem.1 hd) j i (by omega) hi (by omega))
theorem xXm {ws : List Nat} {c : Int × Int} {l m : List Int} (h : cList ws c = some l) (hd : (m ++ l).Nodup) (hr : ∀ x ∈ m,0 <= x /\ x < (ws.length : Int)) (hw : Wide ws) (hn : ws.length <= 65536) :
  ∃ ws' c',cPush ws c m = (ws',c',0) /\ cList ws' c' = some (m.reverse ++ l) /\ ws'.length = ws.length /\ Wide ws' /\ ∀ c2 l2,cList ws c2 = some l2 -> (∀ x ∈ m,x ∉ l2) -> cList ws' c2 = some l2 := by
 have h1 : cIn ws.length m = true := by
  unfold cIn
  rw [List.all_eq_true]
  exact fun x hx => decide_eq_true (hr x hx)
 have hdm := (List.nodup_append.1 hd).1
 have h2 : cClash l m = false := yjn fun i hi => ⟨fun c2 => (List.nodup_append.1 hd).2.2 (m.getD i 0) (by rw [List.getD_eq_getElem?_getD,List.getElem?_eq_getElem hi];exact List.getElem_mem _) _ c2 rfl,nodup_at hdm hi⟩
 refine ⟨(cAll (ws,c) m).1,(cAll (ws,c) m).2,?_,xKj h hd hr,xzy ..,?_,fun c2 l2 h3 h4 => xKs c h3 fun x hx => ⟨(hr x hx).1,h4 x hx⟩⟩
 ·unfold cPush
  rw [h]
  simp only
  rw [h1,h2];rfl
 ·obtain ⟨c1,c2⟩ := c
  have h5 := (xqh.1 h).1.range
  exact Wide.cAll hw (by show c1.toNat < _;omega) fun x hx => by have := hr x hx;omega
theorem xKt {ws : List Nat} {c : Int × Int} {a : Int} {l : List Int} (h : cList ws c = some (a :: l)) (hw : Wide ws) (hn : ws.length <= 65536) :
  ∃ ws' c',cPop ws c = (ws',c',a,0) /\ cList ws' c' = some l /\ ws'.length = ws.length /\ Wide ws' /\ ∀ c2 l2,cList ws c2 = some l2 -> (∀ x ∈ a :: l,x ∉ l2) -> cList ws' c2 = some l2 := by
 obtain ⟨hd,hr,hlen⟩ := xqr h
 have har := hr a (List.mem_cons_self ..)
 obtain ⟨h1,_,_,h4⟩ := xvv h (List.mem_cons_self ..)
 have hf : (a :: l).filter (fun x => x != a) = l := by
  have := (List.nodup_cons.1 hd).1
  rw [List.filter_cons_of_neg (by simp)]
  exact List.filter_eq_self.2 fun x hx => by simpa using fun e : x = a => this (e ▸ hx)
 rw [hf] at h1
 have hm : ∀ x ∈ (a :: l).reverse.filter (fun x => x != a),x ∈ a :: l := fun x hx => List.mem_reverse.1 (List.mem_filter.1 hx).1
 refine ⟨_,_,by unfold cPop;rw [h],h1,h4,?_,fun c2 l2 h3 h5 => ?_⟩
 ·unfold cWithout
  exact Wide.cAll (hw.set _ (by omega)) (by show (0 : Int).toNat < _;decide) fun x hx => by have := hr x (hm x hx);omega
 ·unfold cWithout
  have h6 : cList (ws.set a.toNat 0) c2 = some l2 := by
   obtain ⟨p,q⟩ := c2
   obtain ⟨q1,q2,q3⟩ := xqh.1 h3
   exact xqh.2 ⟨q1.set_ har.1 (h5 a (List.mem_cons_self ..)),q2,q3⟩
  exact xKs (0,0) h6 fun x hx => ⟨(hr x (hm x hx)).1,h5 x (hm x hx)⟩
section
variable {n m : Nat} {v : PoolW}
theorem PlOk.blocks_apart (o : PlOk n m v) (k : HOk v.h) {c d : CutV} (hc : c ∈ v.ks) (hd : d ∈ v.ks) {a : Int} (h1 : a ∈ pBlocks c.s) (h2 : a ∈ pBlocks d.s) : c = d := by
 obtain ⟨f1,f2,f3⟩ := o.four c hc
 obtain ⟨g1,g2,g3⟩ := o.four d hd
 have e := k.apart (o.mem c hc) (o.mem d hd) (xx5 h1 f1 ⟨f2,f3⟩) (xx5 h2 g1 ⟨g2,g3⟩)
 exact xj0 o.ids hc hd (by rw [e])
theorem PlOk.block_range (o : PlOk n m v) (k : HOk v.h) {c : CutV} (hc : c ∈ v.ks) {a : Int} (h1 : a ∈ pBlocks c.s) : 0 <= a /\ a < (n : Int) := by
 obtain ⟨f1,f2,f3⟩ := o.four c hc
 have h2 := xz8 h1 f1 ⟨f2,f3⟩
 have h3 := (xx4 c.s.2.2.2 f2 f3).2.2.2
 have h4 := k.start (o.mem c hc)
 have h5 := o.len
 rw [f1] at h4
 omega
theorem PlOk.chain (o : PlOk n m v) (hd : (v.ks.map (·.b)).Nodup) {i : Nat} {c : CutV} (hi : v.ks[i]? = some c) {ws' : List Nat} {c' : Int × Int} {l' : List Int} (hw : Wide ws') (hl : cList ws' c' = some l') (hs : ∀ x ∈ l',x ∈ pBlocks c.s)
  (hk : ∀ k ∈ v.ks,k.b ≠ c.b -> cList ws' k.c = some k.l) : PlOk n m { v with ws := ws',ks := setC v.ks i c c' l' } := by
 have hcm := List.mem_of_getElem? hi
 refine ⟨o.len,hw,fun x hx => ?_,fun x hx => ?_,fun x hx => ?_,fun x hx => ?_,?_,o.cnt⟩
 ·rcases xzc hi hx hd with rfl | ⟨h1,h2⟩
  ·exact o.mem c hcm
  ·exact o.mem x h1
 ·rcases xzc hi hx hd with rfl | ⟨h1,h2⟩
  ·exact o.four c hcm
  ·exact o.four x h1
 ·rcases xzc hi hx hd with rfl | ⟨h1,h2⟩
  ·exact hl
  ·exact hk x h1 h2
 ·rcases xzc hi hx hd with rfl | ⟨h1,h2⟩
  ·exact hs
  ·exact o.sub x h1
 ·show ((setC v.ks i c c' l').map (·.s.1)).Nodup
  rw [xwb (·.s.1) (fun _ _ _ => rfl) hi]
  exact o.ids
end
def Stays (ws ws' : List Nat) (T : Int -> Prop) : Prop := ∀ c l,cList ws c = some l -> (∀ x ∈ l,¬ T x) -> cList ws' c = some l
theorem Stays.refl (ws : List Nat) (T : Int -> Prop) : Stays ws ws T := fun _ _ h _ => h
theorem Stays.trans {a b c : List Nat} {T T' U : Int -> Prop} (h : Stays a b T) (h' : Stays b c T') (i : ∀ x,T x -> U x) (i' : ∀ x,T' x -> U x) : Stays a c U := fun q l hl hn => h' q l (h q l hl fun x hx ht => hn x hx (i x ht)) fun x hx ht => hn x hx (i' x ht)
theorem Stays.mono {a b : List Nat} {T U : Int -> Prop} (h : Stays a b T) (i : ∀ x,T x -> U x) : Stays a b U := fun q l hl hn => h q l hl fun x hx ht => hn x hx (i x ht)
def OutOf (ks : List CutV) (x : Int) : Prop := ∃ k ∈ ks,x ∈ pBlocks k.s /\ x ∉ k.l
def Went (w : World) (Sh : Nat -> Prop) (p hp ap g mb n : Nat) (ks : List CutV) (w' : World) (v' : PoolW) : Prop :=
 ∃ Sh' m' D',PlAt w' Sh' p hp ap g mb n m' D' v' /\ PlOk n m' v' /\ Kept (PlS Sh p ap g mb ks) w w' /\ ∀ b,PlS Sh' p ap g mb v'.ks b -> PlS Sh p ap g mb ks b \/ w.heap.size <= b
theorem Went.trans {w w' w'' : World} {Sh Sh' : Nat -> Prop} {p hp ap g mb n : Nat} {ks : List CutV} {v' v'' : PoolW} (hk : Kept (PlS Sh p ap g mb ks) w w') (hs : ∀ b,PlS Sh' p ap g mb v'.ks b -> PlS Sh p ap g mb ks b \/ w.heap.size <= b) (h : Went w' Sh' p hp ap g mb n v'.ks w'' v'') : Went w Sh p hp ap g mb n ks w'' v'' := by
 obtain ⟨S2,m2,D2,q1,q2,q3,q4⟩ := h
 refine ⟨S2,m2,D2,q1,q2,hk.trans q3 (fun b hb h2 => ?_),fun b hb => ?_⟩
 ·rcases hs b h2 with h3 | h3
  ·exact h3
  ·omega
 ·rcases q4 b hb with h2 | h2
  ·exact hs b h2
  ·exact Or.inr (Nat.le_trans hk.size h2)
theorem Trimmed.went {w w' : World} {Sh : Nat -> Prop} {p hp ap g mb n m : Nat} {v : PoolW} {e : Ending} (h : Trimmed w Sh p hp ap g mb n m v e w') : Went w Sh p hp ap g mb n v.ks w' (trimV v) := by
 obtain ⟨_,S2,D2,q1,q2,q3,q4⟩ := h
 refine ⟨S2,m,D2,q1,q2,q3,fun b hb => ?_⟩
 have hsub : ∀ c ∈ (trimV v).ks,c ∈ v.ks := fun c hc => by
  unfold trimV at hc
  split at hc
  ·exact hc
  ·exact (List.mem_filter.1 hc).1
 rcases hb with h | h | h | h | h | ⟨c,hc,e⟩
 ·rcases q4 b h with h2 | h2
  ·exact Or.inl (Or.inl h2)
  ·exact Or.inr h2
 ·exact Or.inl (Or.inr (Or.inl h))
 ·exact Or.inl (Or.inr (Or.inr (Or.inl h)))
 ·exact Or.inl (Or.inr (Or.inr (Or.inr (Or.inl h))))
 ·exact Or.inl (Or.inr (Or.inr (Or.inr (Or.inr (Or.inl h)))))
 ·exact Or.inl (Or.inr (Or.inr (Or.inr (Or.inr (Or.inr ⟨c,hsub c hc,e⟩)))))
abbrev PL := List ((Int × Int × Int × Int) × List Int)
def fsP (l : PL) (order from' : Int) (s : Bool) (j : Nat) : Option Nat := (List.range j).foldl (pStep order from' s l) none
theorem fsP_succ (l : PL) (order from' : Int) (s : Bool) (j : Nat) : fsP l order from' s (j + 1) = pStep order from' s l (fsP l order from' s j) j := by
 unfold fsP;rw [List.range_succ,List.foldl_append];rfl
theorem yqo (l : PL) (order from' : Int) (s : Bool) : ∀ j,j <= l.length -> (fsP l order from' s j = none /\ ∀ i c,i < j -> l[i]? = some c -> pFits order from' s c = false) \/ ∃ b c,fsP l order from' s j = some b /\ b < j /\ l[b]? = some c /\ pFits order from' s c = true /\ ∀ i d,i < j -> l[i]? = some d -> pFits order from' s d = true -> c.1.2.1 <= d.1.2.1
 | 0,_ => Or.inl ⟨rfl,fun i c h => absurd h (Nat.not_lt_zero _)⟩
 | j + 1,hj => by
  have ih := yqo l order from' s j (by omega)
  have hx : l[j]? = some l[j] := List.getElem?_eq_getElem (by omega)
  rw [fsP_succ]
  unfold pStep
  rw [hx]
  simp only
  by_cases hf : pFits order from' s l[j] = true
  ·rw [if_pos hf]
   rcases ih with ⟨e,h⟩ | ⟨b,c,e,hb,hc,hfc,hm⟩
   ·rw [e]
    refine Or.inr ⟨j,l[j],rfl,by omega,hx,hf,fun i d hi hd hfd => ?_⟩
    by_cases hij : i = j
    ·subst hij;rw [hx] at hd;injection hd with hd;rw [hd];exact Int.le_refl _
    ·have := h i d (by omega) hd;rw [hfd] at this;cases this
   ·rw [e]
    simp only
    rw [hc]
    simp only
    by_cases hlt : l[j].1.2.1 < c.1.2.1
    ·rw [if_pos hlt]
     refine Or.inr ⟨j,l[j],rfl,by omega,hx,hf,fun i d hi hd hfd => ?_⟩
     by_cases hij : i = j
     ·subst hij;rw [hx] at hd;injection hd with hd;rw [hd];exact Int.le_refl _
     ·have := hm i d (by omega) hd hfd;omega
    ·rw [if_neg hlt]
     refine Or.inr ⟨b,c,rfl,by omega,hc,hfc,fun i d hi hd hfd => ?_⟩
     by_cases hij : i = j
     ·subst hij;rw [hx] at hd;injection hd with hd;rw [<- hd];omega
     ·exact hm i d (by omega) hd hfd
  ·rw [if_neg hf]
   have hf2 : pFits order from' s l[j] = false := by simpa using hf
   rcases ih with ⟨e,h⟩ | ⟨b,c,e,hb,hc,hfc,hm⟩
   ·refine Or.inl ⟨e,fun i c hi hc => ?_⟩
    by_cases hij : i = j
    ·subst hij;rw [hx] at hc;injection hc with hc;rw [<- hc];exact hf2
    ·exact h i c (by omega) hc
   ·refine Or.inr ⟨b,c,e,by omega,hc,hfc,fun i d hi hd hfd => ?_⟩
    by_cases hij : i = j
    ·subst hij;rw [hx] at hd;injection hd with hd;rw [<- hd,hf2] at hfd;cases hfd
    ·exact hm i d (by omega) hd hfd
theorem xz9 (l : PL) (order from' : Int) (s : Bool) : (pFirst l order from' s = none /\ ∀ c ∈ l,pFits order from' s c = false) \/ ∃ b c,pFirst l order from' s = some b /\ l[b]? = some c /\ pFits order from' s c = true /\ ∀ d ∈ l,pFits order from' s d = true -> c.1.2.1 <= d.1.2.1 := by
 rcases yqo l order from' s l.length (Nat.le_refl _) with ⟨e,h⟩ | ⟨b,c,e,hb,hc,hf,hm⟩
 ·refine Or.inl ⟨e,fun c hc => ?_⟩
  obtain ⟨i,hi,rfl⟩ := List.mem_iff_getElem.1 hc
  exact h i _ hi (List.getElem?_eq_getElem hi)
 ·refine Or.inr ⟨b,c,e,hc,hf,fun d hd hfd => ?_⟩
  obtain ⟨i,hi,rfl⟩ := List.mem_iff_getElem.1 hd
  exact hm i _ hi (List.getElem?_eq_getElem hi) hfd
theorem xXn {n m : Nat} {v : PoolW} (o : PlOk n m v) (k : HOk v.h) {a b : CutV} (ha : a ∈ v.ks) (hb : b ∈ v.ks) (h : a.s.2.1 = b.s.2.1) : a = b := by
 refine xj0 o.ids ha hb ?_
 have h1 := k.start (o.mem a ha)
 have h2 := k.start (o.mem b hb)
 rw [k.apart (o.mem a ha) (o.mem b hb) (p := a.s.2.1) ⟨Int.le_refl _,by omega⟩ (by omega)]
theorem xKu {n m : Nat} {v : PoolW} (o : PlOk n m v) (k : HOk v.h) {ds : List CutV} (hd : InOrderP v.ks ds) (f : CutV -> Bool) (order : Int) (s : Bool) (hf : ∀ c ∈ v.ks,f c = pFits order 0 s c.plain) :
  (ds.filter f = [] /\ pFirst (v.ks.map CutV.plain) order 0 s = none) \/ ∃ c r i,ds.filter f = c :: r /\ v.ks[i]? = some c /\ f c = true /\ pFirst (v.ks.map CutV.plain) order 0 s = some i := by
 cases e : ds.filter f with
 | nil =>
  refine Or.inl ⟨rfl,?_⟩
  rcases xz9 (v.ks.map CutV.plain) order 0 s with ⟨h,_⟩ | ⟨b,c,h,hc,hfc,_⟩
  ·exact h
  ·rw [List.getElem?_map] at hc
   obtain ⟨q,hq,rfl⟩ := Option.map_eq_some_iff.1 hc
   have hm := List.mem_of_getElem? hq
   have := List.filter_eq_nil_iff.1 e q ((hd.2.1 q).2 hm)
   rw [hf q hm,hfc] at this
   exact absurd rfl this
 | cons c r =>
  have hc : c ∈ ds.filter f := by rw [e];exact List.mem_cons_self ..
  obtain ⟨h1,h2⟩ := List.mem_filter.1 hc
  have hck := (hd.2.1 c).1 h1
  have hmin : ∀ d ∈ v.ks,f d = true -> c.s.2.1 <= d.s.2.1 := fun d hdm hfd => by
   have h3 : d ∈ c :: r := by rw [<- e];exact List.mem_filter.2 ⟨(hd.2.1 d).2 hdm,hfd⟩
   have h4 : (c :: r).Pairwise (fun a b : CutV => a.s.2.1 <= b.s.2.1) := by rw [<- e];exact hd.2.2.filter _
   rcases List.mem_cons.1 h3 with rfl | h3
   ·exact Int.le_refl _
   ·exact (List.pairwise_cons.1 h4).1 d h3
  rcases xz9 (v.ks.map CutV.plain) order 0 s with ⟨_,h⟩ | ⟨b,d,h,hdb,hfd,hm⟩
  ·have := h c.plain (List.mem_map.2 ⟨c,hck,rfl⟩)
   rw [<- hf c hck,h2] at this;cases this
  ·rw [List.getElem?_map] at hdb
   obtain ⟨q,hq,rfl⟩ := Option.map_eq_some_iff.1 hdb
   have hqm := List.mem_of_getElem? hq
   have h5 : q = c := xXn o k hqm hck (by
    have h6 := hmin q hqm (by rw [hf q hqm];exact hfd)
    have h7 := hm c.plain (List.mem_map.2 ⟨c,hck,rfl⟩) (by rw [<- hf c hck];exact h2)
    have h8 : q.s.2.1 <= c.s.2.1 := h7
    omega)
   subst h5
   exact Or.inr ⟨q,r,b,rfl,hq,h2,h⟩
def pTake (p : PoolV) (order : Int) : PoolV × Int × Int :=
 if order < 0 \/ 3 < order then (p,0,1) else
 match pFirst p.l order 0 true with
 | some i => (match p.l[i]? with
  | some c => ({ p with l := p.l.set i (c.1,c.2.tail) },c.2.headD 0,0)
  | none => (p,0,0))
 | none => if (hMake p.heap 4 order).2.2 = 0 then (⟨(hMake p.heap 4 order).1,p.l ++ [((hMake p.heap 4 order).2.1,(pBlocks (hMake p.heap 4 order).2.1).tail)],p.held⟩,(pBlocks (hMake p.heap 4 order).2.1).headD 0,0) else (p,0,(hMake p.heap 4 order).2.2)
def pPut (l : PL) (x : Int) : Option PL := match pOf l x with
 | none => none
 | some i => match l[i]? with
  | none => none
  | some c => if x ∈ c.2 then none else some (l.set i (c.1,x :: c.2))
def pPuts (l : PL) (xs : List Int) : Option PL := xs.foldl (fun o x => o.bind (pPut · x)) (some l)
def pGive (p : PoolV) (xs : List Int) : PoolV × Int := if xs.any (fun x => (pOf p.l x).isNone) then (p,2) else match pPuts p.l xs with
 | none => (p,9)
 | some l => if xs = [] then (p,0) else (pSweep { p with l := l },0)
theorem xKv (ks : List CutV) (x : Int) : (cutAtP ks x = none /\ pOf (ks.map CutV.plain) x = none) \/ ∃ c i,cutAtP ks x = some c /\ pOf (ks.map CutV.plain) x = some i /\ ks[i]? = some c := by
 induction ks with
 | nil => exact Or.inl ⟨rfl,rfl⟩
 | cons k ks ih =>
  by_cases h : x ∈ pBlocks k.s
  ·refine Or.inr ⟨k,0,?_,?_,rfl⟩
   ·unfold cutAtP;rw [List.find?_cons_of_pos (by simpa using h)]
   ·unfold pOf;rw [List.map_cons,List.findIdx?_cons,if_pos (by show decide (x ∈ pBlocks k.s) = true;simpa using h)]
  ·have e1 : cutAtP (k :: ks) x = cutAtP ks x := by unfold cutAtP;rw [List.find?_cons_of_neg (by simpa using h)]
   have e2 : pOf ((k :: ks).map CutV.plain) x = (pOf (ks.map CutV.plain) x).map (· + 1) := by
    unfold pOf;rw [List.map_cons,List.findIdx?_cons,if_neg (by show ¬ decide (x ∈ pBlocks k.s) = true;simpa using h)]
   rw [e1,e2]
   rcases ih with ⟨h1,h2⟩ | ⟨c,i,h1,h2,h3⟩
   ·exact Or.inl ⟨h1,by rw [h2];rfl⟩
   ·exact Or.inr ⟨c,i + 1,h1,by rw [h2];rfl,by simpa using h3⟩
theorem ykn (ks : List CutV) (x : Int) : (pOf (ks.map CutV.plain) x).isNone = (cutAtP ks x).isNone := by
 rcases xKv ks x with ⟨h1,h2⟩ | ⟨c,i,h1,h2,_⟩ <;> rw [h1,h2] <;> rfl
theorem xj3 {l l' : PL} (h : l'.map (·.1) = l.map (·.1)) (x : Int) : pOf l' x = pOf l x := by
 have e : ∀ m : PL,pOf m x = (m.map (·.1)).findIdx? fun s => decide (x ∈ pBlocks s) := fun m => by unfold pOf;rw [List.findIdx?_map];rfl
 rw [e,e,h]
theorem yko {l : PL} {i : Nat} {c : (Int × Int × Int × Int) × List Int} (hi : l[i]? = some c) (ys : List Int) : (l.set i (c.1,ys)).map (·.1) = l.map (·.1) := by
 rw [List.map_set]
 apply List.ext_getElem?
 intro j
 rw [List.getElem?_set]
 by_cases h : i = j
 ·subst h
  obtain ⟨h1,_⟩ := List.getElem?_eq_some_iff.1 hi
  rw [if_pos rfl,if_pos (by simpa using h1),List.getElem?_map,hi];rfl
 ·rw [if_neg h]
theorem ykp {l l' : PL} {x : Int} (h : pPut l x = some l') : l'.map (·.1) = l.map (·.1) /\ (∀ (i : Nat) c,l[i]? = some c -> ∃ c',l'[i]? = some c' /\ ∀ y ∈ c.2,y ∈ c'.2) /\ ∃ i c c',pOf l x = some i /\ l[i]? = some c /\ x ∉ c.2 /\ l'[i]? = some c' /\ x ∈ c'.2 := by
 unfold pPut at h
 cases hO : pOf l x with
 | none => rw [hO] at h;cases h
 | some i =>
  rw [hO] at h
  simp only at h
  cases hc : l[i]? with
  | none => rw [hc] at h;cases h
  | some c =>
   rw [hc] at h
   simp only at h
   split at h
   ·cases h
   ·next hx =>
    injection h with h
    subst h
    obtain ⟨hi,_⟩ := List.getElem?_eq_some_iff.1 hc
    have hs : (l.set i (c.1,x :: c.2))[i]? = some (c.1,x :: c.2) := by rw [List.getElem?_set_self hi]
    refine ⟨yko hc _,fun j d hj => ?_,i,c,_,rfl,hc,hx,hs,List.mem_cons_self ..⟩
    by_cases e : i = j
    ·subst e
     rw [hc] at hj
     injection hj with hj
     subst hj
     exact ⟨_,hs,fun y hy => List.mem_cons_of_mem _ hy⟩
    ·exact ⟨d,by rw [List.getElem?_set_ne e];exact hj,fun y hy => hy⟩
theorem xvj : ∀ xs : List Int,xs.foldl (fun (o : Option PL) x => o.bind (pPut · x)) none = none
 | [] => rfl
 | x :: xs => xvj xs
theorem xx7 (l : PL) (xs ys : List Int) : pPuts l (xs ++ ys) = (pPuts l xs).bind fun m => pPuts m ys := by
 unfold pPuts
 rw [List.foldl_append]
 cases h : xs.foldl (fun (o : Option PL) x => o.bind (pPut · x)) (some l) with
 | none => exact xvj ys
 | some m => rfl
theorem xXo (l : PL) (xs : List Int) (x : Int) : pPuts l (xs ++ [x]) = (pPuts l xs).bind (pPut · x) := by
 rw [xx7]
 rfl
theorem xx8 : ∀ (xs : List Int) {l l' : PL},pPuts l xs = some l' -> l'.map (·.1) = l.map (·.1) /\ (∀ (i : Nat) c,l[i]? = some c -> ∃ c',l'[i]? = some c' /\ ∀ y ∈ c.2,y ∈ c'.2) /\ ∀ x ∈ xs,∃ i c',pOf l x = some i /\ l'[i]? = some c' /\ x ∈ c'.2
 | [],l,l',h => by
  injection h with h
  subst h
  exact ⟨rfl,fun i c hc => ⟨c,hc,fun y hy => hy⟩,fun x hx => by cases hx⟩
 | x :: xs,l,l',h => by
  have h1 : pPuts l (x :: xs) = (pPut l x).bind fun m => pPuts m xs := xx7 l [x] xs
  rw [h1] at h
  cases hp : pPut l x with
  | none => rw [hp] at h;cases h
  | some m =>
   rw [hp] at h
   obtain ⟨a1,a2,i0,c0,c1,b1,b2,b3,b4,b5⟩ := ykp hp
   obtain ⟨d1,d2,d3⟩ := xx8 xs (show pPuts m xs = some l' from h)
   refine ⟨d1.trans a1,fun i c hc => ?_,fun y hy => ?_⟩
   ·obtain ⟨c',e1,e2⟩ := a2 i c hc
    obtain ⟨c'',e3,e4⟩ := d2 i c' e1
    exact ⟨c'',e3,fun y hy => e4 y (e2 y hy)⟩
   ·rcases List.mem_cons.1 hy with rfl | hy
    ·obtain ⟨c2,e1,e2⟩ := d2 i0 c1 b4
     exact ⟨i0,c2,b1,e1,e2 _ b5⟩
    ·obtain ⟨i,c',e1,e2,e3⟩ := d3 y hy
     exact ⟨i,c',by rw [<- xj3 a1];exact e1,e2,e3⟩
theorem yzc {l : PL} {xs : List Int} {j : Nat} {x : Int} (hx : xs[j]? = some x) (h : x ∈ xs.take j \/ ∃ i c,pOf l x = some i /\ l[i]? = some c /\ x ∈ c.2) : pPuts l xs = none := by
 obtain ⟨hj,e⟩ := List.getElem?_eq_some_iff.1 hx
 have hsp : xs = xs.take j ++ (x :: xs.drop (j + 1)) := by
  rw [<- e,<- List.drop_eq_getElem_cons hj,List.take_append_drop]
 rw [hsp,xx7]
 cases hp : pPuts l (xs.take j) with
 | none => rfl
 | some m =>
  obtain ⟨d1,d2,d3⟩ := xx8 _ hp
  have hin : ∃ i c,pOf m x = some i /\ m[i]? = some c /\ x ∈ c.2 := by
   rcases h with h | ⟨i,c,h1,h2,h3⟩
   ·obtain ⟨i,c',e1,e2,e3⟩ := d3 x h
    exact ⟨i,c',by rw [xj3 d1];exact e1,e2,e3⟩
   ·obtain ⟨c',e1,e2⟩ := d2 i c h2
    exact ⟨i,c',by rw [xj3 d1];exact h1,e1,e2 x h3⟩
  obtain ⟨i,c,h1,h2,h3⟩ := hin
  show pPuts m (x :: xs.drop (j + 1)) = none
  have h4 : pPuts m (x :: xs.drop (j + 1)) = (pPut m x).bind fun q => pPuts q (xs.drop (j + 1)) := xx7 m [x] _
  have h5 : pPut m x = none := by unfold pPut;rw [h1];simp only;rw [h2];simp only;rw [if_pos h3]
  rw [h4,h5];rfl
def gBad (ks : List CutV) (xs : List Int) : Bool := (List.range xs.length).any fun j => (xs.take j).contains (xs.getD j 0) || decide (orderP ks (xs.getD j 0) < 0)
theorem xKw {n m : Nat} {v : PoolW} (o : PlOk n m v) (x : Int) : decide (orderP v.ks x < 0) = (match cutAtP v.ks x with
  | none => true
  | some c => decide (x ∈ c.l)) := by
 unfold orderP
 cases h : cutAtP v.ks x with
 | none => rfl
 | some c =>
  have := (o.four c (xxx h).1).2.1
  by_cases hx : x ∈ c.l
  ·simp [hx]
  ·simp [hx];omega
theorem xKx {xs : List Int} {j : Nat} (h : j < xs.length) : xs[j]? = some (xs.getD j 0) := by
 rw [List.getD_eq_getElem?_getD,List.getElem?_eq_getElem h];rfl
theorem gBad_yes {n m : Nat} {v : PoolW} (o : PlOk n m v) {xs : List Int} (h1 : ∀ x ∈ xs,(cutAtP v.ks x).isNone = false) (h : gBad v.ks xs = true) : pPuts (v.ks.map CutV.plain) xs = none := by
 unfold gBad at h
 rw [List.any_eq_true] at h
 obtain ⟨j,hj,h2⟩ := h
 have hx := xKx (List.mem_range.1 hj)
 refine yzc hx ?_
 generalize xs.getD j 0 = x at hx h2
 rw [Bool.or_eq_true,xKw o] at h2
 rcases h2 with h2 | h2
 ·exact Or.inl (by simpa using h2)
 ·have h3 := h1 x (List.mem_of_getElem? hx)
  rcases xKv v.ks x with ⟨e1,_⟩ | ⟨c,i,e1,e2,e3⟩
  ·rw [e1] at h3;cases h3
  ·rw [e1] at h2
   refine Or.inr ⟨i,c.plain,e2,by rw [List.getElem?_map,e3];rfl,(show x ∈ c.l by simpa using h2)⟩
theorem setC_plain' {ks : List CutV} {i : Nat} {k : CutV} {c : Int × Int} {l : List Int} (hi : ks[i]? = some k) : (setC ks i k c l).map CutV.plain = (ks.map CutV.plain).set i (k.s,l) := by
 unfold setC;rw [List.map_set];rfl
theorem setC_or {ks : List CutV} {i : Nat} {k : CutV} {c : Int × Int} {l : List Int} {x : CutV} (hx : x ∈ setC ks i k c l) : x = { k with c := c,l := l } \/ x ∈ ks := by
 unfold setC at hx
 rcases List.mem_or_eq_of_mem_set hx with h | h
 ·exact Or.inr h
 ·exact Or.inl h
structure PutSt (v : PoolW) (ks : List CutV) (xs : List Int) (j : Nat) : Prop where
 puts : pPuts (v.ks.map CutV.plain) (xs.take j) = some (ks.map CutV.plain)
 old : ∀ c ∈ ks,∃ d ∈ v.ks,d.b = c.b /\ d.s = c.s /\ ∀ y ∈ c.l,y ∈ d.l \/ y ∈ xs.take j
 bs : ks.map (·.b) = v.ks.map (·.b)
theorem PutSt.start (v : PoolW) (xs : List Int) : PutSt v v.ks xs 0 := ⟨rfl,fun c hc => ⟨c,hc,rfl,rfl,fun y hy => Or.inl hy⟩,rfl⟩
theorem PutSt.step {n m : Nat} {v : PoolW} (o : PlOk n m v) (k : HOk v.h) {ks : List CutV} {xs : List Int} {j : Nat} (h : PutSt v ks xs j) {x : Int} (hx : xs[j]? = some x) (h1 : (cutAtP v.ks x).isNone = false) (h2 : (xs.take j).contains x = false) (h3 : decide (orderP v.ks x < 0) = false) :
  ∃ c i,cutAtP ks x = some c /\ ks[i]? = some c /\ x ∉ c.l /\ x ∈ pBlocks c.s /\ ∀ c',PutSt v (setC ks i c c' (x :: c.l)) xs (j + 1) := by
 have e : xs.take (j + 1) = xs.take j ++ [x] := by rw [List.take_add_one,hx];rfl
 obtain ⟨d0,hd0⟩ : ∃ d,cutAtP v.ks x = some d := by
  cases hh : cutAtP v.ks x with
  | none => rw [hh] at h1;cases h1
  | some d => exact ⟨d,rfl⟩
 obtain ⟨hd1,hd2⟩ := xxx hd0
 rw [xKw o,hd0] at h3
 have hd3 : x ∉ d0.l := by simpa using h3
 rcases xKv ks x with ⟨e1,_⟩ | ⟨c,i,e1,e2,e3⟩
 ·exfalso
  have hbm : d0.b ∈ ks.map (·.b) := by rw [h.bs];exact List.mem_map.2 ⟨d0,hd1,rfl⟩
  have hsame := (xx8 _ h.puts).1
  have := xj3 hsame x
  rcases xKv ks x with ⟨_,q⟩ | ⟨c,i,q,_,_⟩
  ·rw [q] at this
   rcases xKv v.ks x with ⟨q1,_⟩ | ⟨c1,i1,q1,q2,_⟩
   ·rw [q1] at hd0;cases hd0
   ·rw [q2] at this;cases this
  ·rw [q] at e1;cases e1
 ·obtain ⟨hc1,hc2⟩ := xxx e1
  obtain ⟨d,hd,eb,es,hl⟩ := h.old c hc1
  have hdd : d = d0 := o.blocks_apart k hd hd1 (by rw [es];exact hc2) hd2
  subst hdd
  have hxc : x ∉ c.l := fun hh => by
   rcases hl x hh with h4 | h4
   ·exact hd3 h4
   ·have : (xs.take j).contains x = true := by simpa using h4
    rw [h2] at this;cases this
  refine ⟨c,i,e1,e3,hxc,hc2,fun c' => ⟨?_,fun q hq => ?_,?_⟩⟩
  ·rw [e,xXo,h.puts]
   show pPut (ks.map CutV.plain) x = _
   unfold pPut
   rw [e2]
   simp only
   rw [List.getElem?_map,e3]
   simp only [Option.map_some,CutV.plain]
   rw [if_neg hxc,setC_plain' e3]
  ·rcases setC_or hq with rfl | p3
   ·refine ⟨d,hd,eb,es,fun y hy => ?_⟩
    rcases List.mem_cons.1 hy with rfl | hy
    ·exact Or.inr (by rw [e];simp)
    ·rcases hl y hy with h4 | h4
     ·exact Or.inl h4
     ·exact Or.inr (by rw [e];exact List.mem_append_left _ h4)
   ·obtain ⟨d2,q1,q2,q3,q4⟩ := h.old q p3
    refine ⟨d2,q1,q2,q3,fun y hy => ?_⟩
    rcases q4 y hy with h4 | h4
    ·exact Or.inl h4
    ·exact Or.inr (by rw [e];exact List.mem_append_left _ h4)
  ·rw [xwb (·.b) (fun _ _ _ => rfl) e3];exact h.bs
end Go.Proofs.YtlcdgmjinhbncaaGreat
namespace Go.Proofs.YtlcdgmjinhbncaaGreat
open Go.RowKit
set_option linter.unusedVariables false
theorem neq_run (a b c d : Int) (W : World) : (binOp .neq 47 (.agg #[.int .i64 a,.int .i64 b]) (.agg #[.int .i64 c,.int .i64 d])).run Tryz.prog W = .ok (.bool (!(a == c && b == d))) W := by
 simp [go_sem]
 by_cases h1 : a = c <;> by_cases h2 : b = d <;> simp [h1,h2]
theorem ykq (A A2 : Option Addr) (n c m d : Nat) (xs ys : List (Int × Int)) (w : World) (B B2 : Nat) (hs : Rn w B A n xs) (hs2 : Rn w B2 A2 m ys) (hn : n <= 9223372036854775806) (hm : m <= 9223372036854775806) :
  Calls Tryz.prog 27 #[.slice A n c,.slice A2 m d] w fun e w' => e = .returned (.bool (decide (xs = ys))) /\ ∃ q,w' = w.drewN q := by
 have l1 : xs.length = n := hs.1
 have l2 : ys.length = m := hs2.1
 by_cases hnm : n = m
 ·subst hnm
  have L1 := hidb l1
  have L2 := hidb l2
  have HS := hidb hs
  have HS2 := hidb hs2
  clear hs hs2 l1 l2
  go_enter Tryz.func27,Tryz.ntmps27
  go_wp2
  go_loopw [13] (fun k wr => ∃ j q : Nat,j <= n /\ Hid (∀ i,i < j -> xs[i]? = ys[i]?) /\ k = .int .i64 j /\ wr = w.drewN q) (fun k _ => (n - intOf k).toNat)
  case atStart => exact ⟨0,0,by omega,hidb (fun i h => absurd h (Nat.not_lt_zero _)),rfl,rfl⟩
  case round =>
   obtain ⟨j,q,hj,HA,rfl,rfl⟩ := hrel
   by_cases hlt : j < n
   ·obtain ⟨b,off,s,l,rfl,_,hx,hc1,hc1'⟩ := HS.out.at_ hlt
    obtain ⟨b2,off2,s2,l2,rfl,_,hy,hc2,hc2'⟩ := HS2.out.at_ hlt
    have HX := hidb hx
    have HY := hidb hy
    clear hx hy
    have hi0 : (0 : Int) <= (j : Int) := by omega
    have hi1 : (j : Int) < (n : Int) := by omega
    have hq := fun W => neq_run s l s2 l2 W
    by_cases e : s = s2 /\ l = l2
    ·obtain ⟨rfl,rfl⟩ := e
     rw [show (!(s == s && l == l)) = false by simp] at hq
     go_wp2
     go_quiet (fail)
     go_wp2
     go_roundw
     case rel =>
      refine ⟨j + 1,_,by omega,hidb (fun i hi => ?_),by go_num,rfl⟩
      by_cases h : i = j
      ·subst h;rw [HX.out,HY.out]
      ·exact HA.out i (by omega)
     case measure => simp [intOf];omega
    ·have e2 : (!(s == s2 && l == l2)) = true := by
      rw [Bool.not_eq_true',Bool.and_eq_false_iff]
      by_cases h : s = s2
      ·exact Or.inr (by simpa using fun h2 => e ⟨h,h2⟩)
      ·exact Or.inl (by simpa using h)
     rw [e2] at hq
     have HF : Hid (decide (xs = ys) = false) := hidb (decide_eq_false (fun h => e (by have := HX.out;rw [h,HY.out] at this;simpa [eq_comm] using this)))
     clear e e2
     go_wp2
     go_quiet (fail)
     go_wp2
     go_ret
     exact ⟨by rw [HF.out];rfl,_,World.drewN_drewN _ _ _⟩
   ·have HF : Hid (decide (xs = ys) = true) := hidb (decide_eq_true (List.ext_getElem? (fun i => by
     by_cases h : i < n
     ·exact HA.out i (by omega)
     ·rw [List.getElem?_eq_none (by rw [L1.out];omega),List.getElem?_eq_none (by rw [L2.out];omega)])))
    go_wp2
    go_ret
    exact ⟨by rw [HF.out];rfl,_,rfl⟩
 ·have HF : Hid (decide (xs = ys) = false) := hidb (decide_eq_false (fun h => hnm (by rw [<- l1,<- l2,h])))
  have eb : ((n : Int) != (m : Int)) = true := by simp;omega
  clear hs hs2 l1 l2
  go_enter Tryz.func27,Tryz.ntmps27
  go_wp2
  go_ret
  exact ⟨by rw [HF.out];rfl,0,rfl⟩
theorem eql_span (a b c d a2 b2 c2 d2 : Int) (W : World) : (binOp .eql 49 (.agg #[.int .i64 a,.int .i64 b,.int .i64 c,.int .i64 d]) (.agg #[.int .i64 a2,.int .i64 b2,.int .i64 c2,.int .i64 d2])).run Tryz.prog W = .ok (.bool (decide ((a,b,c,d) = (a2,b2,c2,d2)))) W := by
 simp [go_sem]
 by_cases h1 : a = a2 <;> by_cases h2 : b = b2 <;> by_cases h3 : c = c2 <;> by_cases h4 : d = d2 <;> simp [h1,h2,h3,h4]
structure HeapSt (w W : World) (p : Nat) (S : Nat -> Prop) (h : HeapV) (k : Nat) (pages : Int) : Prop where
 hp : Hp W S p h
 low : ∀ b,S b -> w.heap.size <= b
 bel : Below w.heap.size w W
 la : h.last <= k
 pg : h.pages = pages
def OwnAp (S : Nat -> Prop) (W : World) (base : Nat) (e : TypeId) (s : Nat) (v : Value) (n : Nat) (xs : List Value) : Prop := W.ownsRow base e s v n xs /\ ∀ k,v.ownBlock = some k -> ¬ S k
def ToO (S : Nat -> Prop) (W : World) (S' : Nat -> Prop) (W' : World) : Prop := ∀ base e s v n xs,OwnAp S W base e s v n xs -> OwnAp S' W' base e s v n xs
theorem ToO.below {S : Nat -> Prop} {W W' : World} (hb : Below W.heap.size W W') : ToO S W S W' := fun base e s v n xs ⟨h1,h2⟩ => ⟨xqk h1 hb,h2⟩
theorem ToO.did {S : Nat -> Prop} {W W' : World} (hK : Kept S W W') : ToO S W (more S W W') W' := fun base e s v n xs ⟨h1,h2⟩ => ⟨xjm h1 hK h2,fun k hk c => h2 k hk (xjl (h1.lt k hk).2 c)⟩
section
variable {w W W' : World} {p : Nat} {S : Nat -> Prop} {h : HeapV} {k : Nat} {pages : Int}
end
theorem t_hnew (pages : Int) (w : World) (h0 : 4 <= pages) (h1 : pages <= 1024) : ∃ F,hNew pages = (⟨pages,F,[],0⟩,0) /\ Calls Tryz.prog 61 #[.int .i64 pages] w fun e w' => ∃ p S,e = .returned (.tuple #[.pointer (some ⟨p,0,none⟩),.int .i64 0]) /\ HeapSt w w' p S ⟨pages,F,[],0⟩ 0 pages := by
 obtain ⟨F,e1,_,_⟩ := xVg h0 h1
 refine ⟨F,e1,(yk4 pages w h0 h1 F e1).mono ?_⟩
 rintro e w' ⟨hb,p,S,rfl,hp,hl⟩
 exact ⟨p,S,rfl,hp,hl,hb,Int.le_refl _,rfl⟩
end Go.Proofs.YtlcdgmjinhbncaaGreat
namespace Go.Proofs
open Go.Shelf
set_option linter.unusedVariables false
def Tryz.lays112_ren : Go.Shelf.Ren := ⟨fun | 112 => 194 | n => n,fun | 28 => 38 | 3 => 3 | 4 => 4 | 0 => 0 | n => n,fun | n => n⟩
theorem Tryz.lays112 : Go.Proofs.Lays.n112 Tryz.prog Tryz.lays112_ren := {
 mixed := by kernel_rfl
 f112 := Tryz.func194.trans (congrArg some (by kernel_rfl))
 t0 := Tryz.underlying0
 a0 := Tryz.isAgg0
 z0 := Tryz.sizeOf0
 v0 := Tryz.zeroValue0
 t3 := Tryz.underlying3
 a3 := Tryz.isAgg3
 z3 := Tryz.sizeOf3
 v3 := Tryz.zeroValue3
 t4 := Tryz.underlying4
 a4 := Tryz.isAgg4
 z4 := Tryz.sizeOf4
 v4 := Tryz.zeroValue4
 t28 := Tryz.underlying38
 a28 := Tryz.isAgg38
 z28 := Tryz.sizeOf38
 v28 := Tryz.zeroValue38 }
open Go.RowKit Go.Lib Go.Sort in
theorem Tryz.slices_Reverse_int (blk off cap : Nat) (zs : List Int) (w : World) (hH : Holds (Value.int .i64) w blk off zs.toArray) (hsz : zs.length <= 9223372036854775807) :
  Calls Tryz.prog 194 #[.slice (some ⟨blk,off,none⟩) zs.length cap] w fun e w' => e = .returned (.tuple #[]) /\ ∃ n,w' = putRow (Value.int .i64) (Sort.ahead w n) blk off zs.reverse.toArray := Any.slices_Reverse_int Tryz.lays112 blk off cap zs w hH hsz
end Go.Proofs
namespace Go.Proofs.YtlcdgmjinhbncaaGreat
open Go.RowKit Go.Maps Go.Sort
set_option linter.unusedVariables false
theorem xJ5 (g n c : Nat) (zs : List Int) (w : World) (base : Nat) (hown : w.ownsRow base 3 1 (.slice (some ⟨g,0,none⟩) n c) n (zs.map iv)) (hl : zs.length = n) (hn : n <= 131072) :
  Calls Tryz.prog 194 #[.slice (some ⟨g,0,none⟩) n c] w fun e w' => e = .returned (.tuple #[]) /\ w'.ownsRow base 3 1 (.slice (some ⟨g,0,none⟩) n c) n (zs.reverse.map iv) /\ w.grownBy w' (some g) := by
 obtain ⟨L,hL,hbg,hnc,hcm,hLl,hxs⟩ := xqj hown
 rw [Nat.mul_one] at hLl hxs
 have hH : Holds (Value.int .i64) w g 0 zs.toArray := xKh (Value.int .i64) hL zs.toArray (by rw [show zs.toArray.size = n by simpa using hl,<- hxs];show zs.map iv = zs.map (Value.int .i64);rfl)
 have h := Tryz.slices_Reverse_int g 0 c zs w hH (by omega)
 rw [hl] at h
 refine h.mono ?_
 rintro e w' ⟨he,q,rfl⟩
 obtain ⟨r1,r2⟩ := xW8 (Value.int .i64) hL q zs.reverse.toArray #[] (by simp;omega)
 have e1 : sortWorld (Value.int .i64) w g 0 q zs.reverse.toArray #[] = putRow (Value.int .i64) (Sort.ahead w q) g 0 zs.reverse.toArray := by unfold sortWorld;rw [grow_empty]
 rw [e1] at r1 r2
 refine ⟨he,?_,r2⟩
 have h2 := xq8 (base := base) (s := 1) (n := n) (c := c) r1 hbg hnc hcm (by simp;omega)
 rw [Nat.mul_one,List.take_left' (by simp [hl])] at h2
 exact h2
theorem xJ6 {w : World} {base n c : Nat} {e : TypeId} {A : Option Addr} {xs : List Value} (h : w.ownsRow base e 1 (.slice A n c) n xs) (hn : 0 < n) : ∃ g,A = some ⟨g,0,none⟩ /\ base <= g /\ g < w.heap.size := by
 have hlt := h.lt
 rcases h.2 with ⟨_,h0⟩ | ⟨g,cap,cur,h1,h2,_⟩
 ·omega
 ·injection h1 with h1
  subst h1
  exact ⟨g,rfl,h2,(hlt g rfl).2⟩
theorem CutAt.setC {w : World} {c : CutV} (hc : CutAt w c) (h' l' : Int) (l : List Int) : CutAt ((w.setCell ⟨c.b,4,none⟩ (.int .i64 h')).setCell ⟨c.b,5,none⟩ (.int .i64 l')) { c with c := (h',l'),l := l } := by
 have q : ∀ (X : World) (i j : Nat) (u : Value),i ≠ j -> (X.setCell ⟨c.b,i,none⟩ u).cell? ⟨c.b,j,none⟩ = X.cell? ⟨c.b,j,none⟩ := fun X i j u h => World.cell?_setCell_other X _ _ _ (fun e => h (by injection e))
 refine ⟨?_,?_,?_,?_,?_,?_,fun j => by rw [World.frozen?_setCell,World.frozen?_setCell];exact hc.fz j⟩
 ·show World.cell? _ ⟨c.b,0,none⟩ = _;rw [q _ 5 0 _ (by decide),q _ 4 0 _ (by decide)];exact hc.c0
 ·show World.cell? _ ⟨c.b,1,none⟩ = _;rw [q _ 5 1 _ (by decide),q _ 4 1 _ (by decide)];exact hc.c1
 ·show World.cell? _ ⟨c.b,2,none⟩ = _;rw [q _ 5 2 _ (by decide),q _ 4 2 _ (by decide)];exact hc.c2
 ·show World.cell? _ ⟨c.b,3,none⟩ = _;rw [q _ 5 3 _ (by decide),q _ 4 3 _ (by decide)];exact hc.c3
 ·show World.cell? _ ⟨c.b,4,none⟩ = _;rw [q _ 5 4 _ (by decide)];exact World.cell?_setCell_same w _ _ hc.c4
 ·show World.cell? _ ⟨c.b,5,none⟩ = _;exact World.cell?_setCell_same _ _ _ (by rw [q _ 4 5 _ (by decide)];exact hc.c5)
structure AddSt (w W : World) (Sh S2 : Nat -> Prop) (p hp ap g mb n m : Nat) (D : DataW Unit) (ks : List CutV) (v : PoolW) (k : CutV) : Prop where
 pl : PlAt W S2 p hp ap g mb n m D v
 cut : CutAt W k
 new : ¬ PlS S2 p ap g mb v.ks k.b
 low : w.heap.size <= k.b
 kept : Kept (PlS Sh p ap g mb ks) w W
 sub : ∀ b,PlS S2 p ap g mb v.ks b -> PlS Sh p ap g mb ks b \/ w.heap.size <= b
 base : PlS Sh p ap g mb ks g /\ PlS Sh p ap g mb ks mb
section
variable {w W W' : World} {Sh S2 : Nat -> Prop} {p hp ap g mb n m : Nat} {D : DataW Unit} {ks : List CutV} {v : PoolW} {k : CutV}
theorem AddSt.below (h : AddSt w W Sh S2 p hp ap g mb n m D ks v k) (hb : Below W.heap.size W W') : AddSt w W' Sh S2 p hp ap g mb n m D ks v k :=
 ⟨h.pl.below hb,h.cut.below hb,h.new,h.low,h.kept.trans (Kept.of_below hb (fun _ => False)) (fun _ _ c => c.elim),h.sub,h.base⟩
theorem AddSt.grownNew (h : AddSt w W Sh S2 p hp ap g mb n m D ks v k) {q : Nat} (hg : W.grownBy W' (some q)) (hq : ¬ PlS S2 p ap g mb v.ks q) (hk : q ≠ k.b) (hw : w.heap.size <= q) : AddSt w W' Sh S2 p hp ap g mb n m D ks v k := by
 have hK : Kept (fun b => b = q) W W' := (Kept.refl _ W).grown hg (fun b e => by injection e with e;exact Or.inl e.symm)
 exact ⟨h.pl.keep hK (fun b hb e => hq (e ▸ hb)),h.cut.keep (hg.block _ h.cut.lt (fun e => hk (by injection e with e;exact e.symm))),h.new,h.low,h.kept.trans hK (fun b hb e => by omega),h.sub,h.base⟩
theorem AddSt.words (h : AddSt w W Sh S2 p hp ap g mb n m D ks v k) {ws' : List Nat} (hg : W.grownBy W' (some g)) (ha : Ar W' 0 ap g n ws') : AddSt w W' Sh S2 p hp ap g mb n m D ks { v with ws := ws' } k := by
 have hne : k.b ≠ g := fun e => h.new (by rw [e];unfold PlS;simp)
 have hK : Kept (fun b => b = g) W W' := (Kept.refl _ W).grown hg (fun b e => by injection e with e;exact Or.inl e.symm)
 exact ⟨h.pl.words hg ha,h.cut.keep (hg.block _ h.cut.lt (fun e => hne (by injection e))),h.new,h.low,h.kept.trans hK (fun b hb e => by subst e;exact h.base.1),h.sub,h.base⟩
theorem AddSt.set (h : AddSt w W Sh S2 p hp ap g mb n m D ks v k) (h' l' : Int) (l : List Int) : AddSt w ((W.setCell ⟨k.b,4,none⟩ (.int .i64 h')).setCell ⟨k.b,5,none⟩ (.int .i64 l')) Sh S2 p hp ap g mb n m D ks v { k with c := (h',l'),l := l } := by
 have hK : Kept (fun b => b = k.b) W ((W.setCell ⟨k.b,4,none⟩ (.int .i64 h')).setCell ⟨k.b,5,none⟩ (.int .i64 l')) := ((Kept.refl (fun b => b = k.b) W).set (a := ⟨k.b,4,none⟩) (Or.inl rfl) _).set (a := ⟨k.b,5,none⟩) (Or.inl rfl) _
 have hl := h.low
 exact ⟨h.pl.keep hK (fun b hb e => h.new (e ▸ hb)),h.cut.setC h' l' l,h.new,h.low,h.kept.trans hK (fun b hb e => by subst e;omega),h.sub,h.base⟩
theorem AddSt.put (h : AddSt w W Sh S2 p hp ap g mb n m D ks v k) {m' : Nat} {D' : DataW Unit} (hg : W.grownBy W' (some mb)) (hm : W'.ownsMap Tryz.prog 3 ptrR mb m' D') (hi : PIs D' (v.ks ++ [k])) (o : PlOk n m' { v with ks := v.ks ++ [k] }) : Went w Sh p hp ap g mb n ks W' { v with ks := v.ks ++ [k] } := by
 have hn : k.b ≠ p /\ k.b ≠ ap /\ k.b ≠ g /\ k.b ≠ mb /\ ¬ S2 k.b := by
  refine ⟨fun e => h.new ?_,fun e => h.new ?_,fun e => h.new ?_,fun e => h.new ?_,fun e => h.new (Or.inl e)⟩ <;> (rw [e];unfold PlS;simp)
 have hK : Kept (fun b => b = mb) W W' := (Kept.refl _ W).grown hg (fun b e => by injection e with e;exact Or.inl e.symm)
 refine ⟨S2,m',D',h.pl.map_ hg hm hi (fun c hc => ?_) ?_,o,h.kept.trans hK (fun b hb e => by subst e;exact h.base.2),fun b hb => ?_⟩
 ·rcases List.mem_append.1 hc with hc | hc
  ·exact ⟨h.pl.cuts c hc,h.pl.nk c hc⟩
  ·obtain rfl := List.mem_singleton.1 hc
   exact ⟨h.cut,hn⟩
 ·rw [List.map_append]
  refine List.nodup_append.2 ⟨h.pl.nd,by simp,fun a ha b hb e => ?_⟩
  obtain rfl : b = k.b := by simpa using hb
  subst e
  obtain ⟨c,hc,e⟩ := List.mem_map.1 ha
  exact h.new (Or.inr (Or.inr (Or.inr (Or.inr (Or.inr ⟨c,hc,e⟩)))))
 ·rcases hb with hb | hb | hb | hb | hb | ⟨c,hc,e⟩
  ·exact h.sub b (Or.inl hb)
  ·exact h.sub b (Or.inr (Or.inl hb))
  ·exact h.sub b (Or.inr (Or.inr (Or.inl hb)))
  ·exact h.sub b (Or.inr (Or.inr (Or.inr (Or.inl hb))))
  ·exact h.sub b (Or.inr (Or.inr (Or.inr (Or.inr (Or.inl hb)))))
  ·rcases List.mem_append.1 hc with hc | hc
   ·exact h.sub b (Or.inr (Or.inr (Or.inr (Or.inr (Or.inr ⟨c,hc,e⟩)))))
   ·obtain rfl := List.mem_singleton.1 hc
    exact Or.inr (e ▸ h.low)
end
def addV (v : PoolW) (h' : HeapV) (ws' : List Nat) (b : Nat) (s : Int × Int × Int × Int) (c : Int × Int) : PoolW := ⟨h',ws',v.held,v.ks ++ [⟨b,s,c,pBlocks s⟩]⟩
def Added (w : World) (Sh : Nat -> Prop) (p hp ap g mb n : Nat) (v : PoolW) (r : HeapV × (Int × Int × Int × Int) × Int) (e : Ending) (w' : World) : Prop :=
 (r.2.2 ≠ 0 /\ e = .returned (.tuple #[.pointer none,.int .i64 r.2.2]) /\ Went w Sh p hp ap g mb n v.ks w' v) \/
 (r.2.2 = 0 /\ ∃ b c ws',e = .returned (.tuple #[.pointer (some ⟨b,0,none⟩),.int .i64 0]) /\ Went w Sh p hp ap g mb n v.ks w' (addV v r.1 ws' b r.2.1 c) /\ Stays v.ws ws' (· ∈ pBlocks r.2.1))
theorem PlOk.add {n m : Nat} {v : PoolW} (o : PlOk n m v) (k : HOk v.h) {order : Int} (ho : 0 <= order /\ order <= 3) {r : Int × Int} (hb : fBest v.h.free 4 = some r) (hn : v.ws.length = n) (hn2 : n <= 65536) :
  ∃ h' s,hMake v.h 4 order = (h',s,0) /\ s.1 = v.h.last + 1 /\ s.2.2.1 = 4 /\ s.2.2.2 = order /\ 0 <= s.2.1 /\ s.2.1 <= 1024 /\ HOk h' /\ (∀ t ∈ v.ks,t.s.1 ≠ s.1) /\ ∃ ws' c,cPush v.ws (0,0) (pBlocks s).reverse = (ws',c,0) /\ (∀ x ∈ (pBlocks s).reverse,in64 x) /\ ws'.length = n /\ Stays v.ws ws' (· ∈ pBlocks s) /\ ∀ b,PlOk n (m + 1) (addV v h' ws' b s c) := by
 obtain ⟨g,_,_,h3,e,k2⟩ := xzk k (o := order) (by omega) hb
 have hs := k2.start (s := (v.h.last + 1,r.1,4,order)) (List.mem_append_right _ (List.mem_singleton_self _))
 have hpg := k.p1
 simp only at hs
 have hid : ∀ t ∈ v.ks,t.s.1 ≠ v.h.last + 1 := fun t ht e2 => by have := k.idr t.s (o.mem t ht);omega
 have hold : ∀ t ∈ v.ks,t.s ∈ v.h.l ++ [(v.h.last + 1,r.1,4,order)] := fun t ht => List.mem_append_left _ (o.mem t ht)
 have hnb : ∀ x ∈ pBlocks (v.h.last + 1,r.1,4,order),0 <= x /\ x < (n : Int) /\ ∀ t ∈ v.ks,x ∉ pBlocks t.s := fun x hx => by
  have h1 := xz8 hx rfl ho
  have h2 := (xx4 order ho.1 ho.2).2.2.2
  simp only at h1
  have h4 := o.len
  refine ⟨by omega,by omega,fun t ht hxt => ?_⟩
  obtain ⟨f1,f2,f3⟩ := o.four t ht
  have e3 := k2.apart (hold t ht) (List.mem_append_right _ (List.mem_singleton_self _)) (xx5 hxt f1 ⟨f2,f3⟩) (xx5 hx rfl ho)
  exact hid t ht (by rw [e3])
 have hnd : (pBlocks (v.h.last + 1,r.1,4,order)).Nodup := by
  unfold pBlocks
  refine List.pairwise_map.2 (List.Pairwise.imp (fun {a b} (h : a < b) e4 => ?_) List.pairwise_lt_range)
  have h1 : a * pSize order < b * pSize order := Nat.mul_lt_mul_of_pos_right h (xzq order)
  simp only at e4
  omega
 have h0 : cList v.ws (0,0) = some [] := xqh.2 ⟨rfl,List.nodup_nil,rfl⟩
 obtain ⟨ws',c,hp,hl,hlen,hw,hkeep⟩ := xXm h0 (m := (pBlocks (v.h.last + 1,r.1,4,order)).reverse) (by rw [List.append_nil];exact (List.reverse_perm _).nodup_iff.2 hnd) (fun x hx => by
  have := hnb x (List.mem_reverse.1 hx)
  rw [hn];exact ⟨this.1,this.2.1⟩) o.wide (by rw [hn];exact hn2)
 rw [List.reverse_reverse,List.append_nil] at hl
 refine ⟨_,_,e,rfl,rfl,rfl,by show 0 <= r.1;omega,by show r.1 <= 1024;omega,k2,hid,ws',c,hp,fun x hx => ?_,by rw [hlen,hn],fun c2 l2 h2 hn2 => hkeep c2 l2 h2 fun x hx hxl => hn2 x hxl (List.mem_reverse.1 hx),fun b => ?_⟩
 ·have := hnb x (List.mem_reverse.1 hx)
  exact ⟨by omega,by omega⟩
 ·refine ⟨o.len,hw,fun t ht => ?_,fun t ht => ?_,fun t ht => ?_,fun t ht => ?_,?_,?_⟩
  ·rcases List.mem_append.1 ht with ht | ht
   ·exact hold t ht
   ·obtain rfl := List.mem_singleton.1 ht
    exact List.mem_append_right _ (List.mem_singleton_self _)
  ·rcases List.mem_append.1 ht with ht | ht
   ·exact o.four t ht
   ·obtain rfl := List.mem_singleton.1 ht
    exact ⟨rfl,ho.1,ho.2⟩
  ·rcases List.mem_append.1 ht with ht | ht
   ·exact hkeep _ _ (o.lst t ht) fun x hx hxl => (hnb x (List.mem_reverse.1 hx)).2.2 t ht (o.sub t ht x hxl)
   ·obtain rfl := List.mem_singleton.1 ht
    exact hl
  ·rcases List.mem_append.1 ht with ht | ht
   ·exact o.sub t ht
   ·obtain rfl := List.mem_singleton.1 ht
    exact fun x hx => hx
  ·show ((v.ks ++ [(⟨b,(v.h.last + 1,r.1,4,order),c,pBlocks (v.h.last + 1,r.1,4,order)⟩ : CutV)]).map (·.s.1)).Nodup
   rw [List.map_append]
   refine List.nodup_append.2 ⟨o.ids,by simp,fun a ha b' hb' e5 => ?_⟩
   obtain rfl : b' = v.h.last + 1 := by simpa using hb'
   subst e5
   obtain ⟨t,ht,e6⟩ := List.mem_map.1 ha
   exact hid t ht e6
  ·have := o.cnt
   show ((m + 1 : Nat) : Int) <= v.h.last + 1
   omega
set_option maxRecDepth 100000 in
theorem ykr {w : World} {Sh : Nat -> Prop} {p hp ap g mb n m : Nat} {D : DataW Unit} {v : PoolW} (k : PlAt w Sh p hp ap g mb n m D v) (o : PlOk n m v) (order : Int) (ho : 0 <= order /\ order <= 3) (hlb : v.h.last + 1 <= 1000000000) :
  Calls Tryz.prog 131 #[.pointer (some ⟨p,0,none⟩),.int .i64 order] w (Added w Sh p hp ap g mb n v (hMake v.h 4 order)) := by
 have cp := xj2 p (some ⟨hp,0,none⟩) (some ⟨ap,0,none⟩) (some mb) v.held w k.c0 k.c1 k.c2 k.c3
 have HM : Hid (∀ W,Below w.heap.size w W -> Calls Tryz.prog 72 #[.pointer (some ⟨hp,0,none⟩),.int .i64 4,.int .i64 order] W (MadeHp W Sh hp (hMake v.h 4 order))) := hidb (fun W hb => xXf (k.below hb).hp_ 4 order ⟨by omega,by omega⟩ ⟨by omega,by omega⟩ hlb)
 have HF := ykj
 have HST : Hid (∀ w1 w2 h',Below w.heap.size w w1 -> Kept Sh w1 w2 -> Hp w2 (more Sh w1 w2) hp h' -> PlAt w2 (more Sh w1 w2) p hp ap g mb n m D { v with h := h' } /\ Kept (PlS Sh p ap g mb v.ks) w w2 /\ ∀ b,PlS (more Sh w1 w2) p ap g mb v.ks b -> PlS Sh p ap g mb v.ks b \/ w.heap.size <= b) := hidb (fun w1 w2 h' hb hK hh => by
  refine ⟨(k.below hb).heap_ hK hh,(Kept.of_below hb (PlS Sh p ap g mb v.ks)).trans hK (fun b _ c => Or.inl c),fun b hb2 => ?_⟩
  rcases hb2 with h | h
  ·rcases h.1 with h2 | h2
   ·exact Or.inl (Or.inl h2)
   ·exact Or.inr (Nat.le_trans hb.size h2)
  ·exact Or.inl (Or.inr h))
 cases hb : fBest v.h.free 4 with
 | none =>
  have e : hMake v.h 4 order = (v.h,spanNone,3) := xzj (by omega) hb
  rw [e] at HM ⊢
  have HE : Hid (∀ w1 w2 o2,Below w.heap.size w w1 -> Kept Sh w1 w2 -> Hp w2 (more Sh w1 w2) hp v.h -> Added w Sh p hp ap g mb n v (v.h,spanNone,3) (.returned (.tuple #[.pointer none,.int .i64 3])) (w2.alloc o2)) := hidb (fun w1 w2 o2 h1 h2 h3 => by
   obtain ⟨q1,q2,q3⟩ := HST.out w1 w2 v.h h1 h2 h3
   have hb2 : Below w2.heap.size w2 (w2.alloc o2) := (Below.refl _ _).alloc (Nat.le_refl _) _
   exact Or.inl ⟨by show (3 : Int) ≠ 0;decide,rfl,_,m,D,q1.below hb2,o,q2.trans (Kept.of_below hb2 (fun _ => False)) (fun _ _ c => c.elim),q3⟩)
  replace HM : Hid (∀ W,Below w.heap.size w W -> Calls Tryz.prog 72 #[.pointer (some ⟨hp,0,none⟩),.int .i64 4,.int .i64 order] W fun e w' => e = .returned (.tuple #[.agg #[.int .i64 0,.int .i64 0,.int .i64 0,.int .i64 0],.int .i64 3]) /\ Hp w' (more Sh W w') hp v.h /\ Kept Sh W w') := HM
  clear k o hb e HST hlb
  go_enter Tryz.func131,Tryz.ntmps131
  go_wp2_with (first
   | (go_at_call 150;(with_reducible refine cp.mono ?_);rintro e w1 ⟨rfl,hb1⟩)
   | (go_at_call 72;(with_reducible refine (HM.out _ hb1).mono ?_);rintro e w2 ⟨rfl,hh,hK⟩;have P := hidb (HE.out w1 w2 (.cells #[.int .i64 0,.int .i64 0,.int .i64 0,.int .i64 0] 49) hb1 hK hh)))
  go_ret2
  exact P.out
 | some r =>
  obtain ⟨h',s,e,hs1,hs2,hs3,hs4,hs5,hk',hnew,ws',c,hpush,hin,hlen,hstay,hok⟩ := o.add k.hp_.ok ho hb k.ar.hlen k.ar.small
  rw [e] at HM ⊢
  obtain ⟨s1,s2,s3,s4⟩ := s
  simp only at hs1 hs2 hs3 hs4 hs5
  subst hs2 hs3
  replace HM : Hid (∀ W,Below w.heap.size w W -> Calls Tryz.prog 72 #[.pointer (some ⟨hp,0,none⟩),.int .i64 4,.int .i64 s4] W fun e w' => e = .returned (.tuple #[.agg #[.int .i64 s1,.int .i64 s2,.int .i64 4,.int .i64 s4],.int .i64 0]) /\ Hp w' (more Sh W w') hp h' /\ Kept Sh W w') := HM
  have HS0 : Hid (∀ w1 w2 o2,Below w.heap.size w w1 -> Kept Sh w1 w2 -> Hp w2 (more Sh w1 w2) hp h' -> ∃ S2,AddSt w ((w2.alloc o2).alloc (.cells #[.int .i64 s1,.int .i64 s2,.int .i64 4,.int .i64 s4,.int .i64 0,.int .i64 0] 139)) Sh S2 p hp ap g mb n m D v.ks { v with h := h' } ⟨w2.heap.size + 1,(s1,s2,4,s4),(0,0),[]⟩) := hidb (fun w1 w2 o2 h1 h2 h3 => by
   obtain ⟨q1,q2,q3⟩ := HST.out w1 w2 h' h1 h2 h3
   have hb2 : Below w2.heap.size w2 (w2.alloc o2) := (Below.refl _ _).alloc (Nat.le_refl _) _
   have hb3 : Below w2.heap.size w2 ((w2.alloc o2).alloc (.cells #[.int .i64 s1,.int .i64 s2,.int .i64 4,.int .i64 s4,.int .i64 0,.int .i64 0] 139)) := hb2.alloc hb2.size _
   have hsz : (w2.alloc o2).heap.size = w2.heap.size + 1 := by simp
   refine ⟨_,q1.below hb3,⟨?_,?_,?_,?_,?_,?_,fun j => ?_⟩,fun hc => ?_,?_,q2.trans (Kept.of_below hb3 (fun _ => False)) (fun _ _ c => c.elim),q3,⟨by unfold PlS;simp,by unfold PlS;simp⟩⟩
   ·show World.cell? _ ⟨w2.heap.size + 1,0,none⟩ = _;rw [<- hsz];exact World.cell?_alloc_at _ _ _ 0 (by simp)
   ·show World.cell? _ ⟨w2.heap.size + 1,1,none⟩ = _;rw [<- hsz];exact World.cell?_alloc_at _ _ _ 1 (by simp)
   ·show World.cell? _ ⟨w2.heap.size + 1,2,none⟩ = _;rw [<- hsz];exact World.cell?_alloc_at _ _ _ 2 (by simp)
   ·show World.cell? _ ⟨w2.heap.size + 1,3,none⟩ = _;rw [<- hsz];exact World.cell?_alloc_at _ _ _ 3 (by simp)
   ·show World.cell? _ ⟨w2.heap.size + 1,4,none⟩ = _;rw [<- hsz];exact World.cell?_alloc_at _ _ _ 4 (by simp)
   ·show World.cell? _ ⟨w2.heap.size + 1,5,none⟩ = _;rw [<- hsz];exact World.cell?_alloc_at _ _ _ 5 (by simp)
   ·simp
   ·have := q1.lt _ hc
    simp only at this
    omega
   ·have := q2.size
    show w.heap.size <= w2.heap.size + 1
    omega)
  have HPU : Hid (∀ W S2 b A d N,AddSt w W Sh S2 p hp ap g mb n m D v.ks { v with h := h' } ⟨b,(s1,s2,4,s4),(0,0),[]⟩ -> N = (pBlocks (s1,s2,4,s4)).reverse.length -> Sl W W.heap.size A N ((pBlocks (s1,s2,4,s4)).reverse.map iv) -> (∀ a,A = some a -> w.heap.size <= a.block) -> N <= 65536 -> Calls Tryz.prog 143 #[.pointer (some ⟨ap,0,none⟩),.agg #[.int .i64 0,.int .i64 0],.slice A N d] W fun e w' => e = .returned (.tuple #[.agg #[.int .i64 c.1,.int .i64 c.2],.int .i64 0]) /\ AddSt w w' Sh S2 p hp ap g mb n m D v.ks { v with h := h',ws := ws' } ⟨b,(s1,s2,4,s4),(0,0),[]⟩ /\ W.grownBy w' (some g)) := hidb (fun W S2 b A d N hA hN hsl hnew2 hNs => by
   have hg := hA.pl.ar
   have hgl := k.ar.lt
   have := xXj hg 0 0 ⟨by omega,by omega⟩ ⟨by omega,by omega⟩ o.wide A N d _ hsl (fun _ a ha e => by have := hnew2 a ha;omega) hNs hin
   simp only at this
   rw [hpush] at this
   refine this.mono ?_
   rintro e w' ⟨rfl,ha,hg'⟩
   exact ⟨rfl,hA.words hg' ha,hg'⟩)
  have cb : ∀ W S2 b,AddSt w W Sh S2 p hp ap g mb n m D v.ks { v with h := h' } ⟨b,(s1,s2,4,s4),(0,0),[]⟩ -> Calls Tryz.prog 83 #[.pointer (some ⟨b,0,none⟩)] W (OwnInts W (pBlocks (s1,s2,4,s4))) := fun W S2 b hA => xzd _ W hA.cut rfl hs4 hs5 ho.1 ho.2
  have HBL : Hid ((pBlocks (s1,s2,4,s4)).length <= 16 /\ 0 < (pBlocks (s1,s2,4,s4)).length) := hidb (by
   rw [xq9]
   have := xx4 s4 ho.1 ho.2
   exact ⟨this.2.1,by show 0 < pMany 4 s4;omega⟩)
  have HS1 := hidb hs1
  have HIN1 : Hid (in64 s1) := hidb (by have := k.hp_.ok.la;rw [hs1];exact ⟨by omega,by omega⟩)
  have HMM : Hid (m < maxLen) := hidb (by have := o.cnt;have := k.hp_.lb;unfold maxLen;omega)
  have HSTAY := hidb hstay
  clear hstay
  generalize hblk : pBlocks (s1,s2,4,s4) = bl at HPU cb HBL
  have HBK := hidb hblk
  clear hb e HST hs1 hblk
  go_enter Tryz.func131,Tryz.ntmps131
  go_wp2_with (first
   | (go_at_call 150;(with_reducible refine cp.mono ?_);rintro e w1 ⟨rfl,hb1⟩)
   | (go_at_call 72;(with_reducible refine (HM.out _ hb1).mono ?_);rintro e w2 ⟨rfl,hh,hK⟩;obtain ⟨S2,hA0⟩ := HS0.out w1 w2 (.cells #[.int .i64 s1,.int .i64 s2,.int .i64 4,.int .i64 s4] 49) hb1 hK hh;have HA0 := hidb hA0;have ccb := cb _ _ _ hA0;clear hA0)
   | (go_at_call 83;(with_reducible refine ccb.mono ?_);rintro e w5 ⟨A,d,rfl,hown,hb5⟩;have HA5 := hidb (HA0.out.below hb5);obtain ⟨g5,rfl,hg5,hg5'⟩ := xJ6 hown HBL.out.2;have HG5 := hidb hg5;have cr := xJ5 g5 bl.length d bl w5 _ hown rfl (by have := HBL.out.1;omega);clear hown hb5)
   | (go_at_call 194;(with_reducible refine cr.mono ?_);rintro e w6 ⟨rfl,hown6,hg6⟩))
  have hlk := HA0.out.cut.lt
  have hg5l : w.heap.size <= g5 /\ w2.heap.size + 1 < g5 := by
   have h1 := HG5.out
   have h2 := HA0.out.low
   simp only [World.size_alloc] at h1 h2
   omega
  have hqn : ¬ PlS S2 p ap g mb v.ks g5 := fun c => by have := HA0.out.pl.lt _ c;have := HG5.out;omega
  have hA6 := HA5.out.grownNew hg6 hqn (by show g5 ≠ w2.heap.size + 1;omega) hg5l.1
  have HA6 := hidb hA6
  have HSL : Hid (Sl w6 w6.heap.size (some ⟨g5,0,none⟩) bl.length (bl.reverse.map iv)) := hidb (Sl.of_own hown6)
  have cpu : ∀ W,Below w6.heap.size w6 W -> Calls Tryz.prog 143 #[.pointer (some ⟨ap,0,none⟩),.agg #[.int .i64 0,.int .i64 0],.slice (some ⟨g5,0,none⟩) bl.length d] W fun e w' => e = .returned (.tuple #[.agg #[.int .i64 c.1,.int .i64 c.2],.int .i64 0]) /\ AddSt w w' Sh S2 p hp ap g mb n m D v.ks { v with h := h',ws := ws' } ⟨w2.heap.size + 1,(s1,s2,4,s4),(0,0),[]⟩ /\ W.grownBy w' (some g) := fun W hb => HPU.out W S2 _ _ d _ (HA6.out.below hb) (by rw [List.length_reverse]) ((HSL.out.below hb).more hb.size) (fun a ha => by
   injection ha with ha
   subst ha
   exact hg5l.1) (by have := HBL.out.1;omega)
  have c1 := hA6.pl.c1
  have d4 := hA6.cut.c4
  have d5 := hA6.cut.c5
  simp only at d4 d5
  clear hA6 hown6 hg6 hqn cr ccb HSL HA5 HG5 hlk hg5 hg5'
  go_cut [] from 28 to 43 (fun wx => AddSt w wx Sh S2 p hp ap g mb n m D v.ks { v with h := h',ws := ws' } ⟨w2.heap.size + 1,(s1,s2,4,s4),c,bl⟩)
  case first =>
   go_region_law (first | (go_simp;go_at_call 143;(with_reducible refine (cpu _ (Below.refl _ _).drew).mono ?_);rintro e w7 ⟨rfl,hA7,hg7⟩;have HA7 := hidb hA7;have e4 := hA7.cut.c4;have e5 := hA7.cut.c5;have f4 := hA7.cut.fz 4;have f5 := hA7.cut.fz 5;simp only at e4 e5 f4 f5;clear hA7 hg7))
   all_goals
    go_wp2_with fail
    go_meet
    exact HA7.out.set c.1 c.2 bl
  case rest =>
   have hmp := hcut.pl.mp
   have c2 := hcut.pl.c2
   have d0 := hcut.cut.c0
   simp only at d0
   have hidw := hok
   obtain ⟨w9,hrun,hown9,hg9⟩ := World.ownsMap.update (P := Tryz.prog) (w := wc.drew) (val := .pointer (some ⟨w2.heap.size + 1,0,none⟩)) (xq2 (w' := wc.drew) hmp rfl) keyed Tryz.underlying143 HMM.out (xzp (i := s1) HIN1.out) (xW5 (some (w2.heap.size + 1)))
   have hAd := hcut.below (W' := wc.drew) (Below.refl _ _).drew
   have hput := hAd.put hg9 hown9 (by
    have h1 := hAd.pl.mis.put (xkr hmp) (k := ⟨w2.heap.size + 1,(s1,s2,4,s4),c,bl⟩) hnew HIN1.out
    exact h1) (by rw [<- HBK.out];exact hok (w2.heap.size + 1))
   have HP := hidb hput
   have S9 : Hid (w9.cell? ⟨p,2,none⟩ = some (.map (some mb)) /\ w9.cell? ⟨w2.heap.size + 1,0,none⟩ = some (.int .i64 s1)) := hidb (by
    obtain ⟨n1,n2,n3,n4,n5⟩ := hcut.pl.ne
    have hb1 : w2.heap.size + 1 ≠ mb := fun e => hcut.new (by show PlS S2 p ap g mb v.ks (w2.heap.size + 1);rw [e];unfold PlS;simp)
    exact ⟨(World.cell?_of_block (w := wc) (a := ⟨p,2,none⟩) (hg9.block p hcut.pl.ltp (fun e => n3 (by injection e)))).trans c2,(World.cell?_of_block (w := wc) (a := ⟨w2.heap.size + 1,0,none⟩) (hg9.block _ hcut.cut.lt (fun e => hb1 (by injection e)))).trans d0⟩)
   clear hcut hmp hput hAd hown9 hg9 hidw c1 d4 d5
   go_wp2
   go_region_held3 (fun w' => w'.cell? ⟨p,2,none⟩ = some (.map (some mb)) /\ w'.cell? ⟨w2.heap.size + 1,0,none⟩ = some (.int .i64 s1)) (first | exact S9.out | (go_keep;done)) (fail)
   go_wp2
   go_ret2
   exact Or.inr ⟨rfl,w2.heap.size + 1,c,ws',rfl,by rw [<- HBK.out] at HP;exact HP.out,HSTAY.out⟩
end Go.Proofs.YtlcdgmjinhbncaaGreat
