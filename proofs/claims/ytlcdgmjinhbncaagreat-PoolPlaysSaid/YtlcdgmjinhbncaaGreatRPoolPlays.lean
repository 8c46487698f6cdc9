import Derived.Test.YtlcdgmjinhbncaaGreatRPoolPlays0
import Derived.Deep.RegionHeld3
import Derived.Deep.Cut
import Derived.Deep.CutRange
namespace Go.Proofs.YtlcdgmjinhbncaaGreat
open Go.RowKit Go.Maps
set_option linter.unusedVariables false
theorem xqe {W X Y : World} (h : Below W.heap.size W X) (k : Below X.heap.size X Y) : Below W.heap.size W Y := h.trans (k.mono h.size)
theorem below_setG4' {B : Nat} {w W : World} (h : Below B w W) {b : Nat} (hb : B <= b) (u0 u1 u2 u3 : Value) : Below B w ((((W.setCell ⟨b,0,none⟩ u0).setCell ⟨b,1,none⟩ u1).setCell ⟨b,2,none⟩ u2).setCell ⟨b,3,none⟩ u3) :=
 (((h.setCell (p := ⟨b,0,none⟩) hb _).setCell (p := ⟨b,1,none⟩) hb _).setCell (p := ⟨b,2,none⟩) hb _).setCell (p := ⟨b,3,none⟩) hb _
set_option maxRecDepth 100000 in
set_option maxHeartbeats 8000000 in
theorem xJb (pages : Int) (A0 : Option Addr) (m c : Nat) (l : List Act9) (w : World) (h0 : in64 pages) (hm : m <= maxLen) (hs : RowOf (Act9Is w) 4 w w.heap.size A0 m l) :
  Calls Tryz.prog 3 #[.int .i64 pages,.slice A0 m c] w fun e w' => e = .returned (.bool true) /\ Below w.heap.size w w' := by
 have cw := fun W => awake9 W
 unfold maxLen at hm
 by_cases g1 : 40 < pages
 ·clear hs
  go_enter Tryz.func3,Tryz.ntmps3
  go_wp2_with (go_at_call 11;(with_reducible refine (cw _).mono ?_);rintro e w1 ⟨rfl,hb⟩)
  go_ret
  exact ⟨rfl,hb⟩
 by_cases g2 : (100 : Int) < (m : Int)
 ·clear hs
  go_enter Tryz.func3,Tryz.ntmps3
  go_wp2_with (go_at_call 11;(with_reducible refine (cw _).mono ?_);rintro e w1 ⟨rfl,hb⟩)
  go_ret
  exact ⟨rfl,hb⟩
 by_cases g0 : pages < 4
 ·have cn := xKz pages w h0 (Or.inl g0)
  have CR : Hid (∀ W,Below w.heap.size w W -> Calls Tryz.prog 13 #[.int .i64 pages] (W.alloc (.cells #[.int .i64 0,.slice none 0 0,.slice none 0 0,.int .i64 0,.slice none 0 0,.bool false] 35)) fun e w3 => ∃ A n c A2 n2 c2 k0 la e0,e = .returned (.tuple #[.agg #[.int .i64 k0,.slice A n c,.slice A2 n2 c2,.int .i64 la],.int .i64 e0]) /\ F6 w3 W.heap.size (.int .i64 0) (.slice none 0 0) (.slice none 0 0) (.int .i64 0) (.slice none 0 0) (.bool false) /\ Hid (Below w.heap.size w w3 /\ w.heap.size <= W.heap.size)) := hidb (fun W hb => by
   have hb1 := hb.alloc hb.size (.cells #[.int .i64 0,.slice none 0 0,.slice none 0 0,.int .i64 0,.slice none 0 0,.bool false] 35)
   have := yqd (fun _ => True) pages (W.alloc (.cells #[.int .i64 0,.slice none 0 0,.slice none 0 0,.int .i64 0,.slice none 0 0,.bool false] 35)) (fun b hb => trivial) h0.1 h0.2
   rw [hNew_no (Or.inl g0)] at this
   refine this.mono ?_
   rintro e w3 ⟨⟨v,rfl,hh⟩,hb2⟩
   obtain ⟨A,c,A2,c2,rfl,hrest⟩ := hh
   exact ⟨A,_,c,A2,_,c2,_,_,_,rfl,(F6.made W _ _ _ _ _ _ _).below hb2,hidb ⟨hb1.trans (hb2.mono hb1.size),hb.size⟩⟩)
  clear hs
  go_enter Tryz.func3,Tryz.ntmps3
  go_wp2_with (first
   | (go_at_call 12;(with_reducible refine cn.mono ?_);rintro e w1 ⟨rfl,hb1⟩)
   | (go_at_call 13;(with_reducible refine (CR.out _ hb1).mono ?_);rintro e w3 ⟨A,n1,c1,A2,n2,c2,k0,la,e0,rfl,⟨x0,x1,x2,x3,x4,x5,xf⟩,HB⟩;have xf0 := xf 0;have xf1 := xf 1;have xf2 := xf 2;have xf3 := xf 3;clear xf)
   | (go_at_call 11;(with_reducible refine (cw _).mono ?_);rintro e w4 ⟨rfl,hb⟩))
  go_ret
  exact ⟨rfl,xqe (below_setG4' HB.out.1 HB.out.2 _ _ _ _) hb⟩
 obtain ⟨F,ws,hN,cn⟩ := xKy pages w (by omega) (by omega)
 have HR := hidb hs
 clear hs
 replace cn : Calls Tryz.prog 12 #[.int .i64 pages] w fun e w' => ∃ hp ap p S,e = .returned (.tuple #[.pointer (some ⟨hp,0,none⟩),.pointer (some ⟨ap,0,none⟩),.pointer (some ⟨p,0,none⟩)]) /\ Hid (PoolSt w w' p hp S ⟨⟨pages,F,[],0⟩,ws,false,[]⟩ 0 pages) := cn.mono fun e w' ⟨hp,ap,p,S,a,b⟩ => ⟨hp,ap,p,S,a,hidb b⟩
 have CR : Hid (∀ w2 p hp S,Hid (PoolSt w w2 p hp S ⟨⟨pages,F,[],0⟩,ws,false,[]⟩ 0 pages) -> Calls Tryz.prog 13 #[.int .i64 pages] (w2.alloc (.cells #[.int .i64 0,.slice none 0 0,.slice none 0 0,.int .i64 0,.slice none 0 0,.bool false] 35)) fun e w3 => ∃ A n c A2 n2 c2,e = .returned (.tuple #[.agg #[.int .i64 pages,.slice A n c,.slice A2 n2 c2,.int .i64 0],.int .i64 0]) /\ F6 w3 w2.heap.size (.int .i64 0) (.slice none 0 0) (.slice none 0 0) (.int .i64 0) (.slice none 0 0) (.bool false) /\
   Hid (L9 w (setG4 w3 w2.heap.size (.int .i64 pages) (.slice A n c) (.slice A2 n2 c2) (.int .i64 0)) p hp w2.heap.size S ⟨⟨pages,F,[],0⟩,ws,false,[]⟩ 0 pages A n c A2 n2 c2 none 0 0)) := hidb (fun w2 p hp S s => by
  have := yqd (fun b => ¬ S b /\ w2.heap.size ≠ b) pages (w2.alloc (.cells #[.int .i64 0,.slice none 0 0,.slice none 0 0,.int .i64 0,.slice none 0 0,.bool false] 35)) (fun b hb => ⟨fun c => by have := s.out.lt b c;simp at hb;omega,by simp at hb;omega⟩) h0.1 h0.2
  rw [hN] at this
  refine this.mono ?_
  rintro e w3 ⟨⟨v,rfl,hh⟩,hb⟩
  obtain ⟨A,c,A2,c2,rfl,hrest⟩ := hh
  have h9 : HIs w3 (fun b => ¬ S b /\ w2.heap.size ≠ b) ⟨pages,F,[],0⟩ (hval pages A F.length c A2 0 c2 0) := ⟨A,c,A2,c2,rfl,hrest⟩
  have h8 := L9.start s.out hb h9
  exact ⟨A,F.length,c,A2,0,c2,rfl,(F6.made w2 _ _ _ _ _ _ _).below hb,hidb h8⟩)
 go_enter Tryz.func3,Tryz.ntmps3
 go_wp2_with (first
  | (go_at_call 12;(with_reducible refine cn.mono ?_);rintro e w2 ⟨hp,ap,p,S2,rfl,s2⟩)
  | (go_at_call 13;(with_reducible refine (CR.out _ _ _ _ s2).mono ?_);rintro e w3 ⟨A,n,c1,A2,n2,c2',rfl,⟨x0,x1,x2,x3,x4,x5,xf⟩,HL⟩;have xf0 := xf 0;have xf1 := xf 1;have xf2 := xf 2;have xf3 := xf 3;clear xf))
 obtain ⟨mb,hmb⟩ : ∃ mb,mb = w2.heap.size := ⟨_,rfl⟩
 obtain ⟨W4,hW4⟩ : ∃ W4,W4 = setG4 w3 w2.heap.size (.int .i64 pages) (.slice A n c1) (.slice A2 n2 c2') (.int .i64 0) := ⟨_,rfl⟩
 rw [<- hW4] at HL
 unfold setG4 at hW4
 rw [<- hW4]
 rw [<- hmb] at HL ⊢
 clear cn CR s2 x0 x1 x2 x3 x4 x5 xf0 xf1 xf2 xf3 hW4 hmb
 go_loopw [9] (fun x wr => ∃ (j : Nat) (S : Nat -> Prop) (u : PoolW) (B : Option Addr) (j1 d1 : Nat) (B2 : Option Addr) (j2 d2 : Nat) (B3 : Option Addr) (j3 d3 : Nat),j <= m /\ x = .int .i64 j /\ Hid (L9 w wr p hp mb S u j pages B j1 d1 B2 j2 d2 B3 j3 d3)) (fun x _ => (m - intOf x).toNat)
 case atStart => exact ⟨0,S2,_,A,n,c1,A2,n2,c2',none,0,0,Nat.zero_le _,rfl,HL⟩
 case round =>
  obtain ⟨j,S,u,B,j1,d1,B2,j2,d2,B3,j3,d3,hj,rfl,HK⟩ := hrel
  by_cases hlt : j < m
  ·obtain ⟨b,off,a,cs,rfl,hbs,hx,hl5,hc,hcs,hkd,hor,hcap,hids,hi64⟩ := (RowOf.below HR.out HK.out.st.bel).at_ hlt
   subst hcs
   have a0 : wr.cell? ⟨b,off + j * 4,none⟩ = some (.int .i64 a.kind) := hc 0 (by omega)
   have a1 : wr.cell? ⟨b,off + j * 4 + 1,none⟩ = some (.int .i64 a.order) := hc 1 (by omega)
   have a2 : wr.cell? ⟨b,off + j * 4 + 2,none⟩ = some (.bool a.on) := hc 2 (by omega)
   have a3 : wr.cell? ⟨b,off + j * 4 + 3,none⟩ = some (.slice a.A a.len a.cap) := hc 3 (by omega)
   have hi0 : (0 : Int) <= (j : Int) := by omega
   have hi1 : (j : Int) < (m : Int) := by omega
   by_cases g4 : (20 : Int) < (a.len : Int)
   ·clear hc hl5 hx
    go_wp2_with (first
     | (go_at_call 11;(with_reducible refine (cw _).mono ?_);rintro e w5 ⟨rfl,hb5⟩))
    go_ret
    exact ⟨rfl,xqe HK.out.st.bel hb5⟩
   obtain ⟨u',hu'⟩ : ∃ u',qStep u.plain a = u' := ⟨_,rfl⟩
   obtain ⟨la,hla⟩ : ∃ x,u.h.last = x := ⟨_,rfl⟩
   obtain ⟨la',hla'⟩ : ∃ x,u'.heap.last = x := ⟨_,rfl⟩
   obtain ⟨hd,hhd⟩ : ∃ x,u.held = x := ⟨_,rfl⟩
   obtain ⟨hd',hhd'⟩ : ∃ x,u'.held = x := ⟨_,rfl⟩
   have f0 : F6 wr mb (.int .i64 pages) (.slice B j1 d1) (.slice B2 j2 d2) (.int .i64 la) (.slice B3 j3 d3) (.bool hd) := by
    have := HK.out.f6
    rw [HK.out.st.pg,hla,hhd] at this
    exact this
   have hbl := xq0 a0
   have hml := f0.lt
   simp only at hbl
   obtain ⟨wo,rfl⟩ : ∃ wo : World,wo = wr := ⟨_,rfl⟩
   have CB : Hid (Calls Tryz.prog 14 #[.pointer (some ⟨hp,0,none⟩),.pointer (some ⟨p,0,none⟩),.agg #[.int .i64 pages,.slice B j1 d1,.slice B2 j2 d2,.int .i64 la,.slice B3 j3 d3,.bool hd],.agg #[.int .i64 a.kind,.int .i64 a.order,.bool a.on,.slice a.A a.len a.cap]] wo.drew fun e w6 => ∃ C k1 e1 C2 k2 e2 C3 k3 e3,e = .returned (.tuple #[.bool true,.agg #[.int .i64 pages,.slice C k1 e1,.slice C2 k2 e2,.int .i64 la',.slice C3 k3 e3,.bool hd']]) /\ F6 w6 mb (.int .i64 pages) (.slice B j1 d1) (.slice B2 j2 d2) (.int .i64 la) (.slice B3 j3 d3) (.bool hd) /\ wo.heap.size <= w6.heap.size /\
     Hid (∀ W4,Below w6.heap.size w6 W4 -> ∃ S' u2,L9 w (set6 W4 mb (.int .i64 pages) (.slice C k1 e1) (.slice C2 k2 e2) (.int .i64 la') (.slice C3 k3 e3) (.bool hd')) p hp mb S' u2 (j + 1) pages C k1 e1 C2 k2 e2 C3 k3 e3)) := hidb (by
    have := (HK.out.below (Below.refl _ _).drew).does (by omega) a hor hids (by omega) hi64 la la' hd hd' hla hhd (by rw [hu'];exact hla') (by rw [hu'];exact hhd')
    refine this.mono ?_
    rintro e w6 ⟨C,k1,e1,C2,k2,e2,C3,k3,e3,x1,x2,x3,x4⟩
    exact ⟨C,k1,e1,C2,k2,e2,C3,k3,e3,x1,x2,x3,hidb (fun W4 hb4 => (x4.out W4 hb4).imp fun S' ⟨u2,_,h⟩ => ⟨u2,h⟩)⟩)
   have CA : Hid (Calls Tryz.prog 14 #[.pointer (some ⟨hp,0,none⟩),.pointer (some ⟨p,0,none⟩),.agg #[.int .i64 pages,.slice B j1 d1,.slice B2 j2 d2,.int .i64 la,.slice B3 j3 d3,.bool hd],.agg #[.int .i64 a.kind,.int .i64 a.order,.bool a.on,.slice a.A a.len a.cap]] (wo.alloc (.cells #[.int .i64 0,.slice none 0 0,.slice none 0 0,.int .i64 0,.slice none 0 0,.bool false] 35)).drew fun e w6 => ∃ C k1 e1 C2 k2 e2 C3 k3 e3,e = .returned (.tuple #[.bool true,.agg #[.int .i64 pages,.slice C k1 e1,.slice C2 k2 e2,.int .i64 la',.slice C3 k3 e3,.bool hd']]) /\ F6 w6 mb (.int .i64 pages) (.slice B j1 d1) (.slice B2 j2 d2) (.int .i64 la) (.slice B3 j3 d3) (.bool hd) /\ F6 w6 wo.heap.size (.int .i64 0) (.slice none 0 0) (.slice none 0 0) (.int .i64 0) (.slice none 0 0) (.bool false) /\ mb < wo.heap.size /\ wo.heap.size < w6.heap.size /\
     Hid (∀ W4,Kept (fun b => wo.heap.size = b) w6 W4 -> ∃ S' u2,L9 w (set6 W4 mb (.int .i64 pages) (.slice C k1 e1) (.slice C2 k2 e2) (.int .i64 la') (.slice C3 k3 e3) (.bool hd')) p hp mb S' u2 (j + 1) pages C k1 e1 C2 k2 e2 C3 k3 e3)) := hidb (by
    have hbd : Below wo.heap.size wo (wo.alloc (.cells #[.int .i64 0,.slice none 0 0,.slice none 0 0,.int .i64 0,.slice none 0 0,.bool false] 35)).drew := ((Below.refl _ _).alloc (Nat.le_refl _) _).drew
    have := HK.out.does2 hbd ((F6.made wo _ _ _ _ _ _ 35).below (Below.refl _ _).drew) (by omega) a hor hids (by omega) hi64 la la' hd hd' hla hhd (by rw [hu'];exact hla') (by rw [hu'];exact hhd')
    refine this.mono ?_
    rintro e w6 ⟨C,k1,e1,C2,k2,e2,C3,k3,e3,x1,x2,x3,x4,x5,x6⟩
    exact ⟨C,k1,e1,C2,k2,e2,C3,k3,e3,x1,x2,x3,x4,x5,hidb (fun W4 hb4 => (x6.out W4 hb4).imp fun S' ⟨u2,_,h⟩ => ⟨u2,h⟩)⟩)
   obtain ⟨y0,y1,y2,y3,y4,y5,_⟩ := f0
   clear hc hl5 hx hla hla' hhd hhd' hids hi64 hcap HR hu' hor hkd
   have ca := CA.out
   have cb := CB.out
   clear CA CB
   go_wp2
   go_cut [10,11] from 62 to 71 (fun v12 v13 wx => v12 = .bool true /\ ∃ t C k1 e1 C2 k2 e2 C3 k3 e3,v13 = .pointer (some ⟨t,0,none⟩) /\ t ≠ mb /\ F6 wx t (.int .i64 pages) (.slice C k1 e1) (.slice C2 k2 e2) (.int .i64 la') (.slice C3 k3 e3) (.bool hd') /\ F6 wx mb (.int .i64 pages) (.slice B j1 d1) (.slice B2 j2 d2) (.int .i64 la) (.slice B3 j3 d3) (.bool hd) /\ Hid (∃ S' u2,L9 w (set6 wx mb (.int .i64 pages) (.slice C k1 e1) (.slice C2 k2 e2) (.int .i64 la') (.slice C3 k3 e3) (.bool hd')) p hp mb S' u2 (j + 1) pages C k1 e1 C2 k2 e2 C3 k3 e3))
   case first =>
    clear HK cw
    go_region_law
     (first
      | (go_simp;go_at_call 14;(with_reducible refine ca.mono ?_);rintro e w6 ⟨C,k1,e1,C2,k2,e2,C3,k3,e3,rfl,hfm,hft,hmt,hts,HN⟩;have HFM := hidb hfm;have HFT := hidb hft;obtain ⟨t0,t1,t2,t3,t4,t5,tf⟩ := hft;have tf0 := tf 0;have tf1 := tf 1;have tf2 := tf 2;have tf3 := tf 3;have tf4 := tf 4;have tf5 := tf 5;clear tf hfm)
      | (go_simp;go_at_call 14;(with_reducible refine cb.mono ?_);rintro e w6 ⟨C,k1,e1,C2,k2,e2,C3,k3,e3,rfl,hfm,hts,HN⟩;have hmt := hfm.lt;have HFM := hidb hfm;clear hfm))
    all_goals
     go_wp2_with fail
     go_meet
     first
      | exact ⟨rfl,wo.heap.size,C,k1,e1,C2,k2,e2,C3,k3,e3,rfl,by omega,HFT.out.put _ _ _ _ _ _,HFM.out.kept (T := fun b => wo.heap.size = b) (xx1 (Kept.refl _ _) (Or.inl rfl) _ _ _ _ _ _) (fun e => by omega),hidb (HN.out _ (xx1 (Kept.refl _ _) (Or.inl rfl) _ _ _ _ _ _))⟩
      | exact ⟨rfl,w6.heap.size,C,k1,e1,C2,k2,e2,C3,k3,e3,rfl,by omega,F6.made w6 _ _ _ _ _ _ _,HFM.out.al _,hidb (HN.out _ ((Below.refl _ _).alloc (Nat.le_refl _) _))⟩
   case rest =>
    obtain ⟨rfl,t,C,k1,e1,C2,k2,e2,C3,k3,e3,rfl,htm,⟨t0,t1,t2,t3,t4,t5,_⟩,⟨z0,z1,z2,z3,z4,z5,zf⟩,HX⟩ := hcut
    have zf0 := zf 0
    have zf1 := zf 1
    have zf2 := zf 2
    have zf3 := zf 3
    have zf4 := zf 4
    have zf5 := zf 5
    clear y0 y1 y2 y3 y4 y5 a0 a1 a2 a3 ca cb zf HK
    go_wp2
    go_roundw
    case rel =>
     obtain ⟨S',u2,hS'⟩ := HX.out
     exact ⟨j + 1,S',u2,C,k1,e1,C2,k2,e2,C3,k3,e3,by omega,by go_num,hidb hS'⟩
    case measure => simp [intOf];omega
  ·obtain rfl : m = j := by omega
   obtain ⟨la,hla⟩ : ∃ x,u.h.last = x := ⟨_,rfl⟩
   obtain ⟨hd,hhd⟩ : ∃ x,u.held = x := ⟨_,rfl⟩
   have f0 : F6 wr mb (.int .i64 pages) (.slice B j1 d1) (.slice B2 j2 d2) (.int .i64 la) (.slice B3 j3 d3) (.bool hd) := by
    have := HK.out.f6
    rw [HK.out.st.pg,hla,hhd] at this
    exact this
   obtain ⟨ys,hhi,hcn,hys⟩ := HK.out.po.rows
   have hp4 := HK.out.st.pok.hok.p0
   have hp5 := HK.out.st.pok.hok.p1
   have hpg := HK.out.st.pg
   have hpg' : u.plain.heap.pages = pages := hpg
   obtain ⟨e1,e2,sfr,ssp⟩ := hhi.heapParts
   have hl3 : j3 <= 65536 := by
    have h1 : ys.length = j3 := hcn.row.1
    have h2 := (HK.out.st.few (by omega)).2.1
    rw [<- hys,List.length_map] at h2
    omega
   obtain ⟨wx,rfl⟩ : ∃ wx : World,wx = wr := ⟨_,rfl⟩
   have HCN := hidb (And.intro hcn hys)
   have HF0 := hidb f0
   have CSp : Hid (∀ W (o : Int),Below wx.heap.size wx W -> Calls Tryz.prog 15 #[.pointer (some ⟨p,0,none⟩),.int .i64 o] W fun e w5 => ∃ ds A c nt,e = .returned (.slice A nt c) /\ Hid (InOrderP u.ks ds /\ (ds.filter fun k => k.s.2.2.2 == o).length = nt /\ (∀ i,i < nt -> ∃ b off t,A = some ⟨b,off,none⟩ /\ (ds.filter fun k => k.s.2.2.2 == o)[i]? = some t /\ b < w5.heap.size /\ w5.cell? ⟨b,off + i * 4,none⟩ = some (.int .i64 t.s.1) /\ w5.cell? ⟨b,off + i * 4 + 1,none⟩ = some (.int .i64 t.s.2.1) /\ w5.cell? ⟨b,off + i * 4 + 2,none⟩ = some (.int .i64 t.s.2.2.1) /\ w5.cell? ⟨b,off + i * 4 + 3,none⟩ = some (.int .i64 t.s.2.2.2)) /\ Below wx.heap.size wx w5 /\ nt <= 65536) /\ F6 w5 mb (.int .i64 pages) (.slice B j1 d1) (.slice B2 j2 d2) (.int .i64 la) (.slice B3 j3 d3) (.bool hd)) := hidb (fun W o hb => by
    refine (t_pspans (HK.out.below hb).st o).mono ?_
    rintro e w5 ⟨ds,h1,A,c,rfl,hown,hb5⟩
    have hb6 := xqe hb hb5
    have hfw : ((ds.filter fun k => k.s.2.2.2 == o).map (·.s)).length <= 65536 := by
     have h2 := List.length_filter_le (fun k : CutV => k.s.2.2.2 == o) ds
     have h3 := xwd (l := ds) (m := u.ks) (xqc h1.1) (fun x hx => (h1.2.1 x).1 hx)
     have h4 := (HK.out.st.few (by omega)).2.1
     have h5 : u.plain.l.length = u.ks.length := List.length_map ..
     rw [List.length_map]
     omega
    refine ⟨ds,A,c,_,rfl,hidb ⟨h1,(List.length_map ..).symm,fun i hi => ?_,hb6,hfw⟩,HF0.out.below hb6⟩
    obtain ⟨b,off,s,e,hy,hbl,y0,y1,y2,y3⟩ := span_atQ hown hi
    rw [List.getElem?_map] at hy
    obtain ⟨t,ht,rfl⟩ := Option.map_eq_some_iff.1 hy
    exact ⟨b,off,t,e,ht,hbl,y0,y1,y2,y3⟩)
   have CWa : Hid (∀ W (o : Int) ds nt,in64 o -> InOrderP u.ks ds -> (ds.filter fun k => k.s.2.2.2 == o).length = nt -> Below wx.heap.size wx W -> Calls Tryz.prog 16 #[.agg #[.int .i64 pages,.slice B j1 d1,.slice B2 j2 d2,.int .i64 la,.slice B3 j3 d3,.bool hd],.int .i64 o] W fun e w6 => ∃ A6 c6,e = .returned (.slice A6 nt c6) /\ Hid (Sl w6 w6.heap.size A6 nt (((pSpans u.plain.l o).map fun i : Nat => (i : Int)).map iv) /\ Below wx.heap.size wx w6 /\ Below W.heap.size W w6) /\ F6 w6 mb (.int .i64 pages) (.slice B j1 d1) (.slice B2 j2 d2) (.int .i64 la) (.slice B3 j3 d3) (.bool hd)) := hidb (fun W o ds nt ho h1 hnt hb => by
    have hq := xXv (fun b => ¬ S b /\ mb ≠ b) pages la B B2 B3 j1 d1 j2 d2 j3 d3 hd ys o W (HCN.out.1.below hb) hl3 ho
    unfold pval at hq
    rw [HCN.out.2] at hq
    refine hq.mono ?_
    rintro e w6 ⟨A6,c6,rfl,hown,hb6⟩
    have hb7 := xqe hb hb6
    have hlen : ((pSpans u.plain.l o).map fun i : Nat => (i : Int)).length = nt := by rw [List.length_map,(HK.out.st.spans_at h1 o).1,hnt]
    rw [hlen] at hown ⊢
    exact ⟨A6,c6,rfl,hidb ⟨Sl.of_own hown,hb7,hb6⟩,HF0.out.below hb7⟩)
   have CLc : Hid (∀ X W (o : Int) nl,Hid (Below wx.heap.size wx X) -> (pList u.plain.l o).length = nl -> Below X.heap.size X W -> Calls Tryz.prog 18 #[.pointer (some ⟨p,0,none⟩),.int .i64 o] W fun e w7 => ∃ A7 c7,e = .returned (.slice A7 nl c7) /\ Hid (Below X.heap.size X w7 /\ Sl w7 w7.heap.size A7 nl ((pList u.plain.l o).map iv) /\ nl <= 9223372036854775806) /\ F6 w7 mb (.int .i64 pages) (.slice B j1 d1) (.slice B2 j2 d2) (.int .i64 la) (.slice B3 j3 d3) (.bool hd)) := hidb (fun X W o nl hX hnl hb => by
    refine (t_plist (HK.out.below (xqe hX.out hb)).st o).mono ?_
    rintro e w7 ⟨ds,h1,A7,c7,rfl,hown,hb7⟩
    have hfew := list_few HK.out.st h1 o
    rw [HK.out.st.list_same h1 o,hnl] at hown hfew ⊢
    have hb8 := xqe hb hb7
    exact ⟨A7,c7,rfl,hidb ⟨hb8,Sl.of_own hown,hfew⟩,HF0.out.below (xqe hX.out hb8)⟩)
   have CLd : Hid (∀ X W (o : Int) nl A7,Hid (Below wx.heap.size wx X) -> in64 o -> (pList u.plain.l o).length = nl -> Hid (Below X.heap.size X W /\ Sl W W.heap.size A7 nl ((pList u.plain.l o).map iv) /\ nl <= 9223372036854775806) -> Calls Tryz.prog 19 #[.agg #[.int .i64 pages,.slice B j1 d1,.slice B2 j2 d2,.int .i64 la,.slice B3 j3 d3,.bool hd],.int .i64 o] W fun e w8 => ∃ A8 c8,e = .returned (.slice A8 nl c8) /\ Hid (Below X.heap.size X w8 /\ Sl w8 w8.heap.size A7 nl ((pList u.plain.l o).map iv) /\ Sl w8 w8.heap.size A8 nl ((pList u.plain.l o).map iv) /\ nl <= 9223372036854775806) /\ F6 w8 mb (.int .i64 pages) (.slice B j1 d1) (.slice B2 j2 d2) (.int .i64 la) (.slice B3 j3 d3) (.bool hd)) := hidb (fun X W o nl A7 hX ho hnl h => by
    have hq := yv5 (fun b => ¬ S b /\ mb ≠ b) pages la B B2 B3 j1 d1 j2 d2 j3 d3 hd ys o W (HCN.out.1.below (xqe hX.out h.out.1)) hl3 ho
    unfold pval at hq
    rw [HCN.out.2] at hq
    refine hq.mono ?_
    rintro e w8 ⟨A8,c8,rfl,hown,hb8⟩
    rw [hnl] at hown ⊢
    have hb9 := xqe h.out.1 hb8
    exact ⟨A8,c8,rfl,hidb ⟨hb9,(h.out.2.1.below hb8).more hb8.size,Sl.of_own hown,h.out.2.2⟩,HF0.out.below (xqe hX.out hb9)⟩)
   have CI : Hid (∀ (X W : World) (L : List Int) (nl : Nat) A7 c7 A8 c8,Hid (Below wx.heap.size wx X) -> Hid (Below X.heap.size X W /\ Sl W W.heap.size A7 nl (L.map iv) /\ Sl W W.heap.size A8 nl (L.map iv) /\ nl <= 9223372036854775806) -> Calls Tryz.prog 17 #[.slice A7 nl c7,.slice A8 nl c8] W fun e w9 => e = .returned (.bool true) /\ Hid (Below X.heap.size X w9) /\ F6 w9 mb (.int .i64 pages) (.slice B j1 d1) (.slice B2 j2 d2) (.int .i64 la) (.slice B3 j3 d3) (.bool hd)) := hidb (fun X W L nl A7 c7 A8 c8 hX h => by
    refine (yjk A7 A8 nl c7 nl c8 L L W _ _ h.out.2.1 h.out.2.2.1 h.out.2.2.2 h.out.2.2.2).mono ?_
    rintro e w9 ⟨rfl,nq,rfl⟩
    have hb9 := belowN h.out.1 nq
    exact ⟨by simp,hidb hb9,HF0.out.below (xqe hX.out hb9)⟩)
   have COc : Hid (∀ W (a : Int),in64 a -> Below wx.heap.size wx W -> Calls Tryz.prog 20 #[.pointer (some ⟨p,0,none⟩),.int .i64 a] W fun e w5 => e = .returned (.int .i64 (pOrder u.plain.l a)) /\ Hid (Below wx.heap.size wx w5) /\ F6 w5 mb (.int .i64 pages) (.slice B j1 d1) (.slice B2 j2 d2) (.int .i64 la) (.slice B3 j3 d3) (.bool hd)) := hidb (fun W a ha hb => by
    refine (t_porder (HK.out.below hb).st a ha _ (yzu u.ks a)).mono ?_
    rintro e w5 ⟨rfl,hb5⟩
    have hb6 := xqe hb hb5
    exact ⟨rfl,hidb hb6,HF0.out.below hb6⟩)
   have COd : Hid (∀ W (a : Int),in64 a -> Below wx.heap.size wx W -> Calls Tryz.prog 21 #[.agg #[.int .i64 pages,.slice B j1 d1,.slice B2 j2 d2,.int .i64 la,.slice B3 j3 d3,.bool hd],.int .i64 a] W fun e w5 => e = .returned (.int .i64 (pOrder u.plain.l a)) /\ Hid (Below wx.heap.size wx w5) /\ F6 w5 mb (.int .i64 pages) (.slice B j1 d1) (.slice B2 j2 d2) (.int .i64 la) (.slice B3 j3 d3) (.bool hd)) := hidb (fun W a ha hb => by
    have hq := yzg (fun b => ¬ S b /\ mb ≠ b) pages la B B2 B3 j1 d1 j2 d2 j3 d3 hd ys a W (HCN.out.1.below hb) hl3 ha
    unfold pval at hq
    rw [HCN.out.2] at hq
    refine hq.mono ?_
    rintro e w5 ⟨rfl,hb5⟩
    have hb6 := xqe hb hb5
    exact ⟨rfl,hidb hb6,HF0.out.below hb6⟩)
   obtain ⟨XO,hXO⟩ : ∃ X,pOut u.plain.l (4 * pages.toNat) = X := ⟨_,rfl⟩
   obtain ⟨no,hno⟩ : ∃ x,XO.length = x := ⟨_,rfl⟩
   have hno6 : no <= 9223372036854775806 := by
    have := xQb u.plain.l (4 * pages.toNat)
    rw [hXO,hno] at this
    omega
   have CUc : Hid (∀ W,Below wx.heap.size wx W -> Calls Tryz.prog 22 #[.pointer (some ⟨p,0,none⟩)] W fun e w7 => ∃ A7 c7,e = .returned (.slice A7 no c7) /\ Hid (Below wx.heap.size wx w7 /\ Sl w7 w7.heap.size A7 no (XO.map iv)) /\ F6 w7 mb (.int .i64 pages) (.slice B j1 d1) (.slice B2 j2 d2) (.int .i64 la) (.slice B3 j3 d3) (.bool hd)) := hidb (fun W hb => by
    refine (t_pout (HK.out.below hb).st).mono ?_
    rintro e w7 ⟨ds,h1,A7,c7,rfl,hown,hb7⟩
    rw [HK.out.st.out_same h1,hXO,hno] at hown ⊢
    have hb8 := xqe hb hb7
    exact ⟨A7,c7,rfl,hidb ⟨hb8,Sl.of_own hown⟩,HF0.out.below hb8⟩)
   have CUd : Hid (∀ W A7,Hid (Below wx.heap.size wx W /\ Sl W W.heap.size A7 no (XO.map iv)) -> Calls Tryz.prog 23 #[.agg #[.int .i64 pages,.slice B j1 d1,.slice B2 j2 d2,.int .i64 la,.slice B3 j3 d3,.bool hd]] W fun e w8 => ∃ A8 c8,e = .returned (.slice A8 no c8) /\ Hid (Below wx.heap.size wx w8 /\ Sl w8 w8.heap.size A7 no (XO.map iv) /\ Sl w8 w8.heap.size A8 no (XO.map iv) /\ no <= 9223372036854775806) /\ F6 w8 mb (.int .i64 pages) (.slice B j1 d1) (.slice B2 j2 d2) (.int .i64 la) (.slice B3 j3 d3) (.bool hd)) := hidb (fun W A7 h => by
    have hq := ref_pout (fun b => ¬ S b /\ mb ≠ b) pages la B B2 B3 j1 d1 j2 d2 j3 d3 hd ys W (HCN.out.1.below h.out.1) hl3 (by omega) (by omega)
    unfold pval at hq
    rw [HCN.out.2,hXO] at hq
    refine hq.mono ?_
    rintro e w8 ⟨A8,c8,rfl,hown,hb8⟩
    rw [hno] at hown ⊢
    have hb9 := xqe h.out.1 hb8
    exact ⟨A8,c8,rfl,hidb ⟨hb9,(h.out.2.below hb8).more hb8.size,Sl.of_own hown,hno6⟩,HF0.out.below hb9⟩)
   obtain ⟨XS,hXS⟩ : ∃ X,hSpans u.h = X := ⟨_,rfl⟩
   obtain ⟨nx,hnx⟩ : ∃ x,XS.length = x := ⟨_,rfl⟩
   have hlx : nx <= 65536 := by
    have h1 := xwd (l := hSpans u.h) (m := u.h.l) ((xvt HK.out.st.pok.hok).imp fun {a b} h e => by rw [e] at h;omega) (fun s hs => (xX2 HK.out.st.pok.hok s).1 hs)
    have h2 : u.h.l.length <= 60000 := (HK.out.st.few (by omega)).1
    rw [hXS,hnx] at h1
    omega
   have CSc : Hid (∀ W,Hid (Below wx.heap.size wx W) -> Calls Tryz.prog 25 #[.pointer (some ⟨hp,0,none⟩)] W fun e w5 => ∃ A5 c5,e = .returned (.slice A5 nx c5) /\ Hid (Below wx.heap.size wx w5 /\ Sn w5 w5.heap.size A5 nx XS) /\ F6 w5 mb (.int .i64 pages) (.slice B j1 d1) (.slice B2 j2 d2) (.int .i64 la) (.slice B3 j3 d3) (.bool hd)) := hidb (fun W hb => by
    refine (ykz (HK.out.below hb.out).st).mono ?_
    rw [hXS]
    rintro e w5 ⟨A5,c5,rfl,ho,hb5⟩
    rw [hnx] at ho
    have hb6 := xqe hb.out hb5
    exact ⟨A5,c5,by rw [hnx],hidb ⟨hb6,RowOf.of_own xqg ho hnx⟩,HF0.out.below hb6⟩)
   have CSd : Hid (∀ W A5,Hid (Below wx.heap.size wx W /\ Sn W W.heap.size A5 nx XS) -> Calls Tryz.prog 26 #[.agg #[.int .i64 pages,.slice B j1 d1,.slice B2 j2 d2,.int .i64 la]] W fun e w6 => ∃ A6 c6,e = .returned (.slice A6 nx c6) /\ Hid (Below wx.heap.size wx w6 /\ Sn w6 w6.heap.size A5 nx XS /\ Sn w6 w6.heap.size A6 nx XS) /\ F6 w6 mb (.int .i64 pages) (.slice B j1 d1) (.slice B2 j2 d2) (.int .i64 la) (.slice B3 j3 d3) (.bool hd)) := hidb (fun W A5 h => by
    obtain ⟨pn,hpn⟩ : ∃ pn : Nat,pages = (pn : Int) := ⟨pages.toNat,by omega⟩
    have hsn : Sn W W.heap.size B2 j2 u.h.l := RowOf.more (RowOf.below ssp h.out.1) h.out.1.size
    have hj2 : j2 <= 65536 := by
     have h2 : u.h.l.length <= 60000 := (HK.out.st.few (by omega)).1
     have h3 : j2 = u.h.l.length := e2
     omega
    have hq := yxt pn la B B2 j1 d1 j2 d2 u.h.free u.h.l W hsn hj2 (by omega)
    have he : (⟨(pn : Int),u.h.free,u.h.l,la⟩ : HeapV) = u.h := by rw [<- hpn,<- hpg,<- hla]
    rw [he,hXS,<- hpn] at hq
    refine hq.mono ?_
    rintro e w6 ⟨A6,c6,rfl,ho,hb6⟩
    rw [hnx] at ho
    have hb7 := xqe h.out.1 hb6
    exact ⟨A6,c6,by rw [hnx],hidb ⟨hb7,RowOf.more (RowOf.below h.out.2 hb6) hb6.size,RowOf.of_own xqg ho hnx⟩,HF0.out.below hb7⟩)
   have CSm : Hid (∀ W A5 c5 A6 c6,Hid (Below wx.heap.size wx W /\ Sn W W.heap.size A5 nx XS /\ Sn W W.heap.size A6 nx XS) -> Calls Tryz.prog 24 #[.slice A5 nx c5,.slice A6 nx c6] W fun e w7 => e = .returned (.bool true) /\ Hid (Below wx.heap.size wx w7) /\ F6 w7 mb (.int .i64 pages) (.slice B j1 d1) (.slice B2 j2 d2) (.int .i64 la) (.slice B3 j3 d3) (.bool hd)) := hidb (fun W A5 c5 A6 c6 h => by
    refine (yjx A5 A6 nx c5 nx c6 XS XS W _ _ h.out.2.1 h.out.2.2 (by omega) (by omega)).mono ?_
    rintro e w7 ⟨rfl,nq,rfl⟩
    have hb7 := belowN h.out.1 nq
    exact ⟨by simp,hidb hb7,HF0.out.below hb7⟩)
   obtain ⟨XR,hXR⟩ : ∃ X,fList u.h.free = X := ⟨_,rfl⟩
   obtain ⟨nr,hnr⟩ : ∃ x,XR.length = x := ⟨_,rfl⟩
   have hfl : u.h.free.length = 1024 := HK.out.st.pok.hok.fl
   have CRc : Hid (∀ W,Hid (Below wx.heap.size wx W) -> Calls Tryz.prog 28 #[.pointer (some ⟨hp,0,none⟩)] W fun e w5 => ∃ A5 c5,e = .returned (.slice A5 nr c5) /\ Hid (Below wx.heap.size wx w5 /\ Rn w5 w5.heap.size A5 nr XR) /\ F6 w5 mb (.int .i64 pages) (.slice B j1 d1) (.slice B2 j2 d2) (.int .i64 la) (.slice B3 j3 d3) (.bool hd)) := hidb (fun W hb => by
    refine (t_phruns (HK.out.below hb.out).st).mono ?_
    rw [hXR]
    rintro e w5 ⟨A5,c5,rfl,ho,hb5⟩
    rw [hnr] at ho
    have hb6 := xqe hb.out hb5
    exact ⟨A5,c5,by rw [hnr],hidb ⟨hb6,Rn.of_own ho hnr⟩,HF0.out.below hb6⟩)
   have CRd : Hid (∀ W A5,Hid (Below wx.heap.size wx W /\ Rn W W.heap.size A5 nr XR) -> Calls Tryz.prog 29 #[.slice B j1 d1] W fun e w6 => ∃ A6 c6,e = .returned (.slice A6 nr c6) /\ Hid (Below wx.heap.size wx w6 /\ Rn w6 w6.heap.size A5 nr XR /\ Rn w6 w6.heap.size A6 nr XR) /\ F6 w6 mb (.int .i64 pages) (.slice B j1 d1) (.slice B2 j2 d2) (.int .i64 la) (.slice B3 j3 d3) (.bool hd)) := hidb (fun W A5 h => by
    have hsl : Sl W W.heap.size B j1 (u.h.free.map bv) := (sfr.below h.out.1).more h.out.1.size
    have hq := xJv B j1 d1 u.h.free W hsl (by have h3 : j1 = u.h.free.length := e1;omega)
    rw [hXR] at hq
    refine hq.mono ?_
    rintro e w6 ⟨A6,c6,rfl,ho,hb6⟩
    rw [hnr] at ho
    have hb7 := xqe h.out.1 hb6
    exact ⟨A6,c6,by rw [hnr],hidb ⟨hb7,(h.out.2.below hb6).more hb6.size,Rn.of_own ho hnr⟩,HF0.out.below hb7⟩)
   have CRm : Hid (∀ W A5 c5 A6 c6,Hid (Below wx.heap.size wx W /\ Rn W W.heap.size A5 nr XR /\ Rn W W.heap.size A6 nr XR) -> Calls Tryz.prog 27 #[.slice A5 nr c5,.slice A6 nr c6] W fun e w7 => e = .returned (.bool true) /\ Hid (Below wx.heap.size wx w7) /\ F6 w7 mb (.int .i64 pages) (.slice B j1 d1) (.slice B2 j2 d2) (.int .i64 la) (.slice B3 j3 d3) (.bool hd)) := hidb (fun W A5 c5 A6 c6 h => by
    have hle := xJm u.h.free
    rw [hXR,hnr] at hle
    refine (ykq A5 A6 nr c5 nr c6 XR XR W _ _ h.out.2.1 h.out.2.2 (by omega) (by omega)).mono ?_
    rintro e w7 ⟨rfl,nq,rfl⟩
    have hb7 := belowN h.out.1 nq
    exact ⟨by simp,hidb hb7,HF0.out.below hb7⟩)
   have CAw : Hid (∀ W,Hid (Below wx.heap.size wx W) -> Calls Tryz.prog 11 #[] W fun e w8 => e = .returned (.bool true) /\ Hid (Below w.heap.size w w8) /\ F6 w8 mb (.int .i64 pages) (.slice B j1 d1) (.slice B2 j2 d2) (.int .i64 la) (.slice B3 j3 d3) (.bool hd)) := hidb (fun W h => by
    refine (cw W).mono ?_
    rintro e w8 ⟨rfl,hb8⟩
    have hb9 := xqe h.out hb8
    exact ⟨rfl,hidb (xqe HK.out.st.bel hb9),HF0.out.below hb9⟩)
   have HSA : Hid (∀ (o : Int) ds,InOrderP u.ks ds -> ∀ (j i : Nat),(pSpans u.plain.l o)[j]? = some i -> ∃ t,(ds.filter fun k => k.s.2.2.2 == o)[j]? = some t /\ ∃ y,ys[i]? = some y /\ y.s = t.s) := hidb (fun o ds h1 j i hi => by
    obtain ⟨t,ht,hl⟩ := (HK.out.st.spans_at h1 o).2 j i hi
    refine ⟨t,ht,?_⟩
    rw [<- hys,List.getElem?_map] at hl
    obtain ⟨y,hy,e⟩ := Option.map_eq_some_iff.1 hl
    exact ⟨y,hy,congrArg (·.1) e⟩)
   have HX0 : Hid (Below wx.heap.size wx wx) := hidb (Below.refl _ _)
   have hp40 : pages <= 40 := by omega
   have hp04 : 4 <= pages := by omega
   clear hla hhd hXO hno hXS hnx hXR hnr HK HR hhi hcn hys hp4 hp5 hpg hpg' e1 e2 sfr ssp hfl f0
   go_wp2
   go_loopw [12,13,14,15] (fun x _ _ _ wr2 => ∃ o : Int,-1 <= o /\ o <= 5 /\ x = .int .i64 o /\ Hid (Below wx.heap.size wx wr2)) (fun x _ _ _ _ => (5 - intOf x).toNat)
   case atStart => exact ⟨-1,by omega,by omega,rfl,hidb (Below.refl _ _)⟩
   case round =>
    obtain ⟨o,ho1,ho2,rfl,HB5⟩ := hrel
    by_cases hlo : o < 5
    ·obtain ⟨wo,rfl⟩ : ∃ wo : World,wo = wr := ⟨_,rfl⟩
     have ho64 : in64 o := ⟨by omega,by omega⟩
     have hwr : IntKind.i64.wrap (o + 1) = o + 1 := by rw [IntKind.wrap_i64];omega
     have cs1 := CSp.out wo o HB5.out
     have cw1 := fun W ds nt => CWa.out W o ds nt ho64
     go_wp2_with (first
      | (go_at_call 15;(with_reducible refine cs1.mono ?_);rintro e w5 ⟨ds,AS,cS,nt,rfl,HS,⟨x0,x1,x2,x3,x4,x5,xf⟩⟩;have cw2 := cw1 w5 ds nt HS.out.1 HS.out.2.1 HS.out.2.2.2.1;have hnt6 := HS.out.2.2.2.2)
      | (go_at_call 16;(with_reducible refine cw2.mono ?_);rintro e w6 ⟨AW,cW,rfl,HW,⟨x0,x1,x2,x3,x4,x5,xf⟩⟩))
     clear cs1 cw1 cw2 xf
     obtain ⟨nl,hnl⟩ : ∃ x,(pList u.plain.l o).length = x := ⟨_,rfl⟩
     have HW6 := hidb HW.out.2.1
     have cl := fun W => CLc.out w6 W o nl HW6 hnl
     have cd := fun W A7 => CLd.out w6 W o nl A7 HW6 ho64 hnl
     have ci := fun W A7 c7 A8 c8 => CI.out w6 W (pList u.plain.l o) nl A7 c7 A8 c8 HW6
     clear hnl
     go_region_held3 (fun W' => W'.cell? ⟨mb,0,none⟩ = some (.int .i64 pages) /\ W'.cell? ⟨mb,1,none⟩ = some (.slice B j1 d1) /\ W'.cell? ⟨mb,2,none⟩ = some (.slice B2 j2 d2) /\ W'.cell? ⟨mb,3,none⟩ = some (.int .i64 la) /\ W'.cell? ⟨mb,4,none⟩ = some (.slice B3 j3 d3) /\ W'.cell? ⟨mb,5,none⟩ = some (.bool hd)) (go_keep)
      (first
       | (go_at_call 18;(with_reducible refine (cl _ (by first | exact Below.refl _ _ | exact (Below.refl _ _).drew)).mono ?_);rintro e w7 ⟨A7,c7,rfl,H7,⟨x0,x1,x2,x3,x4,x5,_⟩⟩)
       | (go_at_call 19;(with_reducible refine (cd _ _ H7).mono ?_);rintro e w8 ⟨A8,c8,rfl,H8,⟨x0,x1,x2,x3,x4,x5,_⟩⟩;clear H7)
       | (go_at_call 17;(with_reducible refine (ci _ _ _ _ _ H8).mono ?_);rintro e w9 ⟨rfl,H9,⟨x0,x1,x2,x3,x4,x5,_⟩⟩;clear H8))
     clear cl cd ci
     go_wp2
     go_loopw [15] (fun x wr3 => ∃ (i : Nat),i <= nt /\ x = .int .i64 i /\ Hid (Below w9.heap.size w9 wr3)) (fun x _ => (nt - intOf x).toNat)
     case atStart => exact ⟨0,Nat.zero_le _,rfl,hidb (Below.refl _ _)⟩
     case round =>
      obtain ⟨i,hi,rfl,HB9⟩ := hrel
      by_cases hli : i < nt
      ·obtain ⟨bs,offs,t,rfl,ht,hbs,y0,y1,y2,y3⟩ := HS.out.2.2.1 i hli
       obtain ⟨bw,offw,kz,rfl,hkz,hcw⟩ := HW.out.1.int_ hli
       rw [List.getElem?_map] at hkz
       obtain ⟨kn,hkn,rfl⟩ := Option.map_eq_some_iff.1 hkz
       obtain ⟨t',ht',y,hy,hst⟩ := HSA.out o ds HS.out.1 i kn hkn
       rw [ht] at ht'
       obtain rfl := Option.some.inj ht'
       have hkl : kn < j3 := by
        have h1 : ys.length = j3 := HCN.out.1.row.1
        have := (List.getElem?_eq_some_iff.1 hy).1
        omega
       have q6 : Below w6.heap.size w6 wr := xqe H9.out HB9.out
       have q5 : Below w5.heap.size w5 wr := xqe HW.out.2.2 q6
       have qx := xqe HW6.out q6
       have z0 := (q5.cell (p := ⟨bs,offs + i * 4,none⟩) hbs).trans y0
       have z1 := (q5.cell (p := ⟨bs,offs + i * 4 + 1,none⟩) hbs).trans y1
       have z2 := (q5.cell (p := ⟨bs,offs + i * 4 + 2,none⟩) hbs).trans y2
       have z3 := (q5.cell (p := ⟨bs,offs + i * 4 + 3,none⟩) hbs).trans y3
       have zw := (q6.cell (p := ⟨bw,offw + i,none⟩) (xq0 hcw)).trans hcw
       obtain ⟨x0,x1,x2,x3,x4,x5,_⟩ := HF0.out.below qx
       obtain ⟨b3,off3,y2',cs2,e3,hb3,hy2,_,hc3,rfl⟩ := RowOf.at_ (HCN.out.1.below qx).row hkl
       rw [hy] at hy2
       obtain rfl := Option.some.inj hy2
       obtain ⟨tb,⟨s1,s2,s3,s4⟩,tc,tl⟩ := t
       obtain ⟨⟨r1,r2,r3,r4⟩,yA,yn,yc,yl⟩ := y
       simp only at hst
       injection hst with g1 g2
       injection g2 with g2 g3
       injection g3 with g3 g4
       subst g1 g2 g3 g4
       have c0 : wr.cell? ⟨b3,off3 + kn * 5,none⟩ = some (.int .i64 r1) := hc3 0 (by decide)
       have c1 : wr.cell? ⟨b3,off3 + kn * 5 + 1,none⟩ = some (.int .i64 r2) := hc3 1 (by decide)
       have c2 : wr.cell? ⟨b3,off3 + kn * 5 + 2,none⟩ = some (.int .i64 r3) := hc3 2 (by decide)
       have c3 : wr.cell? ⟨b3,off3 + kn * 5 + 3,none⟩ = some (.int .i64 r4) := hc3 3 (by decide)
       have hq : ∀ W,(binOp .neq 49 (.agg #[.int .i64 r1,.int .i64 r2,.int .i64 r3,.int .i64 r4]) (.agg #[.int .i64 r1,.int .i64 r2,.int .i64 r3,.int .i64 r4])).run Tryz.prog W = .ok (.bool false) W := fun W => by rw [yqb];simp
       have hi0 : (0 : Int) <= (i : Int) := by omega
       have hi1 : (i : Int) < (nt : Int) := by omega
       have hk0 : (0 : Int) <= (kn : Int) := by omega
       have hk1 : (kn : Int) < (j3 : Int) := by omega
       simp only at z0 z1 z2 z3
       subst e3
       clear hy ht ht' hkn hc3 hcw y0 y1 y2 y3 q5 q6 qx
       go_wp2
       go_quiet (fail)
       go_wp2
       go_roundw
       case rel => exact ⟨i + 1,by omega,by go_num,hidb (belowN HB9.out _)⟩
       case measure => simp [intOf];omega
      ·obtain rfl : i = nt := by omega
       go_wp2
       go_roundw
       case rel => exact ⟨o + 1,by omega,by omega,by first | rfl | go_num,hidb (xqe HW6.out (xqe H9.out HB9.out))⟩
       case measure => simp [intOf];omega
    ·obtain rfl : o = 5 := by omega
     have hmul : IntKind.i64.wrap (64 * pages) = 64 * pages := by rw [IntKind.wrap_i64];omega
     go_wp2
     go_loopw [16] (fun x wr3 => ∃ (a : Int),-8 <= a /\ a <= 64 * pages + 8 /\ x = .int .i64 a /\ Hid (Below wx.heap.size wx wr3)) (fun x _ => (64 * pages + 9 - intOf x).toNat)
     case atStart => exact ⟨-8,by omega,by omega,rfl,HB5⟩
     case round =>
      obtain ⟨a,ha1,ha2,rfl,HB6⟩ := hrel
      by_cases hla : a < 64 * pages
      ·have ha64 : in64 a := ⟨by omega,by omega⟩
       have hwa : IntKind.i64.wrap (a + 8) = a + 8 := by rw [IntKind.wrap_i64];omega
       obtain ⟨r,hr⟩ : ∃ r,pOrder u.plain.l a = r := ⟨_,rfl⟩
       have oc := fun W => COc.out W a ha64
       have od := fun W => COd.out W a ha64
       rw [hr] at oc od
       have hrr : (r != r) = false := by simp
       obtain ⟨x0,x1,x2,x3,x4,x5,_⟩ := HF0.out.below HB6.out
       clear hr
       go_wp2
       go_region_held3 (fun W' => W'.cell? ⟨mb,0,none⟩ = some (.int .i64 pages) /\ W'.cell? ⟨mb,1,none⟩ = some (.slice B j1 d1) /\ W'.cell? ⟨mb,2,none⟩ = some (.slice B2 j2 d2) /\ W'.cell? ⟨mb,3,none⟩ = some (.int .i64 la) /\ W'.cell? ⟨mb,4,none⟩ = some (.slice B3 j3 d3) /\ W'.cell? ⟨mb,5,none⟩ = some (.bool hd)) (go_keep)
        (first
         | (go_at_call 20;(with_reducible refine (oc _ (by first | exact HB6.out | exact HB6.out.drew | exact H7.out)).mono ?_);rintro e w7 ⟨rfl,H7,⟨x0,x1,x2,x3,x4,x5,_⟩⟩)
         | (go_at_call 21;(with_reducible refine (od _ (by first | exact HB6.out | exact HB6.out.drew | exact H7.out)).mono ?_);rintro e w8 ⟨rfl,H8,⟨x0,x1,x2,x3,x4,x5,_⟩⟩))
       go_wp2
       go_roundw
       case rel => exact ⟨a + 8,by omega,by omega,by first | rfl | go_num,H8⟩
       case measure => simp [intOf];omega
      ·obtain ⟨x0,x1,x2,x3,x4,x5,_⟩ := HF0.out.below HB6.out
       go_wp2_with fail
       go_region_held3 (fun W' => W'.cell? ⟨mb,0,none⟩ = some (.int .i64 pages) /\ W'.cell? ⟨mb,1,none⟩ = some (.slice B j1 d1) /\ W'.cell? ⟨mb,2,none⟩ = some (.slice B2 j2 d2) /\ W'.cell? ⟨mb,3,none⟩ = some (.int .i64 la) /\ W'.cell? ⟨mb,4,none⟩ = some (.slice B3 j3 d3) /\ W'.cell? ⟨mb,5,none⟩ = some (.bool hd)) (go_keep)
        (first
         | (go_at_call 22;(with_reducible refine (CUc.out _ (by first | exact HB6.out | exact HB6.out.drew)).mono ?_);rintro e w7 ⟨A7,c7,rfl,H7,⟨x0,x1,x2,x3,x4,x5,_⟩⟩)
         | (go_at_call 23;(with_reducible refine (CUd.out _ _ H7).mono ?_);rintro e w8 ⟨A8,c8,rfl,H8,⟨x0,x1,x2,x3,x4,x5,_⟩⟩;clear H7)
         | (go_at_call 17;(with_reducible refine (CI.out wx _ _ _ _ _ _ _ HX0 H8).mono ?_);rintro e w9 ⟨rfl,H9,⟨x0,x1,x2,x3,x4,x5,_⟩⟩;clear H8)
         | (go_at_call 25;(with_reducible refine (CSc.out _ H9).mono ?_);rintro e w10 ⟨A10,c10,rfl,H10,⟨x0,x1,x2,x3,x4,x5,_⟩⟩;clear H9)
         | (go_at_call 26;(with_reducible refine (CSd.out _ _ H10).mono ?_);rintro e w11 ⟨A11,c11,rfl,H11,⟨x0,x1,x2,x3,x4,x5,_⟩⟩;clear H10)
         | (go_at_call 24;(with_reducible refine (CSm.out _ _ _ _ _ H11).mono ?_);rintro e w12 ⟨rfl,H12,⟨x0,x1,x2,x3,x4,x5,_⟩⟩;clear H11)
         | (go_at_call 28;(with_reducible refine (CRc.out _ H12).mono ?_);rintro e w13 ⟨A13,c13,rfl,H13,⟨x0,x1,x2,x3,x4,x5,_⟩⟩;clear H12)
         | (go_at_call 29;(with_reducible refine (CRd.out _ _ H13).mono ?_);rintro e w14 ⟨A14,c14,rfl,H14,⟨x0,x1,x2,x3,x4,x5,_⟩⟩;clear H13)
         | (go_at_call 27;(with_reducible refine (CRm.out _ _ _ _ _ H14).mono ?_);rintro e w15 ⟨rfl,H15,⟨x0,x1,x2,x3,x4,x5,_⟩⟩;clear H14)
         | (go_at_call 11;(with_reducible refine (CAw.out _ H15).mono ?_);rintro e w16 ⟨rfl,H16,⟨x0,x1,x2,x3,x4,x5,_⟩⟩))
       go_wp2
       go_ret
       exact ⟨rfl,H16.out⟩
end Go.Proofs.YtlcdgmjinhbncaaGreat
