import Derived.Test.YtlcdgmjinhbncaaGreatRRowWords
import Derived.Test.YtlcdgmjinhbncaaGreatRPlain7
import Derived.WalkKit
import Derived.ProofKit
import Derived.WalkLawsBesides
import Derived.WalkSpells
import Derived.Deep.QuietTactic
import Derived.BigQuiet
import Derived.Laws.OwnMore
import Derived.Laws.StructEq
import Derived.IntWalk
import Derived.Deep.RegionHeld3
import Derived.Laws.Pointers
import Derived.Lib.SliceRun
import Derived.Shelf.Abstract
import Derived.Laws.NewBlocks
import Derived.Deep.RegionLaw
import Derived.Lib.AppendZeros
namespace Go.Proofs.YtlcdgmjinhbncaaGreat
open Go.RowKit
set_option linter.unusedVariables false
def bv (b : Bool) : Value := .bool b
theorem xkl : (Tryz.prog.info? 4).map (fun i => (i.zero,i.size,i.bytes)) = some (some (.bool false),1,1) := by kernel_rfl
theorem Sl.bool_ {w : World} {B n : Nat} {A : Option Addr} {zs : List Bool} {j : Nat} (h : Sl w B A n (zs.map bv)) (hj : j < n) : ∃ b off x,A = some ⟨b,off,none⟩ /\ zs[j]? = some x /\ w.cell? ⟨b,off + j,none⟩ = some (.bool x) := by
 obtain ⟨b,off,u,e,_,hu,hcell⟩ := h.at_ hj
 rw [List.getElem?_map] at hu
 cases hx : zs[j]? with
 | none => rw [hx] at hu;cases hu
 | some x =>
  rw [hx] at hu
  obtain rfl : u = bv x := by simpa using hu.symm
  exact ⟨b,off,x,e,rfl,hcell⟩
def OwnBools (w : World) (l : List Bool) (e : Ending) (w' : World) : Prop := ∃ A c,e = .returned (.slice A l.length c) /\ w'.ownsRow w.heap.size 4 1 (.slice A l.length c) l.length (l.map bv) /\ Below w.heap.size w w'
def ResBoolsNo (Aa : Option Addr) (w : World) (l : List Bool) (no : Int) (e : Ending) (w' : World) : Prop := ∃ A c,e = .returned (.tuple #[.slice A l.length c,.int .i64 no]) /\ l.length <= c /\ c <= 9223372036854775807 /\ (A = none -> c = 0) /\ Sl w' w'.heap.size A l.length (l.map bv) /\ Below w.heap.size w w' /\ (A = Aa \/ ∀ a,A = some a -> w.heap.size <= a.block)
theorem yx6 (n : Nat) : (madeCells (Value.bool false).cells (n * 1)).toList = (List.replicate n false).map bv := by
 rw [Nat.mul_one]
 exact (toList_madeCells_one _ n).trans (by simp [bv])
theorem ref_fnew (w : World) : Calls Tryz.prog 65 #[] w (OwnBools w (List.replicate 1024 false)) := by
 obtain ⟨i0,hi,hz0,hz1,hz2⟩ := info_parts xkl
 obtain ⟨n,hn⟩ : ∃ n,n = 1024 := ⟨_,rfl⟩
 rw [<- hn]
 have HN := hidb hn
 clear hn
 have fin : ∀ w1,w1.ownsRow w.heap.size 4 1 (.slice (some ⟨w.heap.size,0,none⟩) n n) n (madeCells (Value.bool false).cells (n * 1)).toList -> Below w.heap.size w w1 -> OwnBools w (List.replicate n false) (.returned (.slice (some ⟨w.heap.size,0,none⟩) n n)) w1 := fun w1 h hb => by
  rw [yx6] at h
  refine ⟨some ⟨w.heap.size,0,none⟩,n,by rw [List.length_replicate],?_,hb⟩
  rw [List.length_replicate];exact h
 have FIN := hidb fin
 clear fin
 go_enter Tryz.func65,Tryz.ntmps65
 go_wp2_with (at_make;refine wpList_make_full w rfl _ _ 29 rfl w.heap.size 4 i0 (.bool false) 1 Tryz.underlying29 hi hz0 hz1 .i64 .i64 _ _ n rfl rfl (by have := HN.out;omega) (by have := HN.out;omega) (by have := HN.out;rw [hz2];omega) (by have := HN.out;unfold maxLen;omega) (Nat.le_refl _) ?_;intro w1 hown hgrow)
 go_ret
 exact FIN.out w1 hown ((Below.refl _ _).grown hgrow (Nat.le_refl _) (fun k hk => by cases hk))
theorem ref_fmay (r : Int × Int) (w : World) (hr : in64 r.1 /\ in64 r.2) :
  Calls Tryz.prog 137 #[.agg #[.int .i64 r.1,.int .i64 r.2]] w fun e w' => e = .returned (.bool (fMay r)) /\ w' = w.alloc (.cells #[.int .i64 r.1,.int .i64 r.2] 47) := by
 obtain ⟨s,l⟩ := r
 obtain ⟨⟨s0,s1⟩,l0,l1⟩ := hr
 simp only at s0 s1 l0 l1 ⊢
 obtain ⟨b,hb⟩ : ∃ b,fMay (s,l) = b := ⟨_,rfl⟩
 have hw : (b = true /\ 0 <= s /\ s < 1024 /\ 1 <= l /\ l <= 1024 /\ s + l <= 1024) \/ (b = false /\ s < 0) \/ (b = false /\ 0 <= s /\ 1024 <= s) \/ (b = false /\ 0 <= s /\ s < 1024 /\ l < 1) \/ (b = false /\ 0 <= s /\ s < 1024 /\ 1 <= l /\ 1024 < l) \/ (b = false /\ 0 <= s /\ s < 1024 /\ 1 <= l /\ l <= 1024 /\ 1024 < s + l) := by
  rw [<- hb]
  by_cases h : 0 <= s /\ s < 1024 /\ 1 <= l /\ l <= 1024 /\ s + l <= 1024
  ·exact Or.inl ⟨decide_eq_true h,h⟩
  ·have e : fMay (s,l) = false := decide_eq_false h
   rw [e]
   right
   simp only [true_and]
   omega
 rw [hb]
 clear hb
 rcases hw with ⟨rfl,a1,a2,a3,a4,a5⟩ | ⟨rfl,a1⟩ | ⟨rfl,a1,a2⟩ | ⟨rfl,a1,a2,a3⟩ | ⟨rfl,a1,a2,a3,a4⟩ | ⟨rfl,a1,a2,a3,a4,a5⟩
 all_goals
  go_enter Tryz.func137,Tryz.ntmps137
  go_wp2
  go_ret
  refine ⟨?_,rfl⟩
  first | rfl | exact congrArg Ending.returned (congrArg Value.bool (decide_eq_false (by omega)))
set_option maxRecDepth 100000 in
set_option maxHeartbeats 1000000 in
theorem xJv (A : Option Addr) (n c : Nat) (f : List Bool) (w : World) (hs : Sl w w.heap.size A n (f.map bv)) (hn : n <= 65536) :
  Calls Tryz.prog 29 #[.slice A n c] w (OwnRuns w (fList f)) := by
 obtain ⟨i0,hi,hz0,hz1,hz2⟩ := info_parts xxt
 show Calls _ _ _ _ (OwnRuns w (xRuns (f.map b2i) 1))
 have lf : f.length = n := by have := hs.1;simpa using this
 obtain ⟨x,hxf⟩ : ∃ x,x = f.map b2i := ⟨_,rfl⟩
 obtain ⟨id,hid⟩ : ∃ id : Int,id = 1 := ⟨_,rfl⟩
 rw [<- hxf,<- hid]
 have l1 : x.length = n := by rw [hxf,List.length_map,lf]
 have HXF : Hid (∀ j b,f[j]? = some b -> x[j]? = some (b2i b)) := hidb (fun j b h => by rw [hxf,List.getElem?_map,h];rfl)
 have HID := hidb hid
 clear hxf hid lf
 have L1 := hidb l1
 have HS := hidb hs
 have hxl := xxc x id (x.length + 1) 0
 rw [l1] at hxl
 have HXL : Hid ((xRuns x id).length <= n) := hidb (by
  have e : xRuns x id = runsAt x id (n + 1) 0 := by rw [<- l1];rfl
  rw [e];omega)
 clear hs l1 hxl
 go_enter Tryz.func29,Tryz.ntmps29
 go_wp2
 go_loopw [3,4] (fun v k wr => ∃ (p : Nat) (d : List (Int × Int)),p <= n + 1 /\ k = .int .i64 p /\ Hid (d ++ runsFrom x id p = xRuns x id) /\ wr.ownsRow w.heap.size 47 2 v d.length (rcells d) /\ Below w.heap.size w wr) (fun _ k _ => (n + 1 - intOf k).toNat)
 case atStart => exact ⟨0,[],by omega,rfl,hidb rfl,World.ownsRow_made w #[] 0 (Nat.le_refl _) (by unfold maxLen;omega) rfl,(Below.refl _ _).alloc (Nat.le_refl _) _⟩
 case round =>
  obtain ⟨p,d,hp,rfl,HD,hown,hbel⟩ := hrel
  by_cases hlt : p < n
  ·have hbsz := hbel.size
   have HS2 := hidb (HS.out.below hbel)
   have HOWN := hidb hown
   have HBEL := hidb hbel
   clear hown hbel
   have hrl := xkg x id p
   rw [L1.out] at hrl
   obtain ⟨R,hR⟩ : ∃ R,runLen x id p = R := ⟨_,rfl⟩
   rw [hR] at hrl
   have HR := hidb hR
   clear hR
   obtain ⟨wo,rfl⟩ : ∃ wo : World,wo = wr := ⟨_,rfl⟩
   go_wp2
   go_loop [5] (fun k => ∃ m : Nat,m <= R /\ k = .int .i64 m) (fun k => (n - intOf k).toNat)
   case atStart => exact ⟨0,by omega,rfl⟩
   case round =>
    obtain ⟨m,hm,rfl⟩ := hrel
    by_cases hmr : m < R
    ·obtain ⟨b,off,y,rfl,hy,hc⟩ := HS2.out.bool_ (j := p + m) (by omega)
     have hyid : y = true := by
      have h := (xz0 x id p m _ (by rw [HR.out];omega) (HXF.out _ _ hy)).1 (by rw [HR.out];exact hmr)
      rw [HID.out] at h
      exact (xVd y).1 h
     subst hyid
     have hb1 : (p : Int) + (m : Int) < (n : Int) := by omega
     have hb0 : (0 : Int) <= (p : Int) + (m : Int) := by omega
     have hbn : ((p : Int) + (m : Int)).toNat = p + m := by omega
     clear hy
     go_wp2
     go_round
     case rel => exact ⟨m + 1,by omega,by go_num⟩
     case measure => simp [intOf];omega
    ·have hmR : Hid (m = R) := hidb (by omega)
     have hway : (n : Int) <= (p : Int) + (m : Int) \/ ∃ b off y,A = some ⟨b,off,none⟩ /\ (p : Int) + (m : Int) < (n : Int) /\ wo.cell? ⟨b,off + (p + m),none⟩ = some (.bool y) /\ y = false := by
      by_cases hpm : p + m < n
      ·right
       obtain ⟨b,off,y,e,hy,hc⟩ := HS2.out.bool_ (j := p + m) hpm
       refine ⟨b,off,y,e,by omega,hc,?_⟩
       have := xz0 x id p m _ (by rw [HR.out];omega) (HXF.out _ _ hy)
       rw [HR.out,HID.out,xVd] at this
       cases y with
       | true => exact absurd (this.2 rfl) hmr
       | false => rfl
      ·left;omega
     have hb0 : (0 : Int) <= (p : Int) + (m : Int) := by omega
     have hbn : ((p : Int) + (m : Int)).toNat = p + m := by omega
     clear hmr
     by_cases hm0 : m = 0
     ·have HD2 : Hid (d ++ runsFrom x id (p + 1) = xRuns x id) := hidb (by rw [<- xZ2 x id p (by rw [L1.out];exact hlt) (by rw [HR.out,<- hmR.out];exact hm0)];exact HD.out)
      have hway2 : ∃ b off y,A = some ⟨b,off,none⟩ /\ wo.cell? ⟨b,off + p,none⟩ = some (.bool y) /\ y = false := by
       rcases hway with hw1 | ⟨b,off,y,e,_,hc,hyid⟩
       ·omega
       ·refine ⟨b,off,y,e,?_,hyid⟩
        rw [hm0] at hc;exact hc
      obtain ⟨b,off,y,rfl,hc,rfl⟩ := hway2
      subst hm0
      have hp0 : (0 : Int) <= (p : Int) := by omega
      clear hway hb0 hbn
      go_wp2
      go_roundw
      case rel => exact ⟨p + 1,d,by omega,by go_num,HD2,HOWN.out,HBEL.out⟩
      case measure => simp [intOf];omega
     ·have HD2 : Hid ((d ++ [((p : Int),(m : Int))]) ++ runsFrom x id (p + m + 1) = xRuns x id) := hidb (by
       rw [<- HD.out,xZ1 x id p (by rw [L1.out];exact hlt) (by have := hmR.out;rw [HR.out];omega),HR.out,<- hmR.out,List.append_assoc];rfl)
      have hdl : d.length <= n := by
       have := congrArg List.length HD.out
       have h2 := HXL.out
       rw [List.length_append] at this;omega
      have hown := HOWN.out
      rcases hway with hw1 | ⟨b,off,y,rfl,hw1,hc,rfl⟩
      ·go_wp2_with (at_builtin;refine xzh wo rfl _ _ 57 rfl w.heap.size 47 i0 (.agg #[.int .i64 0,.int .i64 0]) 16 Tryz.underlying57 hi hz0 hz1 hz2 rfl _ _ _ rfl (by exact hown) hbsz (.int .i64 (p : Int)) (.int .i64 (m : Int)) rfl rfl _ rfl (by unfold maxLen;omega) (by omega) ?_;intro v1 w1 hown1 hb1)
       have HO : Hid (w1.ownsRow w.heap.size 47 2 v1 (d ++ [((p : Int),(m : Int))]).length (rcells (d ++ [((p : Int),(m : Int))]))) := hidb (by rw [List.length_append,xqb];exact hown1)
       have HB1 := hidb hb1
       clear hown1 hb1 hown
       go_roundw
       case rel => exact ⟨p + m + 1,d ++ [((p : Int),(m : Int))],by omega,by go_num,HD2,HO.out,HBEL.out.trans HB1.out⟩
       case measure => simp [intOf];omega
      ·go_wp2_with (at_builtin;refine xzh wo rfl _ _ 57 rfl w.heap.size 47 i0 (.agg #[.int .i64 0,.int .i64 0]) 16 Tryz.underlying57 hi hz0 hz1 hz2 rfl _ _ _ rfl (by exact hown) hbsz (.int .i64 (p : Int)) (.int .i64 (m : Int)) rfl rfl _ rfl (by unfold maxLen;omega) (by omega) ?_;intro v1 w1 hown1 hb1)
       have HO : Hid (w1.ownsRow w.heap.size 47 2 v1 (d ++ [((p : Int),(m : Int))]).length (rcells (d ++ [((p : Int),(m : Int))]))) := hidb (by rw [List.length_append,xqb];exact hown1)
       have HB1 := hidb hb1
       clear hown1 hb1 hown
       go_roundw
       case rel => exact ⟨p + m + 1,d ++ [((p : Int),(m : Int))],by omega,by go_num,HD2,HO.out,HBEL.out.trans HB1.out⟩
       case measure => simp [intOf];omega
  ·have hxp : x.length <= p := by have := L1.out;omega
   have P : Hid (OwnRuns w (xRuns x id) (.returned u3) wr) := hidb (by
    have hd := HD.out
    rw [xJg x id p hxp,List.append_nil] at hd
    rw [<- hd]
    obtain ⟨A',c',rfl⟩ := xj5 hown
    exact ⟨A',c',rfl,hown,hbel⟩)
   clear hown hbel
   go_wp2
   go_ret
   exact P.out
def RunIs (w : World) (r : Option (Int × Int)) (e : Ending) (w' : World) : Prop := e = .returned (.tuple #[.agg #[.int .i64 (r.getD (0,0)).1,.int .i64 (r.getD (0,0)).2],.bool r.isSome]) /\ Below w.heap.size w w'
theorem xzo (w : World) (b : Nat) (u v x y : Value) (h0 : w.cell? ⟨b,0,none⟩ = some x) (h1 : w.cell? ⟨b,1,none⟩ = some y) :
  ((w.setCell ⟨b,0,none⟩ u).setCell ⟨b,1,none⟩ v).cell? ⟨b,0,none⟩ = some u /\ ((w.setCell ⟨b,0,none⟩ u).setCell ⟨b,1,none⟩ v).cell? ⟨b,1,none⟩ = some v := by
 constructor
 ·rw [World.cell?_setCell_other _ _ _ _ (by simp),World.cell?_setCell_same _ _ _ (by rw [h0])]
 ·rw [World.cell?_setCell_same _ _ _ (by rw [World.cell?_setCell_other _ _ _ _ (by simp),h1])]
set_option maxRecDepth 100000 in
set_option maxHeartbeats 1000000 in
theorem xJw (A : Option Addr) (n c : Nat) (f : List Bool) (k : Int) (w : World) (hs : Sl w w.heap.size A n (f.map bv)) (hn : n <= 65536) (h0 : -9223372036854775808 <= k) (h1 : k <= 9223372036854775807) :
  Calls Tryz.prog 145 #[.slice A n c,.int .i64 k] w (RunIs w (fBest f k)) := by
 obtain ⟨w0,hw0⟩ : ∃ w0,w0 = w.alloc (.cells #[.int .i64 0,.int .i64 0] 47) := ⟨_,rfl⟩
 have hz0 : w0.heap.size = w.heap.size + 1 := by rw [hw0];simp
 have cl := xJv A n c f w0 (by rw [hw0];exact (hs.alloc (Nat.le_refl _) _).more (by simp)) hn
 have q0 : w0.cell? ⟨w.heap.size,0,none⟩ = some (.int .i64 0) := by rw [hw0];simp
 have q1 : w0.cell? ⟨w.heap.size,1,none⟩ = some (.int .i64 0) := by rw [hw0];simp
 have z0 : w0.frozen? ⟨w.heap.size,0,none⟩ = false := by rw [hw0];simp
 have z1 : w0.frozen? ⟨w.heap.size,1,none⟩ = false := by rw [hw0];simp
 have HB0 : Hid (Below w.heap.size w w0) := hidb (by rw [hw0];exact (Below.refl _ _).alloc (Nat.le_refl _) _)
 have HW0 := hidb hw0
 have hlen : f.length <= 65536 := by have := hs.1;simp at this;omega
 clear hs hw0
 go_enter Tryz.func145,Tryz.ntmps145
 go_wp2_with (go_at_call 29;rw [<- HW0.out];refine cl.mono ?_)
 rintro e w2 ⟨A2,c2,rfl,hown2,hb2⟩
 have hsz2 := hb2.size
 have p0 : w2.cell? ⟨w.heap.size,0,none⟩ = some (.int .i64 0) := (hb2.cell (p := ⟨w.heap.size,0,none⟩) (by show w.heap.size < w0.heap.size;omega)).trans q0
 have p1 : w2.cell? ⟨w.heap.size,1,none⟩ = some (.int .i64 0) := (hb2.cell (p := ⟨w.heap.size,1,none⟩) (by show w.heap.size < w0.heap.size;omega)).trans q1
 have y0 : w2.frozen? ⟨w.heap.size,0,none⟩ = false := (hb2.frozen (p := ⟨w.heap.size,0,none⟩) (by show w.heap.size < w0.heap.size;omega)).trans z0
 have y1 : w2.frozen? ⟨w.heap.size,1,none⟩ = false := (hb2.frozen (p := ⟨w.heap.size,1,none⟩) (by show w.heap.size < w0.heap.size;omega)).trans z1
 have hlt2 : w.heap.size < w2.heap.size := by omega
 have HB2 := hidb (HB0.out.trans (hb2.mono (by omega)))
 have HL := hidb (Rn.of_own hown2 rfl)
 clear cl q0 q1 z0 z1 hown2 hb2 HB0 HW0
 by_cases hk : k < 1
 ·have E : Hid (fBest f k = none) := hidb (by unfold fBest;rw [if_pos hk])
  obtain ⟨r0,r1⟩ := xzo w2 w.heap.size (.int .i64 0) (.int .i64 0) _ _ p0 p1
  have HB3 := hidb ((HB2.out.setCell (p := ⟨w.heap.size,0,none⟩) (Nat.le_refl _) (.int .i64 0)).setCell (p := ⟨w.heap.size,1,none⟩) (Nat.le_refl _) (.int .i64 0))
  have s0 := fun o => (World.cell?_alloc_lt ((w2.setCell ⟨w.heap.size,0,none⟩ (.int .i64 0)).setCell ⟨w.heap.size,1,none⟩ (.int .i64 0)) o ⟨w.heap.size,0,none⟩ (by simpa using hlt2)).trans r0
  have s1 := fun o => (World.cell?_alloc_lt ((w2.setCell ⟨w.heap.size,0,none⟩ (.int .i64 0)).setCell ⟨w.heap.size,1,none⟩ (.int .i64 0)) o ⟨w.heap.size,1,none⟩ (by simpa using hlt2)).trans r1
  have S0 := hidb s0
  have S1 := hidb s1
  clear s0 s1 r0 r1
  go_wp2
  have s0 := S0.out
  have s1 := S1.out
  refine bodyPost_ret (v := .tuple #[.agg #[.int .i64 0,.int .i64 0],.bool false]) (by simp [results,Tryz.results145,go_sem,s0,s1]) rfl ?_
  rw [E.out]
  exact ⟨rfl,HB3.out.alloc (by simp;omega) _⟩
 ·have hL : Hid ((fList f).length <= 65536) := hidb (by
   have h := xxc (f.map b2i) 1 ((f.map b2i).length + 1) 0
   have e : fList f = runsAt (f.map b2i) 1 ((f.map b2i).length + 1) 0 := rfl
   rw [e]
   rw [List.length_map] at h ⊢
   have := hlen
   omega)
  have hE : Hid (fBest f k = bestAt (fList f) (1025 - k).toNat k) := hidb (by unfold fBest;rw [if_neg hk])
  obtain ⟨W,hW⟩ : ∃ W,W = w2.alloc (.cells #[.int .i64 0,.int .i64 0] 47) := ⟨_,rfl⟩
  have hWs : W.heap.size = w2.heap.size + 1 := by rw [hW];simp
  have p0 : W.cell? ⟨w.heap.size,0,none⟩ = some (.int .i64 0) := by rw [hW];exact (World.cell?_alloc_lt w2 _ ⟨w.heap.size,0,none⟩ hlt2).trans p0
  have p1 : W.cell? ⟨w.heap.size,1,none⟩ = some (.int .i64 0) := by rw [hW];exact (World.cell?_alloc_lt w2 _ ⟨w.heap.size,1,none⟩ hlt2).trans p1
  have bW : Below w2.heap.size w2 W := by rw [hW];exact (Below.refl _ _).alloc (Nat.le_refl _) _
  have y0 : W.frozen? ⟨w.heap.size,0,none⟩ = false := (bW.frozen (p := ⟨w.heap.size,0,none⟩) hlt2).trans y0
  have y1 : W.frozen? ⟨w.heap.size,1,none⟩ = false := (bW.frozen (p := ⟨w.heap.size,1,none⟩) hlt2).trans y1
  have d0 : W.cell? ⟨w2.heap.size,0,none⟩ = some (.int .i64 0) := by rw [hW];simp
  have d1 : W.cell? ⟨w2.heap.size,1,none⟩ = some (.int .i64 0) := by rw [hW];simp
  have HBW := hidb (HB2.out.trans (bW.mono (by omega)))
  have HLW := hidb (HL.out.below bW)
  have HW := hidb hW
  have HBF := hidb (fun (u v : Value) => (HBW.out.setCell (p := ⟨w.heap.size,0,none⟩) (Nat.le_refl _) u).setCell (p := ⟨w.heap.size,1,none⟩) (Nat.le_refl _) v)
  have HTC := hidb (fun (u v : Value) => xzo W w.heap.size u v _ _ p0 p1)
  obtain ⟨N,hN⟩ : ∃ N,(1025 - k).toNat = N := ⟨_,rfl⟩
  rw [hN] at hE
  generalize hLL : fList f = L at *
  clear hLL HL hW
  go_wp2
  rw [<- HW.out]
  go_loop [8] (fun v => ∃ j : Nat,j <= N /\ Hid (fBest f k = bestAt L (N - j) (k + j)) /\ v = .int .i64 (k + (j : Int))) (fun v => (1025 - intOf v).toNat)
  case atStart => exact ⟨0,by omega,hidb (by rw [hE.out];simp),by simp⟩
  case round =>
   obtain ⟨j,hj,HJ,rfl⟩ := hrel
   by_cases hlt : k + (j : Int) <= 1024
   ·obtain ⟨M,hM⟩ : ∃ M,N - j = M + 1 := ⟨N - j - 1,by omega⟩
    rw [hM] at HJ
    have hMj : N - (j + 1) = M := by omega
    go_wp2
    go_loop [23] (fun v => ∃ i : Nat,i <= L.length /\ Hid (∀ i',i' < i -> ∀ y,L[i']? = some y -> y.2 ≠ k + (j : Int)) /\ v = .int .i64 (i : Int)) (fun v => (L.length - intOf v).toNat)
    case atStart => exact ⟨0,by omega,hidb (fun i' h => absurd h (Nat.not_lt_zero _)),rfl⟩
    case round =>
     obtain ⟨i,hi2,HI,rfl⟩ := hrel
     by_cases hil : i < L.length
     ·obtain ⟨b,off,s,l,rfl,_,hx,hc1,hc2⟩ := HLW.out.at_ hil
      have hi0 : (0 : Int) <= (i : Int) := by omega
      have hi1 : (i : Int) < (L.length : Int) := by omega
      have hll := hL.out
      by_cases he : l = k + (j : Int)
      ·have E : Hid (fBest f k = some (s,l)) := hidb (by rw [HJ.out];exact xwj L M _ i (s,l) HI.out hx he)
       have eb : (l == k + (j : Int)) = true := by simpa using he
       clear hx he
       go_wp2
       obtain ⟨s0,s1⟩ := HTC.out (.int .i64 s) (.int .i64 l)
       refine bodyPost_ret (v := .tuple #[.agg #[.int .i64 s,.int .i64 l],.bool true]) (by simp [results,Tryz.results145,go_sem,s0,s1]) rfl ?_
       rw [E.out]
       exact ⟨rfl,HBF.out _ _⟩
      ·have eb : (l == k + (j : Int)) = false := by simpa using he
       have H2 : Hid (∀ i',i' < i + 1 -> ∀ y,L[i']? = some y -> y.2 ≠ k + (j : Int)) := hidb (fun i' h y hy => by
        by_cases h3 : i' = i
        ·subst h3;rw [hx] at hy;injection hy with hy;subst hy;exact he
        ·exact HI.out i' (by omega) y hy)
       clear hx he
       go_wp2
       go_round
       case rel => exact ⟨i + 1,by omega,H2,by go_num⟩
       case measure => simp [intOf];omega
     ·have H2 : Hid (fBest f k = bestAt L (N - (j + 1)) (k + ((j + 1 : Nat) : Int))) := hidb (by
       rw [HJ.out,hMj,xk5 L M _ (fun r hr => by
        obtain ⟨i',hi',e⟩ := List.getElem_of_mem hr
        exact HI.out i' (by omega) r (by rw [List.getElem?_eq_getElem hi',e]))]
       congr 1;omega)
      have hll := hL.out
      go_wp2
      go_round
      case rel => exact ⟨j + 1,by omega,H2,by go_num⟩
      case measure => simp [intOf];omega
   ·have hNj : N - j = 0 := by omega
    have E : Hid (fBest f k = none) := hidb (by rw [HJ.out,hNj];rfl)
    go_wp2
    obtain ⟨s0,s1⟩ := HTC.out (.int .i64 0) (.int .i64 0)
    refine bodyPost_ret (v := .tuple #[.agg #[.int .i64 0,.int .i64 0],.bool false]) (by simp [results,Tryz.results145,go_sem,s0,s1]) rfl ?_
    rw [E.out]
    exact ⟨rfl,HBF.out _ _⟩
theorem belowR {B : Nat} {a w : World} (h : Below B a w) (q : Nat) : Below B a (w.drewN q) := ⟨h.os,h.tape,h.output,h.size,h.block⟩
set_option maxRecDepth 100000 in
set_option maxHeartbeats 4000000 in
theorem xZe (A A2 : Option Addr) (n c m d : Nat) (f : List Bool) (rs : List (Int × Int)) (free : Bool) (w : World) (hs : Sl w w.heap.size A n (f.map bv)) (hs2 : Rn w w.heap.size A2 m rs) (hn : n <= 1024) (hn2 : 1024 <= n) (hm : m <= 65536)
  (hnc : n <= c) (hcm : c <= 9223372036854775807) (hr : ∀ r ∈ rs,in64 r.1 /\ in64 r.2) :
  Calls Tryz.prog 64 #[.slice A n c,.slice A2 m d,.bool free] w (ResBoolsNo A w (fPut f rs free).1 (fPut f rs free).2) := by
 obtain ⟨i0,hi,hz0,hz1,hz2⟩ := info_parts xkl
 have l1 : f.length = n := by have := hs.1;simpa using this
 have l2 : rs.length = m := hs2.1
 have hA : A = none -> c = 0 := fun h => by
  obtain ⟨b,off,e,_⟩ := hs.2 (by omega)
  rw [h] at e;cases e
 have back : ∀ no w',Below w.heap.size w w' -> ResBoolsNo A w f no (.returned (.tuple #[.slice A n c,.int .i64 no])) w' := fun no w' hb => by
  refine ⟨A,c,by rw [l1],by rw [l1];exact hnc,hcm,hA,?_,hb,Or.inl rfl⟩
  rw [l1];exact (hs.below hb).more hb.size
 have BACK := hidb back
 have HR := hidb hr
 clear back hr
 have HS := hidb hs
 have HS2 := hidb hs2
 have L1 := hidb l1
 have L2 := hidb l2
 clear hs hs2 l1 l2
 have E : Hid (fPut f rs free = if rs.all fMay then freeEnd f (freeRuns free f rs) else (f,2)) := hidb rfl
 go_enter Tryz.func64,Tryz.ntmps64
 go_wp2
 go_loopw [14] (fun k wr => ∃ j : Nat,j <= m /\ k = .int .i64 j /\ Hid ((rs.take j).all fMay = true) /\ Below w.heap.size w wr) (fun k _ => (m - intOf k).toNat)
 case atStart => exact ⟨0,by omega,rfl,hidb rfl,Below.refl _ _⟩
 case round =>
  obtain ⟨j,hj,rfl,HA,hbel⟩ := hrel
  by_cases hlt : j < m
  ·obtain ⟨b,off,s,l,rfl,_,hx,hc1,hc2⟩ := (HS2.out.below hbel).at_ hlt
   have hin := HR.out (s,l) (List.mem_of_getElem? hx)
   have ct := ref_fmay (s,l) wr hin
   have hall : Hid ((rs.take (j + 1)).all fMay = fMay (s,l)) := hidb (by
    rw [List.take_add_one,hx,List.all_append,HA.out];simp)
   have hbsz := hbel.size
   have HB := hidb hbel
   have hmem : Hid ((s,l) ∈ rs) := hidb (List.mem_of_getElem? hx)
   clear hbel hx hin
   have hi0 : (0 : Int) <= (j : Int) := by omega
   cases hT : fMay (s,l) with
   | true =>
    rw [hT] at ct hall
    clear hT
    go_wp2_with (go_at_call 137;refine ct.mono ?_;rintro e w' ⟨rfl,rfl⟩)
    go_roundw
    case rel => exact ⟨j + 1,by omega,by go_num,hall,HB.out.alloc hbsz _⟩
    case measure => simp [intOf];omega
   | false =>
    rw [hT] at ct
    have E2 : Hid (fPut f rs free = (f,2)) := hidb (by
     rw [E.out,if_neg]
     rw [Bool.not_eq_true,List.all_eq_false]
     exact ⟨(s,l),hmem.out,by rw [hT];simp⟩)
    rw [E2.out]
    clear hT hall
    go_wp2_with (go_at_call 137;refine ct.mono ?_;rintro e w' ⟨rfl,rfl⟩)
    go_ret2
    exact BACK.out _ _ (HB.out.alloc hbsz _)
  ·have hje : j = m := by omega
   have hall : Hid (rs.all fMay = true) := hidb (by
    have := HA.out
    rwa [List.take_of_length_le (by rw [L2.out];omega)] at this)
   have hbsz := hbel.size
   have HB := hidb hbel
   have HSx := hidb ((HS.out.below hbel).more hbsz)
   have hone : Hid (∀ u ∈ f.map bv,u.oneCell' = true) := hidb (fun u hu => by obtain ⟨y,_,rfl⟩ := List.mem_map.1 hu;rfl)
   clear hbel hje HA
   obtain ⟨wo,rfl⟩ : ∃ wo : World,wo = wr := ⟨_,rfl⟩
   go_wp2_with (at_builtin;refine xV9 wo rfl _ _ 29 rfl 4 i0 (.bool false) 1 Tryz.underlying29 hi hz0 hz1 hz2 rfl A n c (f.map bv) rfl rfl HSx.out hA hone.out (by unfold maxLen;omega) (by omega) ?_)
   intro A1 c1 w1 hown1 hb1
   have hrun : Hid (∀ k,freeRuns free f (rs.take k) = none -> fPut f rs free = (f,9)) := hidb (fun k h => by
    rw [E.out,if_pos hall.out,xZ6 free f rs k h];rfl)
   have hfin : Hid (∀ o,freeRuns free f rs = some o -> fPut f rs free = (o,0)) := hidb (fun o h => by
    rw [E.out,if_pos hall.out,h];rfl)
   have HO := hidb hown1
   have HB1 := hidb hb1
   have hb1s := hb1.size
   have HA1 := hidb (xw3 hown1)
   clear hown1 hb1 E
   go_wp2
   go_loopw [30] (fun k wr => ∃ (j : Nat) (o : List Bool),j <= m /\ k = .int .i64 j /\ Hid (freeRuns free f (rs.take j) = some o) /\ o.length = n /\ wr.ownsRow wo.heap.size 4 1 (.slice A1 n c1) n (o.map bv) /\ Below wo.heap.size wo wr) (fun k _ => (m - intOf k).toNat)
   case atStart => exact ⟨0,f,by omega,rfl,hidb rfl,L1.out,HO.out,HB1.out⟩
   case round =>
    obtain ⟨j,o,hj,rfl,HPO,hol,hown,hbel⟩ := hrel
    by_cases hlt2 : j < m
    ·obtain ⟨b,off,s,l,hA2,hbb,hx,_,_⟩ := HS2.out.at_ hlt2
     have HCELL : Hid (∀ W,Below w.heap.size w W -> W.cell? ⟨b,off + j * 2,none⟩ = some (.int .i64 s) /\ W.cell? ⟨b,off + j * 2 + 1,none⟩ = some (.int .i64 l)) := hidb (fun W hW => by
      obtain ⟨b',off',s',l',e1,_,e2,e3,e4⟩ := (HS2.out.below hW).at_ hlt2
      rw [hA2] at e1
      rw [hx] at e2
      injection e1 with e1;injection e1 with e1 e5
      subst e1;subst e5
      injection e2 with e2;injection e2 with e2 e6
      subst e2;subst e6
      exact ⟨e3,e4⟩)
     have hth : fMay (s,l) = true := List.all_eq_true.1 hall.out (s,l) (List.mem_of_getElem? hx)
     obtain ⟨t1,t2,t3,t4,t5⟩ := of_decide_eq_true hth
     simp only at t1 t2 t3 t4 t5
     obtain ⟨S,rfl⟩ : ∃ S : Nat,s = S := ⟨s.toNat,by omega⟩
     obtain ⟨L,rfl⟩ : ∃ L : Nat,l = L := ⟨l.toNat,by omega⟩
     have htk : Hid (freeRuns free f (rs.take (j + 1)) = freePages free S L o) := hidb (by
      rw [List.take_add_one,hx]
      show freeRuns free f (rs.take j ++ [((S : Int),(L : Int))]) = _
      rw [xZ5,HPO.out];rfl)
     have hBW := (HB.out.trans (hbel.mono hbsz))
     obtain ⟨hcs,hcl⟩ := HCELL.out _ hBW
     have HOWN := hidb hown
     have HBEL := hidb hbel
     have hj0 : (0 : Int) <= (j : Int) := by omega
     have hj1 : (j : Int) < (m : Int) := by omega
     clear hth hx hown hbel hBW hbb
     subst hA2
     obtain ⟨wi,rfl⟩ : ∃ wi : World,wi = wr := ⟨_,rfl⟩
     go_wp2
     go_loopw [11] (fun k wr => ∃ (i : Nat) (o2 : List Bool),i <= L /\ k = .int .i64 ((S : Int) + (i : Int)) /\ Hid (freePages free S i o = some o2) /\ o2.length = n /\ wr.ownsRow wo.heap.size 4 1 (.slice A1 n c1) n (o2.map bv) /\ Below wo.heap.size wo wr) (fun k _ => (S + L - intOf k).toNat)
     case atStart => exact ⟨0,o,by omega,by simp,hidb rfl,hol,HOWN.out,HBEL.out⟩
     case round =>
      obtain ⟨i,o2,hi2,rfl,HPP,hol2,hown,hbel⟩ := hrel
      have hBW := (HB.out.trans (hbel.mono hbsz))
      obtain ⟨hcs,hcl⟩ := HCELL.out _ hBW
      have hBN : Hid (∀ q,Below w.heap.size w (wr.drewN q)) := hidb (fun q => belowR hBW q)
      have hso0 : (0 : Int) <= (S : Int) + (i : Int) := by omega
      by_cases hil : i < L
      ·obtain ⟨g,cap,hv,hgB,hglt⟩ := hown.form (by omega)
       obtain rfl : A1 = some ⟨g,0,none⟩ := by injection hv
       obtain ⟨yo,hyo⟩ : ∃ yo,o2[S + i]? = some yo := ⟨_,List.getElem?_eq_getElem (by omega)⟩
       have hco : wr.cell? ⟨g,S + i,none⟩ = some (.bool yo) := by
        rw [hown.cellAt (S + i) (by omega),List.getElem?_map,hyo];rfl
       have hf := hown.frozenAt (S + i)
       have hso1 : (S : Int) + (i : Int) < (n : Int) := by omega
       have hbn : ((S : Int) + (i : Int)).toNat = S + i := by omega
       have hlt3 : (S : Int) + (i : Int) < (S : Int) + (L : Int) := by omega
       have hsucc : freePages free S (i + 1) o = freePage free o2 (S + i) := by
        show (freePages free S i o).bind _ = _
        rw [HPP.out];rfl
       have hpg : freePage free o2 (S + i) = if (yo == free) = true then none else some (o2.set (S + i) free) := by
        unfold freePage
        rw [List.getD_eq_getElem?_getD,hyo];rfl
       have hst : Hid (∀ q,((wr.drewN q).setCell ⟨g,S + i,none⟩ (.bool free)).ownsRow wo.heap.size 4 1 (.slice (some ⟨g,0,none⟩) n c1) n ((o2.set (S + i) free).map bv)) := hidb (fun q => by
        rw [List.map_set]
        exact ((show (wr.drewN q).ownsRow wo.heap.size 4 1 (.slice (some ⟨g,0,none⟩) n c1) n (o2.map bv) from hown).stored (S + i) (bv free)).1)
       have hbs : Hid (∀ q,Below wo.heap.size wo ((wr.drewN q).setCell ⟨g,S + i,none⟩ (.bool free))) := hidb (fun q => (belowR hbel q).setCell (p := ⟨g,S + i,none⟩) hgB _)
       clear hyo hown hbel hBW hv
       cases hcnd : (yo == free) with
       | true =>
        rw [hcnd,if_pos rfl] at hpg
        rw [hpg] at hsucc
        have E9 : Hid (fPut f rs free = (f,9)) := hidb (hrun.out (j + 1) (by
         rw [htk.out];exact xze (k := i + 1) L (by omega) hsucc))
        have B9 : Hid (∀ w',Below w.heap.size w w' -> ResBoolsNo A w (fPut f rs free).1 (fPut f rs free).2 (.returned (.tuple #[.slice A n c,.int .i64 9])) w') := hidb (fun w' hb => by rw [E9.out];exact BACK.out 9 w' hb)
        clear hsucc hpg
        go_wp2
        go_quiet (fail)
        go_wp2
        go_ret2
        exact B9.out _ (hBN.out _)
       | false =>
        rw [hcnd] at hpg
        simp only [Bool.false_eq_true,if_false] at hpg
        rw [hpg] at hsucc
        have HSU := hidb hsucc
        clear hsucc hpg
        go_wp2
        go_quiet (fail)
        go_wp2
        go_roundw
        case rel => exact ⟨i + 1,o2.set (S + i) free,by omega,by go_num,HSU,by rw [List.length_set];exact hol2,hst.out _,hbs.out _⟩
        case measure => simp [intOf];omega
      ·have hiL : Hid (freeRuns free f (rs.take (j + 1)) = some o2) := hidb (by
        rw [htk.out,<- HPP.out];congr 1;omega)
       have hnl : ¬ (S : Int) + (i : Int) < (S : Int) + (L : Int) := by omega
       have hown2 : Hid (∀ q,(wr.drewN q).ownsRow wo.heap.size 4 1 (.slice A1 n c1) n (o2.map bv)) := hidb (fun q => hown)
       have hbel2 : Hid (∀ q,Below wo.heap.size wo (wr.drewN q)) := hidb (fun q => belowR hbel q)
       clear hown hbel hBW
       go_wp2
       go_quiet (fail)
       go_wp2
       go_roundw
       case rel => exact ⟨j + 1,o2,by omega,by go_num,hiL,hol2,hown2.out _,hbel2.out _⟩
       case measure => simp [intOf];omega
    ·have hje2 : j = m := by omega
     have P : Hid (ResBoolsNo A w (fPut f rs free).1 (fPut f rs free).2 (.returned (.tuple #[.slice A1 n c1,.int .i64 0])) wr) := hidb (by
      have h := HPO.out
      rw [List.take_of_length_le (by rw [L2.out];omega)] at h
      rw [hfin.out o h]
      refine ⟨A1,c1,by rw [hol],by rw [hol];exact HA1.out.1,HA1.out.2.1,HA1.out.2.2,?_,HB.out.trans (hbel.mono hbsz),Or.inr (fun a ha => ?_)⟩
      ·rw [hol];exact Sl.of_own hown
      ·have := (hown.lt a.block (by rw [ha];rfl)).1
       omega)
     clear hown hbel hje2
     go_wp2
     go_ret2
     exact P.out
end Go.Proofs.YtlcdgmjinhbncaaGreat
namespace Go.Proofs.YtlcdgmjinhbncaaGreat
open Go.RowKit Go.Shelf
set_option linter.unusedVariables false
def rv (r : Int × Int) : Value := .agg #[.int .i64 r.1,.int .i64 r.2]
def idxR (p : Int × Int -> Bool) (rs : List (Int × Int)) : Int := match rs.findIdx? p with | some i => (i : Int) | none => -1
theorem xJx {p : Int × Int -> Bool} {rs : List (Int × Int)} (h : ∀ r ∈ rs,p r = false) : idxR p rs = -1 := by
 unfold idxR
 rw [List.findIdx?_eq_none_iff.2 h]
theorem xkm {p : Int × Int -> Bool} {rs : List (Int × Int)} {i : Nat} {r : Int × Int} (hi : rs[i]? = some r) (hp : p r = true) (h : ∀ j,j < i -> ∀ y,rs[j]? = some y -> p y = false) : idxR p rs = i := by
 obtain ⟨hlt,he⟩ := List.getElem?_eq_some_iff.1 hi
 unfold idxR
 rw [List.findIdx?_eq_some_iff_getElem.2 ⟨hlt,by rw [he];exact hp,fun j hj => by rw [h j hj _ (List.getElem?_eq_getElem (by omega))];decide⟩]
theorem xv7 (p : Int × Int -> Bool) (rs : List (Int × Int)) : (idxR p rs = -1 /\ ∀ r ∈ rs,p r = false) \/ ∃ (i : Nat) (r : Int × Int),idxR p rs = i /\ rs[i]? = some r /\ p r = true := by
 cases h : rs.findIdx? p with
 | none => exact Or.inl ⟨by unfold idxR;rw [h],List.findIdx?_eq_none_iff.1 h⟩
 | some i =>
  obtain ⟨hlt,hp,_⟩ := List.findIdx?_eq_some_iff_getElem.1 h
  exact Or.inr ⟨i,rs[i],by unfold idxR;rw [h],List.getElem?_eq_getElem hlt,hp⟩
theorem idxR_any (p : Int × Int -> Bool) (rs : List (Int × Int)) : decide (0 <= idxR p rs) = rs.any p := by
 rcases xv7 p rs with ⟨h1,h2⟩ | ⟨i,r,h1,h2,h3⟩
 ·rw [h1]
  symm
  rw [show decide ((0 : Int) <= -1) = false from rfl,List.any_eq_false]
  exact fun r hr => by rw [h2 r hr];decide
 ·rw [h1,decide_eq_true (by omega)]
  symm
  exact List.any_eq_true.2 ⟨r,List.mem_of_getElem? h2,h3⟩
theorem yx7 (p : Int × Int -> Bool) (rs : List (Int × Int)) : -1 <= idxR p rs /\ idxR p rs < (rs.length : Int) + 1 := by
 rcases xv7 p rs with ⟨h1,_⟩ | ⟨i,r,h1,h2,_⟩
 ·omega
 ·have := (List.getElem?_eq_some_iff.1 h2).1;omega
def AsksR (g : Nat) (lb : Array Value) (p : Int × Int -> Bool) (w : World) (rs : List (Int × Int)) : Prop :=
 ∀ (W : World) (x : Int × Int),x ∈ rs -> Below w.heap.size w W -> Calls Tryz.prog g (#[rv x] ++ lb) W fun e w' => e = .returned (.bool (p x)) /\ Below w.heap.size w w'
set_option maxRecDepth 100000 in
theorem xv8 (A : Option Addr) (n c : Nat) (rs : List (Int × Int)) (w : World) (hs : Rn w w.heap.size A n rs) (hn : n <= 9223372036854775806) (g : Nat) (lb : Array Value) (p : Int × Int -> Bool)
  (eg : ∀ args w,(callFunc g args).run Tryz.prog w = .ok (.enter g args) w) (hp : AsksR g lb p w rs) :
  Calls Tryz.prog 287 #[.slice A n c,.func (.func g) #[] lb] w fun e w' => e = .returned (.int .i64 (idxR p rs)) /\ Below w.heap.size w w' := by
 have l1 : rs.length = n := hs.1
 have L1 := hidb l1
 have HS := hidb hs
 have HP := hidb hp
 unfold AsksR rv at HP
 clear hs hp l1
 go_enter Tryz.func287,Tryz.ntmps287
 go_wp2
 go_loopw [5,8] (fun _ k wr => ∃ j : Nat,j <= n /\ k = .int .i64 j /\ Hid (∀ i,i < j -> ∀ y,rs[i]? = some y -> p y = false) /\ Hid (Below w.heap.size w wr)) (fun _ k _ => (n - intOf k).toNat)
 case atStart => exact ⟨0,by omega,rfl,hidb (fun i h => absurd h (Nat.not_lt_zero _)),hidb (Below.refl _ _)⟩
 case round =>
  obtain ⟨j,hj,rfl,HA,HB⟩ := hrel
  by_cases hlt : j < n
  ·obtain ⟨b,off,s,l,rfl,_,hx,hc1,hc2⟩ := (HS.out.below HB.out).at_ hlt
   have cp := HP.out wr (s,l) (List.mem_of_getElem? hx) HB.out
   simp only at cp
   have hi0 : (0 : Int) <= (j : Int) := by omega
   have hi1 : (j : Int) < (n : Int) := by omega
   have HX := hidb hx
   clear hx
   cases hq : p (s,l) with
   | true =>
    have E : Hid (idxR p rs = j) := hidb (xkm HX.out hq HA.out)
    rw [hq] at cp
    clear hq
    go_wp2_with (first | (go_at_fn g;(with_reducible refine cp.mono ?_);rintro e w' ⟨rfl,hb'⟩))
    go_ret
    exact ⟨by rw [E.out];rfl,hb'⟩
   | false =>
    have H2 : Hid (∀ i,i < j + 1 -> ∀ y,rs[i]? = some y -> p y = false) := hidb (fun i hi y hy => by
     by_cases h : i = j
     ·subst h
      rw [HX.out] at hy
      obtain rfl := Option.some.inj hy
      exact hq
     ·exact HA.out i (by omega) y hy)
    rw [hq] at cp
    clear hq
    go_wp2_with (first | (go_at_fn g;(with_reducible refine cp.mono ?_);rintro e w' ⟨rfl,hb'⟩))
    have HB2 := hidb hb'
    clear hb'
    go_roundw
    case rel => exact ⟨j + 1,by omega,by go_num,H2,HB2⟩
    case measure => simp [intOf];omega
  ·have E : Hid (idxR p rs = -1) := hidb (xJx (fun r hr => by
    obtain ⟨i,hi,rfl⟩ := List.getElem_of_mem hr
    exact HA.out i (by rw [L1.out] at hi;omega) _ (List.getElem?_eq_getElem hi)))
   go_wp2
   go_ret
   exact ⟨by rw [E.out];rfl,HB.out⟩
theorem yx8 (A : Option Addr) (n c : Nat) (rs : List (Int × Int)) (w : World) (hs : Rn w w.heap.size A n rs) (hn : n <= 9223372036854775806) (g : Nat) (lb : Array Value) (p : Int × Int -> Bool)
  (eg : ∀ args w,(callFunc g args).run Tryz.prog w = .ok (.enter g args) w) (hp : AsksR g lb p w rs) :
  Calls Tryz.prog 259 #[.slice A n c,.func (.func g) #[] lb] w fun e w' => e = .returned (.bool (rs.any p)) /\ Below w.heap.size w w' := by
 have ci := xv8 A n c rs w hs hn g lb p eg hp
 have hr := yx7 p rs
 rw [<- idxR_any]
 obtain ⟨k,hk⟩ : ∃ k,idxR p rs = k := ⟨_,rfl⟩
 rw [hk] at ci hr ⊢
 obtain ⟨h0,_⟩ := hr
 clear hs hp hk
 go_enter Tryz.func259,Tryz.ntmps259
 go_wp2_with (first | (go_at_call 287;(with_reducible refine ci.mono ?_);rintro e w' ⟨rfl,hb'⟩))
 go_ret
 exact ⟨rfl,hb'⟩
theorem xVk (s l : Int) (W : World) (hs : in64 s) (hl : in64 l) :
  Calls Tryz.prog 281 #[.agg #[.int .i64 s,.int .i64 l]] W fun e w' => e = .returned (.bool (!fMay (s,l))) /\ Below W.heap.size W w' := by
 obtain ⟨s0,s1⟩ := hs
 obtain ⟨l0,l1⟩ := hl
 obtain ⟨b,hb⟩ : ∃ b,(!fMay (s,l)) = b := ⟨_,rfl⟩
 have hw : (b = true /\ s < 0) \/ (b = true /\ 0 <= s /\ l < 1) \/ (b = true /\ 0 <= s /\ 1 <= l /\ 1024 - s < l) \/ (b = false /\ 0 <= s /\ 1 <= l /\ l <= 1024 - s) := by
  rw [<- hb]
  have hm := xqd (s,l)
  simp only at hm
  cases hf : fMay (s,l) with
  | true =>
   have := hm.1 hf
   simp;omega
  | false =>
   have h : ¬ (0 <= s /\ 1 <= l /\ s + l <= 1024) := fun h => by rw [hm.2 h] at hf;cases hf
   simp;omega
 rw [hb]
 clear hb
 rcases hw with ⟨rfl,a1⟩ | ⟨rfl,a1,a2⟩ | ⟨rfl,a1,a2,a3⟩ | ⟨rfl,a1,a2,a3⟩
 all_goals
  go_enter Tryz.func281,Tryz.ntmps281
  go_wp2
  go_ret
  refine ⟨?_,(Below.refl _ _).alloc (Nat.le_refl _) _⟩
  first | rfl | exact congrArg Ending.returned (congrArg Value.bool (decide_eq_true (by omega))) | exact congrArg Ending.returned (congrArg Value.bool (decide_eq_false (by omega))) | (simp;omega)
theorem xVl (rs : List (Int × Int)) : (!rs.any fun r => !fMay r) = rs.all fMay := by
 rw [List.not_any_eq_all_not]
 simp
theorem yq5 (A : Option Addr) (n c : Nat) (rs : List (Int × Int)) (w : World) (hs : Rn w w.heap.size A n rs) (hn : n <= 9223372036854775806) (hr : ∀ r ∈ rs,in64 r.1 /\ in64 r.2) :
  Calls Tryz.prog 243 #[.slice A n c] w fun e w' => e = .returned (.bool (rs.all fMay)) /\ Below w.heap.size w w' := by
 have eg : ∀ args w,(callFunc 281 args).run Tryz.prog w = .ok (.enter 281 args) w := enters_of Tryz.func281 (by kernel_rfl) rfl
 have ch := yx8 A n c rs w hs hn 281 #[] (fun r => !fMay r) eg (fun W x hx hb => (xVk x.1 x.2 W (hr x hx).1 (hr x hx).2).mono fun e w' ⟨h1,h2⟩ => ⟨h1,hb.trans (h2.mono hb.size)⟩)
 rw [<- xVl]
 generalize rs.any (fun r => !fMay r) = k at ch ⊢
 clear hs hr
 go_enter Tryz.func243,Tryz.ntmps243
 go_wp2_with (first | (go_at_call 259;(with_reducible refine ch.mono ?_);rintro e w' ⟨rfl,hb'⟩))
 go_ret
 exact ⟨rfl,hb'⟩
theorem xjq (s l : Int) (W : World) (h0 : -9223372036854775808 <= s + l) (h1 : s + l <= 9223372036854775807) :
  Calls Tryz.prog 284 #[.agg #[.int .i64 s,.int .i64 l]] W fun e w' => e = .returned (.int .i64 (s + l)) /\ w' = W.alloc (.cells #[.int .i64 s,.int .i64 l] 47) := by
 go_enter Tryz.func284,Tryz.ntmps284
 go_wp2
 go_ret
 exact ⟨rfl,rfl⟩
theorem xJy (s l fs fl : Int) (B : Nat) (W : World) (hB : B < W.heap.size) (hc0 : W.cell? ⟨B,0,none⟩ = some (.int .i64 s)) (hc1 : W.cell? ⟨B,1,none⟩ = some (.int .i64 l))
  (h : -9223372036854775808 <= s + l /\ s + l <= 9223372036854775807) (h' : -9223372036854775808 <= fs + fl /\ fs + fl <= 9223372036854775807) :
  Calls Tryz.prog 288 #[.agg #[.int .i64 fs,.int .i64 fl],.pointer (some ⟨B,0,none⟩)] W fun e w' => e = .returned (.bool (inRun (s,l) (fs,fl))) /\ Below W.heap.size W w' := by
 obtain ⟨b,hb⟩ : ∃ b,inRun (s,l) (fs,fl) = b := ⟨_,rfl⟩
 have hw : (b = false /\ s < fs) \/ (fs <= s /\ b = decide (s + l <= fs + fl)) := by
  rw [<- hb]
  unfold inRun
  by_cases c : fs <= s
  ·right;exact ⟨c,by simp [c]⟩
  ·left;exact ⟨by simp [c],by omega⟩
 rw [hb]
 have hne : ¬ B = W.heap.size := by omega
 clear hb
 rcases hw with ⟨rfl,a1⟩ | ⟨a1,hb⟩
 ·have hd : decide (fs <= s) = false := decide_eq_false (by omega)
  go_enter Tryz.func288,Tryz.ntmps288
  go_wp2
  go_quiet (fail)
  go_wp2
  go_ret
  exact ⟨rfl,belowN ((Below.refl _ _).alloc (Nat.le_refl _) _) _⟩
 ·obtain ⟨W1,hW1⟩ : ∃ W1,W1 = W.alloc (.cells #[.int .i64 fs,.int .i64 fl] 47) := ⟨_,rfl⟩
  have hz : W1.heap.size = W.heap.size + 1 := by rw [hW1];simp
  have HQ : Hid (∀ W',Below W1.heap.size W1 W' -> W'.cell? ⟨W.heap.size,0,none⟩ = some (.int .i64 fs) /\ W'.cell? ⟨W.heap.size,1,none⟩ = some (.int .i64 fl) /\ W'.cell? ⟨B,0,none⟩ = some (.int .i64 s) /\ W'.cell? ⟨B,1,none⟩ = some (.int .i64 l)) := hidb (fun W' hb => by
   have k := fun (p : Addr) (hp : p.block < W1.heap.size) => hb.cell hp
   rw [k ⟨W.heap.size,0,none⟩ (by show W.heap.size < _;omega),k ⟨W.heap.size,1,none⟩ (by show W.heap.size < _;omega),k ⟨B,0,none⟩ (by show B < _;omega),k ⟨B,1,none⟩ (by show B < _;omega),hW1,World.cell?_alloc_lt W _ ⟨B,0,none⟩ hB,World.cell?_alloc_lt W _ ⟨B,1,none⟩ hB]
   exact ⟨by simp,by simp,hc0,hc1⟩)
  have HB1 : Hid (Below W.heap.size W W1) := hidb (by rw [hW1];exact (Below.refl _ _).alloc (Nat.le_refl _) _)
  have HW1 := hidb hW1
  have hle : W.heap.size <= W1.heap.size := by omega
  have ce : ∀ W',Below W1.heap.size W1 W' -> Calls Tryz.prog 284 #[.agg #[.int .i64 s,.int .i64 l]] W' fun e w' => e = .returned (.int .i64 (s + l)) /\ Below W1.heap.size W1 w' := fun W' hb => (xjq s l W' h.1 h.2).mono fun e w' ⟨h1,h2⟩ => ⟨h1,by rw [h2];exact hb.alloc hb.size _⟩
  have cf : ∀ W',Below W1.heap.size W1 W' -> Calls Tryz.prog 284 #[.agg #[.int .i64 fs,.int .i64 fl]] W' fun e w' => e = .returned (.int .i64 (fs + fl)) /\ Below W1.heap.size W1 w' := fun W' hb => (xjq fs fl W' h'.1 h'.2).mono fun e w' ⟨h1,h2⟩ => ⟨h1,by rw [h2];exact hb.alloc hb.size _⟩
  have hb0 : Below W1.heap.size W1 W1.drew := (Below.refl _ _).drew
  obtain ⟨y0,y1,y2,y3⟩ := HQ.out _ hb0
  have a2 : decide (fs <= s) = true := decide_eq_true a1
  have HBB := hidb hb
  clear hb hW1 hz h h' hc0 hc1
  go_enter Tryz.func288,Tryz.ntmps288
  go_wp2
  rw [<- HW1.out]
  go_region_held3 (fun W' => W'.cell? ⟨W.heap.size,0,none⟩ = some (.int .i64 fs) /\ W'.cell? ⟨W.heap.size,1,none⟩ = some (.int .i64 fl) /\ W'.cell? ⟨B,0,none⟩ = some (.int .i64 s) /\ W'.cell? ⟨B,1,none⟩ = some (.int .i64 l) /\ Below W1.heap.size W1 W') (go_keep)
   (first | (go_at_call 284;first
    | ((with_reducible refine (ce _ (by assumption)).mono ?_);rintro e w3 ⟨rfl,hb3⟩;obtain ⟨y0,y1,y2,y3⟩ := HQ.out _ hb3)
    | ((with_reducible refine (cf _ (by assumption)).mono ?_);rintro e w3 ⟨rfl,hb3⟩;obtain ⟨y0,y1,y2,y3⟩ := HQ.out _ hb3)))
  go_wp2
  go_ret
  have hbL : Below W1.heap.size W1 w3 := by assumption
  exact ⟨by rw [HBB.out];rfl,HB1.out.trans (hbL.mono hle)⟩
theorem xZf (p : Nat) (A : Option Addr) (n c : Nat) (w : World) (hc : w.cell? ⟨p,0,none⟩ = some (.slice A n c)) :
  Calls Tryz.prog 161 #[.pointer (some ⟨p,0,none⟩)] w fun e w' => e = .returned (.slice A n c) /\ w = w' := by
 go_enter Tryz.func161,Tryz.ntmps161
 go_wp2
 go_ret
 exact ⟨rfl,rfl⟩
theorem xQj (v : Value) (A : Option Addr) (n c : Nat) (rs : List (Int × Int)) (s l : Int) (w : World)
  (hall : Calls Tryz.prog 161 #[v] (w.alloc (.cells #[.int .i64 s,.int .i64 l] 47)) fun e w' => e = .returned (.slice A n c) /\ w.alloc (.cells #[.int .i64 s,.int .i64 l] 47) = w')
  (hs : Rn w w.heap.size A n rs) (hn : n <= 65536) (h : -9223372036854775808 <= s + l /\ s + l <= 9223372036854775807) (hr : ∀ r ∈ rs,-9223372036854775808 <= r.1 + r.2 /\ r.1 + r.2 <= 9223372036854775807) :
  Calls Tryz.prog 256 #[v,.agg #[.int .i64 s,.int .i64 l]] w fun e w' => e = .returned (.int .i64 (idxR (inRun (s,l)) rs)) /\ Below w.heap.size w w' := by
 have eg : ∀ args w,(callFunc 288 args).run Tryz.prog w = .ok (.enter 288 args) w := enters_of Tryz.func288 (by kernel_rfl) rfl
 have ci := xv8 A n c rs (w.alloc (.cells #[.int .i64 s,.int .i64 l] 47)) ((hs.alloc (Nat.le_refl _) _).more (by simp)) (by omega) 288 #[.pointer (some ⟨w.heap.size,0,none⟩)] (inRun (s,l)) eg (fun W x hx hb => by
  have k := fun (p : Addr) (hp : p.block < (w.alloc (.cells #[.int .i64 s,.int .i64 l] 47)).heap.size) => hb.cell hp
  have hz : (w.alloc (.cells #[.int .i64 s,.int .i64 l] 47)).heap.size = w.heap.size + 1 := by simp
  refine (xJy s l x.1 x.2 w.heap.size W (by have := hb.size;omega) ?_ ?_ h (hr x hx)).mono fun e w' ⟨h1,h2⟩ => ⟨h1,hb.trans (h2.mono hb.size)⟩
  ·rw [k ⟨w.heap.size,0,none⟩ (by show w.heap.size < _;omega)];simp
  ·rw [k ⟨w.heap.size,1,none⟩ (by show w.heap.size < _;omega)];simp)
 obtain ⟨k,hk⟩ : ∃ k,idxR (inRun (s,l)) rs = k := ⟨_,rfl⟩
 rw [hk] at ci ⊢
 clear hs hk hr h
 go_enter Tryz.func256,Tryz.ntmps256
 go_wp2_with (first
  | (go_at_call 161;(with_reducible refine hall.mono ?_);rintro e w' ⟨rfl,rfl⟩)
  | (go_at_call 287;(with_reducible refine ci.mono ?_);rintro e w' ⟨rfl,hb'⟩))
 go_ret
 exact ⟨rfl,((Below.refl _ _).alloc (Nat.le_refl _) _).trans (hb'.mono (by simp))⟩
end Go.Proofs.YtlcdgmjinhbncaaGreat
namespace Go.Proofs.YtlcdgmjinhbncaaGreat
open Go.RowKit
set_option linter.unusedVariables false
theorem xX3 (w : World) (A : Option Addr) (n c : Nat) : (binOp .eql 57 (.slice A n c) (.slice none 0 0)).run Tryz.prog w = .ok (.bool A.isNone) w := Lib.run_eql_slice_nil w 57 47 A n c 0 0 (by kernel_rfl)
theorem xxv (rs : List (Int × Int)) : ∀ u ∈ rcells rs,u.oneCell' = true := fun u hu => by
 obtain ⟨r,_,h⟩ := List.mem_flatMap.1 hu
 simp only [List.mem_cons,List.not_mem_nil,or_false] at h
 rcases h with rfl | rfl <;> rfl
theorem xX4 : ∀ (rs : List (Int × Int)) (k : Nat) (u : Value),(rcells rs)[k]? = some u -> ∃ j r,rs[j]? = some r /\ ((k = j * 2 /\ u = iv r.1) \/ (k = j * 2 + 1 /\ u = iv r.2))
 | [],k,u,h => by simp [rcells] at h
 | x :: l,0,u,h => ⟨0,x,rfl,Or.inl ⟨rfl,by simpa [rcells] using h.symm⟩⟩
 | x :: l,1,u,h => ⟨0,x,rfl,Or.inr ⟨rfl,by simpa [rcells] using h.symm⟩⟩
 | x :: l,k + 2,u,h => by
  have e : rcells (x :: l) = [iv x.1,iv x.2] ++ rcells l := rfl
  rw [e,List.getElem?_append_right (by simp)] at h
  obtain ⟨j,r,h1,h2⟩ := xX4 l k u (by simpa using h)
  refine ⟨j + 1,r,by simpa using h1,?_⟩
  rcases h2 with ⟨e1,e2⟩ | ⟨e1,e2⟩
  ·exact Or.inl ⟨by omega,e2⟩
  ·exact Or.inr ⟨by omega,e2⟩
theorem Rn.cells_ {w : World} {B n : Nat} {A : Option Addr} {rs : List (Int × Int)} (h : Rn w B A n rs) : CellsAt w A (rcells rs) := fun ad e k u hk => by
 obtain ⟨j,r,hj,hr⟩ := xX4 rs k u hk
 have hlt : j < rs.length := (List.getElem?_eq_some_iff.1 hj).1
 obtain ⟨b,off,e2,_,hc⟩ := h.2 (by have := h.1;omega)
 rw [e] at e2
 obtain rfl := Option.some.inj e2
 rw [Go.WideShapes.add_plain]
 rcases hr with ⟨rfl,rfl⟩ | ⟨rfl,rfl⟩
 ·exact (hc j r hj).1
 ·rw [<- Nat.add_assoc];exact (hc j r hj).2
theorem xVm (A : Option Addr) (n c : Nat) (rs : List (Int × Int)) (w : World) (hs : Rn w w.heap.size A n rs) (hn : n <= 65536) (hA : A = none -> c = 0) :
  Calls Tryz.prog 160 #[.slice A n c] w (OwnRuns w rs) := by
 obtain ⟨i0,hi,hz0,hz1,hz2⟩ := info_parts xxt
 have l1 : rs.length = n := hs.1
 cases A with
 | none =>
  obtain rfl : n = 0 := by
   refine Nat.eq_zero_of_not_pos fun h => ?_
   obtain ⟨b,off,e,_⟩ := hs.2 h
   cases e
  obtain rfl : c = 0 := hA rfl
  obtain rfl : rs = [] := List.eq_nil_of_length_eq_zero l1
  clear hs l1
  have q := xX3 w none 0 0
  go_enter Tryz.func160,Tryz.ntmps160
  go_wp2
  go_ret
  exact ⟨none,0,rfl,World.ownsRow_nil _ _ _ _,Below.refl _ _⟩
 | some p =>
  have HC := hidb ((hs.cells_).alloc (.cells #[] 47))
  have L1 := hidb l1
  clear hs l1
  have q := xX3 w (some p) n c
  have hone := hidb (xxv rs)
  have hown0 := hidb (xJc w w.heap.size 47 2 (Nat.le_refl _))
  go_enter Tryz.func160,Tryz.ntmps160
  go_wp2_with (at_builtin;refine wpList_append_own (w.alloc (.cells #[] 47)) rfl _ _ 57 rfl w.heap.size 47 i0 (.agg #[.int .i64 0,.int .i64 0]) 2 16 Tryz.underlying57 hi hz0 hz1 hz2 rfl (by decide) _ 0 [] rfl (by exact hown0.out) p n c (rcells rs) rfl (by rw [xq6,L1.out]) (by exact HC.out p rfl) (by exact hone.out) (by unfold maxLen;omega) (by omega) (by simp) ?_;intro v1 w1 hown1 hg1 _)
  rw [Nat.zero_add,List.nil_append] at hown1
  have P : Hid (OwnRuns w rs (.returned v1) w1) := hidb (by
   obtain ⟨A',c',rfl⟩ := xj5 hown1
   rw [<- L1.out] at hown1 ⊢
   refine ⟨A',c',rfl,hown1,?_⟩
   exact ((Below.refl _ _).alloc (Nat.le_refl _) _).grown hg1 (by simp) (fun k hk => (hown0.out.lt k hk).1))
  clear hown1 hg1
  go_wp2
  go_ret
  exact P.out
set_option maxHeartbeats 1000000 in
theorem yx9 (A : Option Addr) (n c : Nat) (rs : List (Int × Int)) (w : World) (hs : Rn w w.heap.size A n rs) (hn : n <= 65536) (hr : ∀ r ∈ rs,-9223372036854775808 <= r.1 + r.2 /\ r.1 + r.2 <= 9223372036854775807) :
  Calls Tryz.prog 247 #[.slice A n c] w fun e w' => e = .returned (.bool (shareB rs)) /\ Below w.heap.size w w' := by
 have l1 : rs.length = n := hs.1
 have L1 := hidb l1
 have HS := hidb hs
 have HR := hidb hr
 clear hs hr l1
 go_enter Tryz.func247,Tryz.ntmps247
 go_wp2
 go_loopw [3] (fun k wr => ∃ j : Nat,1 <= j /\ j <= n + 1 /\ k = .int .i64 (j : Int) /\ Hid (∀ i a b,i + 1 < j -> rs[i]? = some a -> rs[i + 1]? = some b -> a.1 + a.2 <= b.1) /\ Hid (Below w.heap.size w wr)) (fun k _ => (n + 1 - intOf k).toNat)
 case atStart => exact ⟨1,by omega,by omega,rfl,hidb (fun i a b h => absurd h (by omega)),hidb (Below.refl _ _)⟩
 case round =>
  obtain ⟨j,hj1,hj,rfl,HA,HB⟩ := hrel
  by_cases hlt : j < n
  ·obtain ⟨i,rfl⟩ : ∃ i,j = i + 1 := ⟨j - 1,by omega⟩
   obtain ⟨b,off,s,l,rfl,hbB,hx,hc1,hc2⟩ := (HS.out.below HB.out).at_ (k := i) (by omega)
   obtain ⟨b',off',s2,l2,e,_,hx2,hd1,hd2⟩ := (HS.out.below HB.out).at_ (k := i + 1) hlt
   obtain ⟨rfl,rfl⟩ : b = b' /\ off = off' := by injection e with e;injection e with e1 e2;exact ⟨e1,e2⟩
   have hsum := HR.out (s,l) (List.mem_of_getElem? hx)
   simp only at hsum
   have HX := hidb hx
   have HX2 := hidb hx2
   have HQ : Hid (∀ W',Below w.heap.size w W' -> W'.cell? ⟨b,off + i * 2,none⟩ = some (.int .i64 s) /\ W'.cell? ⟨b,off + i * 2 + 1,none⟩ = some (.int .i64 l) /\ W'.cell? ⟨b,off + (i + 1) * 2,none⟩ = some (.int .i64 s2)) := hidb (fun W' hb => by
    have k := fun (p : Addr) (hp : p.block < w.heap.size) => (hb.cell hp).trans (HB.out.cell hp).symm
    rw [k ⟨b,_,none⟩ hbB,k ⟨b,_,none⟩ hbB,k ⟨b,_,none⟩ hbB]
    exact ⟨hc1,hc2,hd1⟩)
   have ce : ∀ W',Below w.heap.size w W' -> Calls Tryz.prog 284 #[.agg #[.int .i64 s,.int .i64 l]] W' fun e w' => e = .returned (.int .i64 (s + l)) /\ Below w.heap.size w w' := fun W' hb => (xjq s l W' hsum.1 hsum.2).mono fun e w' ⟨h1,h2⟩ => ⟨h1,by rw [h2];exact hb.alloc hb.size _⟩
   have hb0 : Below w.heap.size w wr.drew := HB.out.drew
   obtain ⟨y0,y1,y2⟩ := HQ.out _ hb0
   have HS1 := hidb hsum
   have hi0 : (0 : Int) <= (i : Int) + 1 := by omega
   have hi1 : (i : Int) + 1 < (n : Int) := by omega
   have hi2 : IntKind.i64.wrap ((i : Int) + 1 - 1) = (i : Int) := by rw [IntKind.wrap_i64];omega
   have hi3 : ((i : Int) + 1).toNat = i + 1 := by omega
   have hi4 : (i : Int) + 1 - 1 = (i : Int) := by omega
   have hi7 : IntKind.i64.wrap (i : Int) = (i : Int) := IntWalk.i64_in _ (by omega)
   have hi5 : (i : Int) < (n : Int) := by omega
   have hi6 : (0 : Int) <= (i : Int) := by omega
   clear hx hx2 hc1 hc2 hd1 hd2 hsum e
   by_cases hsh : s2 < s + l
   ·have E : Hid (shareB rs = true) := hidb (xJo rs i (s,l) (s2,l2) HX.out HX2.out hsh)
    go_wp2
    go_region_held3 (fun W' => W'.cell? ⟨b,off + i * 2,none⟩ = some (.int .i64 s) /\ W'.cell? ⟨b,off + i * 2 + 1,none⟩ = some (.int .i64 l) /\ W'.cell? ⟨b,off + (i + 1) * 2,none⟩ = some (.int .i64 s2) /\ Below w.heap.size w W') (go_keep)
     (first | (go_at_call 284;((with_reducible refine (ce _ (by assumption)).mono ?_);rintro e w3 ⟨rfl,hb3⟩;obtain ⟨y0,y1,y2⟩ := HQ.out _ hb3)))
    all_goals
     go_wp2
     go_ret
     have hbL : Below w.heap.size w w3 := by assumption
     exact ⟨by rw [E.out];rfl,hbL⟩
   ·have H2 : Hid (∀ k a c,k + 1 < i + 1 + 1 -> rs[k]? = some a -> rs[k + 1]? = some c -> a.1 + a.2 <= c.1) := hidb (fun k a c hk ha hc => by
     by_cases h : k = i
     ·subst h
      rw [HX.out] at ha
      rw [HX2.out] at hc
      obtain rfl := Option.some.inj ha
      obtain rfl := Option.some.inj hc
      exact Int.not_lt.1 hsh
     ·exact HA.out k a c (by omega) ha hc)
    go_wp2
    go_region_held3 (fun W' => W'.cell? ⟨b,off + i * 2,none⟩ = some (.int .i64 s) /\ W'.cell? ⟨b,off + i * 2 + 1,none⟩ = some (.int .i64 l) /\ W'.cell? ⟨b,off + (i + 1) * 2,none⟩ = some (.int .i64 s2) /\ Below w.heap.size w W') (go_keep)
     (first | (go_at_call 284;((with_reducible refine (ce _ (by assumption)).mono ?_);rintro e w3 ⟨rfl,hb3⟩;obtain ⟨y0,y1,y2⟩ := HQ.out _ hb3)))
    all_goals
     have HBL : Hid (Below w.heap.size w w3) := hidb (by assumption)
     go_wp2
     go_roundw
     case rel => exact ⟨i + 1 + 1,by omega,by omega,by go_num,H2,HBL⟩
     case measure => simp [intOf];omega
  ·have E : Hid (shareB rs = false) := hidb (xwn rs (fun i a b ha hb => by
    have := (List.getElem?_eq_some_iff.1 hb).1
    have := L1.out
    have := HA.out i a b (by omega) ha hb
    omega))
   go_wp2
   go_ret
   exact ⟨by rw [E.out];rfl,HB.out⟩
structure FrAt (w : World) (p : Nat) (A : Option Addr) (n c : Nat) (f : List Bool) : Prop where
 cell : w.cell? ⟨p,0,none⟩ = some (.slice A n c)
 free : w.frozen? ⟨p,0,none⟩ = false
 own : w.ownsRow 0 47 2 (.slice A n c) n (rcells (fList f))
 len : (fList f).length = n
 ne : ∀ k,(Value.slice A n c).ownBlock = some k -> k ≠ p
 flen : f.length = 1024
def Fr (w : World) (S : Nat -> Prop) (p : Nat) (f : List Bool) : Prop :=
 ∃ A n c,FrAt w p A n c f /\ S p /\ (∀ k,(Value.slice A n c).ownBlock = some k -> S k) /\ ∀ b,S b -> b < w.heap.size
section
variable {w w' : World} {S S' : Nat -> Prop} {p n c : Nat} {A : Option Addr} {f : List Bool}
theorem FrAt.ltp (h : FrAt w p A n c f) : p < w.heap.size := xq0 h.cell
theorem FrAt.le (h : FrAt w p A n c f) : n <= 1024 := by
 have h1 := xJm f
 have h2 := h.len
 have h3 := h.flen
 omega
theorem FrAt.nil (h : FrAt w p A n c f) : A = none -> c = 0 := fun e => by
 exact (xJe h.own).2.2 e
theorem FrAt.keep (h : FrAt w p A n c f) (hk : Kept S w w') (hp : ¬ S p) (hr : ∀ k,(Value.slice A n c).ownBlock = some k -> ¬ S k) : FrAt w' p A n c f :=
 ⟨(hk.cell (a := ⟨p,0,none⟩) h.ltp hp).trans h.cell,(World.frozen?_of_block (w := w) (a := ⟨p,0,none⟩) (hk.block p h.ltp hp)).trans h.free,xjm h.own hk hr,h.len,h.ne,h.flen⟩
theorem FrAt.below (h : FrAt w p A n c f) (hb : Below w.heap.size w w') : FrAt w' p A n c f := h.keep (Kept.of_below hb (fun _ => False)) id (fun _ _ => id)
theorem FrAt.rn (h : FrAt w p A n c f) : Rn w w.heap.size A n (fList f) := Rn.of_own h.own h.len
theorem Fr.flen (h : Fr w S p f) : f.length = 1024 := by obtain ⟨A,n,c,h,_⟩ := h;exact h.flen
theorem Fr.lt (h : Fr w S p f) : ∀ b,S b -> b < w.heap.size := by obtain ⟨A,n,c,_,_,_,h⟩ := h;exact h
theorem Fr.ltp (h : Fr w S p f) : p < w.heap.size := by obtain ⟨A,n,c,h,_⟩ := h;exact h.ltp
theorem Fr.below (h : Fr w S p f) (hb : Below w.heap.size w w') : Fr w' S p f := by
 obtain ⟨A,n,c,h1,h2,h3,h4⟩ := h
 exact ⟨A,n,c,h1.below hb,h2,h3,fun b hb' => Nat.lt_of_lt_of_le (h4 b hb') hb.size⟩
theorem Fr.keep (h : Fr w S p f) (hk : Kept S' w w') (hn : ∀ b,S b -> ¬ S' b) : Fr w' S p f := by
 obtain ⟨A,n,c,h1,h2,h3,h4⟩ := h
 exact ⟨A,n,c,h1.keep hk (hn _ h2) (fun k hk' => hn _ (h3 k hk')),h2,h3,fun b hb' => Nat.lt_of_lt_of_le (h4 b hb') hk.size⟩
theorem Fr.more_ {w0 : World} (h : Fr w S p f) (hw : w0.heap.size <= w.heap.size) : Fr w (more S w0 w) p f := by
 obtain ⟨A,n,c,h1,h2,h3,h4⟩ := h
 exact ⟨A,n,c,h1,⟨Or.inl h2,h1.ltp⟩,fun k hk => ⟨Or.inl (h3 k hk),h4 k (h3 k hk)⟩,fun b hb => hb.2⟩
end
theorem fList_in (f : List Bool) (hf : f.length = 1024) : ∀ r ∈ fList f,-9223372036854775808 <= r.1 + r.2 /\ r.1 + r.2 <= 9223372036854775807 := fun r hr => by
 have := xx3 (xqt f (by omega)) r hr;omega
theorem xZg (v : Value) (A : Option Addr) (n c : Nat) (rs : List (Int × Int)) (w : World) (hall : Calls Tryz.prog 161 #[v] w fun e w' => e = .returned (.slice A n c) /\ w = w')
  (hs : Rn w w.heap.size A n rs) (hn : n <= 65536) (hA : A = none -> c = 0) : Calls Tryz.prog 90 #[v] w (OwnRuns w rs) := by
 have cc := xVm A n c rs w hs hn hA
 clear hs hA
 go_enter Tryz.func90,Tryz.ntmps90
 go_wp2_with (first
  | (go_at_call 161;(with_reducible refine hall.mono ?_);rintro e w' ⟨rfl,rfl⟩)
  | (go_at_call 160;(with_reducible refine cc.mono ?_);rintro e w1 ⟨A1,c1,rfl,h1,h2⟩))
 go_ret
 exact ⟨A1,c1,rfl,h1,h2⟩
theorem yxa {w : World} {S : Nat -> Prop} {p : Nat} {f : List Bool} (h : Fr w S p f) : Calls Tryz.prog 90 #[.pointer (some ⟨p,0,none⟩)] w (OwnRuns w (fList f)) := by
 obtain ⟨A,n,c,h1,_⟩ := h
 exact xZg _ A n c (fList f) w (xZf p A n c w h1.cell) h1.rn (by have := h1.le;omega) h1.nil
theorem Fr.all_ {w : World} {S : Nat -> Prop} {p : Nat} {f : List Bool} (h : Fr w S p f) : ∃ A n c,FrAt w p A n c f /\ n <= 1024 /\ ∀ W,Below w.heap.size w W -> Calls Tryz.prog 161 #[.pointer (some ⟨p,0,none⟩)] W fun e w' => e = .returned (.slice A n c) /\ W = w' := by
 obtain ⟨A,n,c,h1,_⟩ := h
 exact ⟨A,n,c,h1,h1.le,fun W hb => xZf p A n c W (h1.below hb).cell⟩
theorem xk6 {α : Type} (L V D : List α) (k : Nat) (h : k + V.length + D.length <= L.length) :
  (splice (splice L k V) (k + V.length) D).take (k + V.length + D.length) = L.take k ++ V ++ D /\ (splice (splice L k V) (k + V.length) D).length = L.length := by
 have hk : (L.take k).length = k := by rw [List.length_take];omega
 have h1 : splice L k V = (L.take k ++ V) ++ (L.drop k).drop V.length := by
  have := xkf (L.take k) (L.drop k) V (by rw [List.length_drop];omega)
  rw [List.take_append_drop,hk] at this
  rw [this,List.append_assoc]
 have hkv : (L.take k ++ V).length = k + V.length := by rw [List.length_append,hk]
 have h2 := xkf (L.take k ++ V) ((L.drop k).drop V.length) D (by simp;omega)
 rw [hkv,<- h1] at h2
 rw [h2]
 constructor
 ·rw [<- List.append_assoc]
  exact List.take_left' (by simp;omega)
 ·simp;omega
theorem xVn {α : Type} (L V D : List α) (k : Nat) (h : k + V.length + D.length <= L.length) :
  (splice (splice L (k + V.length) D) k V).take (k + V.length + D.length) = L.take k ++ V ++ D /\ (splice (splice L (k + V.length) D) k V).length = L.length := by
 have hk : (L.take k).length = k := by rw [List.length_take];omega
 have hkv : (L.take (k + V.length)).length = k + V.length := by rw [List.length_take];omega
 have h1 := xkf (L.take (k + V.length)) (L.drop (k + V.length)) D (by rw [List.length_drop];omega)
 rw [List.take_append_drop,hkv] at h1
 have h3 : L.take (k + V.length) = L.take k ++ (L.drop k).take V.length := by rw [List.take_add]
 rw [h3,List.append_assoc] at h1
 have h2 := xkf (L.take k) ((L.drop k).take V.length ++ (D ++ (L.drop (k + V.length)).drop D.length)) V (by simp;omega)
 rw [hk,<- h1] at h2
 rw [h2,List.drop_left' (by simp;omega)]
 constructor
 ·rw [<- List.append_assoc,<- List.append_assoc]
  exact List.take_left' (by simp;omega)
 ·simp;omega
theorem xxq : (Tryz.prog.info? 47).map (·.size) = some 2 := by kernel_rfl
theorem xxh (n : Nat) : ∀ v ∈ (Builtin.zeroCells (Value.agg #[.int .i64 0,.int .i64 0]).cells n).toList,v.oneCell' = true := by
 intro v hv
 simp only [Builtin.zeroCells,Value.cells,Array.toList_map,List.mem_map] at hv
 obtain ⟨i,_,rfl⟩ := hv
 have : i % 2 = 0 \/ i % 2 = 1 := by omega
 rcases this with h | h <;> (show Value.oneCell' (#[Value.int .i64 0,Value.int .i64 0][i % 2]!) = true) <;> rw [h] <;> rfl
theorem xjr (w : World) : (zeroValue 47).run Tryz.prog w = .ok (.agg #[.int .i64 0,.int .i64 0]) w := by kernel_rfl
theorem xxr (n : Nat) : (Builtin.zeroCells (Value.agg #[.int .i64 0,.int .i64 0]).cells n).size = n * 2 := size_zeroCells _ _
def Replaced (w : World) (base g k : Nat) (xs : List Value) (e : Ending) (w' : World) : Prop :=
 ∃ A c,e = .returned (.slice A k c) /\ w'.ownsRow base 47 2 (.slice A k c) k xs /\ (∀ b,A = some b -> b.block = g \/ w.heap.size <= b.block) /\ w.grownBy w' (some g)
set_option maxRecDepth 100000 in
set_option maxHeartbeats 2000000 in
theorem xQk (g n c d : Nat) (A2 : Option Addr) (xs : List Value) (w : World) (base : Nat) (hown : w.ownsRow base 47 2 (.slice (some ⟨g,0,none⟩) (n + 1) c) (n + 1) xs) (hn : n <= 65536) :
  Calls Tryz.prog 257 #[.slice (some ⟨g,0,none⟩) (n + 1) c,.int .i64 (n : Int),.int .i64 ((n : Int) + 1),.slice A2 0 d] w (Replaced w base g n (xs.take (n * 2))) := by
 obtain ⟨i0,hi,hz0,hz1,hz2⟩ := info_parts xxt
 obtain ⟨L,hL,hbg,hnc,hcm,hLl,rfl⟩ := xqj hown
 unfold maxLen at hcm
 have hcn : ¬ c = n := by omega
 have FIN : Hid (∀ w' L',Rw w' g 47 L' /\ L'.length = L.length /\ L'.take (n * 2) = L.take (n * 2) -> w.grownBy w' (some g) -> Replaced w base g n ((L.take ((n + 1) * 2)).take (n * 2)) (.returned (.slice (some ⟨g,0,none⟩) n c)) w') := hidb (fun w' L' ⟨h1,h2,h3⟩ h4 => by
  refine ⟨some ⟨g,0,none⟩,c,rfl,?_,fun b e => Or.inl (by injection e with e;rw [<- e]),h4⟩
  have := xq8 (base := base) (s := 2) (n := n) (c := c) h1 hbg (by omega) (by unfold maxLen;omega) (by omega)
  rw [List.take_take,Nat.min_eq_left (by omega),<- h3]
  exact this)
 have HL := hidb hL
 have HLl := hidb hLl
 clear hown hL hLl
 go_enter Tryz.func257,Tryz.ntmps257
 go_wp2_with (first
  | (at_builtin;refine xj6 rfl (.tmp 32) (.tmp 33) 57 rfl 47 i0 Tryz.underlying57 hi g 0 n c rfl (by omega) A2 d rfl ?_)
  | (refine xqm rfl (.tmp 43) 57 rfl 47 _ Tryz.underlying57 xjr _ g (n * 2) _ _ rfl L _ HL.out (xxh _) (by intro _;exact ⟨rfl,by have := HLl.out;rw [xxr];omega⟩) ?_;intro w1 L1 hL1 hb1))
 go_ret
 exact FIN.out w1 L1 hL1.out hb1.out
set_option maxRecDepth 100000 in
set_option maxHeartbeats 2000000 in
theorem xZh (g n c m d : Nat) (ad : Addr) (xs vs : List Value) (w : World) (base : Nat) (hown : w.ownsRow base 47 2 (.slice (some ⟨g,0,none⟩) (n + 1) c) (n + 1) xs) (hn : n <= 65536)
  (hm : 1 <= m) (hm2 : m <= 2) (hv : vs.length = m * 2) (hvs : CellsAt w (some ad) vs) (hone : ∀ u ∈ vs,u.oneCell' = true) :
  Calls Tryz.prog 257 #[.slice (some ⟨g,0,none⟩) (n + 1) c,.int .i64 (n : Int),.int .i64 ((n : Int) + 1),.slice (some ad) m d] w (Replaced w base g (n + m) (xs.take (n * 2) ++ vs)) := by
 obtain ⟨i0,hi,hz0,hz1,hz2⟩ := info_parts xxt
 obtain ⟨L,hL,hbg,hnc,hcm,hLl,rfl⟩ := xqj hown
 have hcn : ¬ c = n := by omega
 have HE : Hid ((L.take ((n + 1) * 2)).take (n * 2) = L.take (n * 2)) := hidb (by rw [List.take_take,Nat.min_eq_left (by omega)])
 have HL := hidb hL
 have HLl := hidb hLl
 have HV := hidb hv
 have HVS := hidb hvs
 have HONE := hidb hone
 have HCM := hidb hcm
 unfold maxLen at hcm
 clear hown hL hLl hv hvs hone
 rw [HE.out]
 go_enter Tryz.func257,Tryz.ntmps257
 go_wp2_with (first
  | (at_builtin;refine xk0 rfl (.tmp 32) (.tmp 33) 57 rfl base 47 i0 (.agg #[.int .i64 0,.int .i64 0]) 2 16 Tryz.underlying57 hi hz0 hz1 hz2 rfl (by decide) g n c rfl L HL.out hbg (by omega) HCM.out HLl.out ad m d rfl vs HV.out HVS.out HONE.out (by unfold maxLen;omega) (by omega) ?_;intro A1 c1 w1 hown1 hA1 hb1))
 go_ret
 exact ⟨A1,c1,rfl,hown1.out,hA1.out,hb1.out⟩
theorem xVo {w : World} {base g n c i j m : Nat} {L V : List Value} (hbg : base <= g) (hk : i + m + j <= c) (hcm : c <= maxLen) (hLl : L.length = c * 2) (hn : n = i + 1 + j) (hnc : n <= c) :
  ∀ w' L',Rw w' g 47 L' -> L'.length = L.length -> L'.take ((i + m + j) * 2) = L.take (i * 2) ++ V ++ (L.take (n * 2)).drop ((i + 1) * 2) -> w.grownBy w' (some g) ->
   Replaced w base g (i + m + j) ((L.take (n * 2)).take (i * 2) ++ V ++ (L.take (n * 2)).drop ((i + 1) * 2)) (.returned (.slice (some ⟨g,0,none⟩) (i + m + j) c)) w' := fun w' L' h1 h2 h3 h4 => by
 refine ⟨some ⟨g,0,none⟩,c,rfl,?_,fun b e => Or.inl (by injection e with e;rw [<- e]),h4⟩
 have := xq8 (base := base) (s := 2) (n := i + m + j) (c := c) h1 hbg hk hcm (by omega)
 rw [h3] at this
 rw [List.take_take,Nat.min_eq_left (by omega)]
 exact this
theorem xjs {w : World} {g n i : Nat} {L : List Value} (h : ∀ k,(i + 1) * 2 <= k -> k < n * 2 -> w.cell? ⟨g,k,none⟩ = L[k]?) : CellsAt w (some ⟨g,(i + 1) * 2,none⟩) ((L.take (n * 2)).drop ((i + 1) * 2)) := fun ad ea k u hj => by
 injection ea with ea
 subst ea
 rw [List.getElem?_drop,List.getElem?_take] at hj
 split at hj
 ·rw [Go.WideShapes.add_plain,h _ (by omega) (by omega)];exact hj
 ·cases hj
theorem xwu {α : Type} (L V : List α) (k p : Nat) (h : k + V.length <= p) (hL : k <= L.length) : (splice L k V)[p]? = L[p]? := by
 unfold splice
 rw [List.getElem?_append_right (by rw [List.length_take];omega),List.length_take,Nat.min_eq_left hL,List.getElem?_append_right (by omega),List.getElem?_drop]
 congr 1;omega
set_option maxRecDepth 100000 in
set_option maxHeartbeats 4000000 in
theorem yxb (g i j c d : Nat) (A2 : Option Addr) (xs : List Value) (w : World) (base : Nat) (hown : w.ownsRow base 47 2 (.slice (some ⟨g,0,none⟩) (i + 1 + j) c) (i + 1 + j) xs) (hj : 0 < j) (hn : i + 1 + j <= 65536) (hx1 : ∀ v ∈ xs,v.oneCell' = true) :
  Calls Tryz.prog 257 #[.slice (some ⟨g,0,none⟩) (i + 1 + j) c,.int .i64 (i : Int),.int .i64 ((i : Int) + 1),.slice A2 0 d] w (Replaced w base g (i + 0 + j) (xs.take (i * 2) ++ [] ++ xs.drop ((i + 1) * 2))) := by
 obtain ⟨L,hL,hbg,hnc,hcm,hLl,rfl⟩ := xqj hown
 obtain ⟨n,hnn⟩ : ∃ n,n = i + 1 + j := ⟨_,rfl⟩
 have fin := xVo (w := w) (V := []) (m := 0) (j := j) hbg (by omega) hcm hLl hnn (by omega)
 rw [<- hnn]
 unfold maxLen at hcm
 obtain ⟨D,hD⟩ : ∃ D,D = (L.take (n * 2)).drop ((i + 1) * 2) := ⟨_,rfl⟩
 have hDl : D.length = j * 2 := by rw [hD,List.length_drop,List.length_take];omega
 have hD1 : ∀ v ∈ D,v.oneCell' = true := fun v hv => hx1 v (by rw [hD] at hv;rw [<- hnn];exact List.mem_of_mem_drop hv)
 rw [<- hD] at fin ⊢
 have FIN := hidb fin
 have HL := hidb hL
 have HLl := hidb hLl
 have HD := hidb hD
 have HDl := hidb hDl
 have HD1 := hidb hD1
 have hcn : ¬ c = i := by omega
 have hcn1 : ¬ c = i + 1 := by omega
 have hcn2 : ¬ c = i + j := by omega
 have q1 : IntKind.i64.wrap ((i : Int) + (j : Int)) = (i : Int) + (j : Int) := IntWalk.i64_in _ (by omega)
 have q2 : (0 : Int) <= (i : Int) + (j : Int) := by omega
 have q3 : ((i : Int) + (j : Int)).toNat = i + j := by omega
 have q4 : IntKind.i64.wrap (i : Int) = (i : Int) := IntWalk.i64_in _ (by omega)
 have q5 : (i : Int) <= (i : Int) + (j : Int) := by omega
 have q6 : (i : Int) + 1 <= (i : Int) + 1 + (j : Int) := by omega
 have q7 : (0 : Int) <= (i : Int) + 1 := by omega
 have q8 : ((i : Int) + 1).toNat = i + 1 := by omega
 have HN := hidb hnn
 subst hnn
 clear hown hL hLl hD hDl hD1 hx1 fin
 go_enter Tryz.func257,Tryz.ntmps257
 go_wp2
 go_quiet (fail)
 go_wp2_with (first
  | (refine xza rfl (.tmp 95) (.tmp 96) 57 57 rfl 47 2 (by decide) Tryz.underlying57 xxq _ _ _ _ _ _ rfl rfl g (i * 2) L 47 HL.out.drewN [] (by simp) (by simp) (by have := HLl.out;simp;omega) (by simp) ?_;intro w1 hw1 hb1))
 have HS : Hid (CellsAt w1 (some ⟨g,(i + 1) * 2,none⟩) D) := hidb (by
  rw [HD.out]
  exact xjs (n := i + 1 + j) (fun k hk1 _ => by rw [hw1.out.cell,xwu _ _ _ _ (by simp;omega) (by have := HLl.out;omega)]))
 have hsl : Hid ((splice L (i * 2) []).length = L.length) := hidb (length_splice _ _ _ (by have := HLl.out;simp;omega))
 go_region_law (refine xjk rfl (.tmp 103) (.tmp 106) 57 57 rfl 47 2 (by decide) Tryz.underlying57 xxq (some ⟨g,i * 2,none⟩) (some ⟨g,(i + 1) * 2,none⟩) j (c - i) j (c - (i + 1)) (by simp [Act.eval,Act.put]) (by simp [Act.eval,Act.put]) g (i * 2) _ 47 hw1.out.drew D (by rw [HDl.out];congr 1;exact (Nat.min_self j).symm) (fun _ => ⟨rfl,_,rfl,HS.out⟩) (by have := HLl.out;have := hsl.out;have := HDl.out;omega) HD1.out ?_;intro w2 hw2 hb2)
 have hs2 : Hid ((splice (splice L (i * 2) []) (i * 2) D).length = L.length) := hidb (by rw [length_splice _ _ _ (by have := HLl.out;have := hsl.out;have := HDl.out;omega)];exact hsl.out)
 go_wp2_with (first
  | (refine xqm rfl (.tmp 110) 57 rfl 47 _ Tryz.underlying57 xjr _ g ((i + j) * 2) _ _ rfl _ _ hw2.out (xxh _) (by intro _;exact ⟨rfl,by have := HLl.out;have := hs2.out;rw [xxr];omega⟩) ?_;intro w3 L3 hw3 hb3))
 go_ret
 obtain ⟨r1,r2,r3⟩ := hw3.out
 have hsp := xk6 L [] D (i * 2) (by have := HLl.out;have := HDl.out;simp;omega)
 refine FIN.out w3 L3 r1 (by rw [r2];exact hsp.2) ?_ (grownTrans (grownTrans (grownTrans (grownDrewN (grownSelf _ _) _) hb1.out) (grownTrans (grownDrew (grownSelf _ _)) hb2.out)) hb3.out)
 have e := hsp.1
 rw [HDl.out] at e
 rw [<- e]
 have e2 : (i + 0 + j) * 2 = (i + j) * 2 := by omega
 rw [e2,r3]
 congr 1
 simp;omega
set_option maxRecDepth 100000 in
set_option maxHeartbeats 4000000 in
theorem yxc (g i j c d g2 off2 : Nat) (xs vs : List Value) (w : World) (base : Nat) (hown : w.ownsRow base 47 2 (.slice (some ⟨g,0,none⟩) (i + 1 + j) c) (i + 1 + j) xs) (hj : 0 < j) (hn : i + 1 + j <= 65536) (hx1 : ∀ v ∈ xs,v.oneCell' = true)
  (hv : vs.length = 2) (hvs : CellsAt w (some ⟨g2,off2,none⟩) vs) (hone : ∀ u ∈ vs,u.oneCell' = true) :
  Calls Tryz.prog 257 #[.slice (some ⟨g,0,none⟩) (i + 1 + j) c,.int .i64 (i : Int),.int .i64 ((i : Int) + 1),.slice (some ⟨g2,off2,none⟩) 1 d] w (Replaced w base g (i + 1 + j) (xs.take (i * 2) ++ vs ++ xs.drop ((i + 1) * 2))) := by
 obtain ⟨L,hL,hbg,hnc,hcm,hLl,rfl⟩ := xqj hown
 obtain ⟨n,hnn⟩ : ∃ n,n = i + 1 + j := ⟨_,rfl⟩
 have fin := xVo (w := w) (V := vs) (m := 1) (j := j) hbg (by omega) hcm hLl hnn (by omega)
 rw [<- hnn]
 unfold maxLen at hcm
 obtain ⟨D,hD⟩ : ∃ D,D = (L.take (n * 2)).drop ((i + 1) * 2) := ⟨_,rfl⟩
 have hDl : D.length = j * 2 := by rw [hD,List.length_drop,List.length_take];omega
 have hD1 : ∀ v ∈ D,v.oneCell' = true := fun v hv => hx1 v (by rw [hD] at hv;rw [<- hnn];exact List.mem_of_mem_drop hv)
 rw [<- hD] at fin ⊢
 have FIN := hidb fin
 have HL := hidb hL
 have HLl := hidb hLl
 have HD := hidb hD
 have HDl := hidb hDl
 have HD1 := hidb hD1
 have HV := hidb hv
 have HVS := hidb hvs
 have HONE := hidb hone
 have hcn : ¬ c = i := by omega
 have hcn1 : ¬ c = i + 1 := by omega
 have q1 : IntKind.i64.wrap ((i : Int) + 1) = (i : Int) + 1 := IntWalk.i64_in _ (by omega)
 have q2 : IntKind.i64.wrap ((i : Int) + 1 + (j : Int)) = (i : Int) + 1 + (j : Int) := IntWalk.i64_in _ (by omega)
 have q3 : (0 : Int) <= (i : Int) + 1 + (j : Int) := by omega
 have q4 : ((i : Int) + 1 + (j : Int)).toNat = i + 1 + j := by omega
 have q5 : (i : Int) <= (i : Int) + 1 + (j : Int) := by omega
 have q6 : (i : Int) + 1 <= (i : Int) + 1 + (j : Int) := by omega
 have q7 : (0 : Int) <= (i : Int) + 1 := by omega
 have q8 : ((i : Int) + 1).toNat = i + 1 := by omega
 have q9 : (i : Int) + 1 + (j : Int) <= (c : Int) := by omega
 have HN := hidb hnn
 subst hnn
 clear hown hL hLl hD hDl hD1 hx1 hv hvs hone fin
 have hsl : Hid ((splice L (i * 2) vs).length = L.length) := hidb (length_splice _ _ _ (by have := HLl.out;have := HV.out;omega))
 have hs2 : Hid ((splice (splice L (i * 2) vs) ((i + 1) * 2) D).length = L.length) := hidb (by rw [length_splice _ _ _ (by have := HLl.out;have := hsl.out;have := HDl.out;omega)];exact hsl.out)
 obtain ⟨X,hX⟩ : ∃ X,(if c = i + 1 + j then some (⟨g,0,none⟩ : Addr) else some ⟨g,(i + 1 + j) * 2,none⟩) = X := ⟨_,rfl⟩
 go_enter Tryz.func257,Tryz.ntmps257
 go_wp2
 go_quiet (fail)
 go_wp2_with (first
  | (refine xza rfl (.tmp 95) (.tmp 96) 57 57 rfl 47 2 (by decide) Tryz.underlying57 xxq _ _ _ _ _ _ rfl rfl g (i * 2) L 47 HL.out.drewN vs (by rw [HV.out];first | (simp [Nat.min_def];done) | (simp [Nat.min_def];omega) | (simp only [Nat.min_def];split <;> omega)) (fun _ => ⟨rfl,_,rfl,HVS.out⟩) (by have := HLl.out;have := HV.out;omega) HONE.out ?_;intro w1 hw1 hb1))
 have HS : Hid (CellsAt w1 (some ⟨g,(i + 1) * 2,none⟩) D) := hidb (by
  rw [HD.out]
  exact xjs (n := i + 1 + j) (fun k hk1 _ => by rw [hw1.out.cell,xwu _ _ _ _ (by have := HV.out;omega) (by have := HLl.out;omega)]))
 go_region_law (refine xjk rfl (.tmp 103) (.tmp 106) 57 57 rfl 47 2 (by decide) Tryz.underlying57 xxq (some ⟨g,(i + 1) * 2,none⟩) (some ⟨g,(i + 1) * 2,none⟩) j (c - (i + 1)) j (c - (i + 1)) (by simp [Act.eval,Act.put]) (by simp [Act.eval,Act.put]) g ((i + 1) * 2) _ 47 hw1.out.drew D (by rw [HDl.out];congr 1;exact (Nat.min_self j).symm) (fun _ => ⟨rfl,_,rfl,HS.out⟩) (by have := HLl.out;have := hsl.out;have := HDl.out;omega) HD1.out ?_;intro w2 hw2 hb2)
 go_wp2_with (first
  | (refine xqm rfl (.tmp 110) 57 rfl 47 _ Tryz.underlying57 xjr _ g ((i + 1 + j) * 2) 0 _ rfl _ _ hw2.out (xxh _) (by intro h;exact absurd h (Nat.lt_irrefl 0)) ?_;intro w3 L3 hw3 hb3))
 go_ret
 obtain ⟨r1,r2,r3⟩ := hw3.out
 have hsp := xk6 L vs D (i * 2) (by have := HLl.out;have := HDl.out;have := HV.out;omega)
 rw [HV.out,HDl.out,show i * 2 + 2 = (i + 1) * 2 by omega] at hsp
 refine FIN.out w3 L3 r1 (by rw [r2];exact hsp.2) ?_ (grownTrans (grownTrans (grownTrans (grownDrewN (grownSelf _ _) _) hb1.out) (grownTrans (grownDrew (grownSelf _ _)) hb2.out)) hb3.out)
 rw [r3,<- hsp.1]
 congr 1
 omega
theorem blk_off {g g2 off2 : Nat} (h : g ≠ g2) : ∀ ad : Addr,some (⟨g2,off2,none⟩ : Addr) = some ad -> some ad.block ≠ some g := fun ad e hq => by
 injection e with e
 subst e
 injection hq with hq
 exact h hq.symm
set_option maxRecDepth 100000 in
set_option maxHeartbeats 4000000 in
theorem yxd (g i j c d g2 off2 : Nat) (xs vs L2 : List Value) (w : World) (base : Nat) (hown : w.ownsRow base 47 2 (.slice (some ⟨g,0,none⟩) (i + 1 + j) c) (i + 1 + j) xs) (hj : 0 < j) (hn : i + 1 + j <= 65536) (hx1 : ∀ v ∈ xs,v.oneCell' = true)
  (hv : vs.length = 4) (hvs : CellsAt w (some ⟨g2,off2,none⟩) vs) (hone : ∀ u ∈ vs,u.oneCell' = true) (hne : g ≠ g2) (hL2 : Rw w g2 47 L2) (hl2 : L2.length ≠ 0) (hroom : i + 2 + j <= c) :
  Calls Tryz.prog 257 #[.slice (some ⟨g,0,none⟩) (i + 1 + j) c,.int .i64 (i : Int),.int .i64 ((i : Int) + 1),.slice (some ⟨g2,off2,none⟩) 2 d] w (Replaced w base g (i + 2 + j) (xs.take (i * 2) ++ vs ++ xs.drop ((i + 1) * 2))) := by
 obtain ⟨L,hL,hbg,hnc,hcm,hLl,rfl⟩ := xqj hown
 obtain ⟨n,hnn⟩ : ∃ n,n = i + 1 + j := ⟨_,rfl⟩
 have fin := xVo (w := w) (V := vs) (m := 2) (j := j) hbg (by omega) hcm hLl hnn (by omega)
 rw [<- hnn]
 unfold maxLen at hcm
 obtain ⟨D,hD⟩ : ∃ D,D = (L.take (n * 2)).drop ((i + 1) * 2) := ⟨_,rfl⟩
 have hDl : D.length = j * 2 := by rw [hD,List.length_drop,List.length_take];omega
 have hD1 : ∀ v ∈ D,v.oneCell' = true := fun v hv => hx1 v (by rw [hD] at hv;rw [<- hnn];exact List.mem_of_mem_drop hv)
 rw [<- hD] at fin ⊢
 have FIN := hidb fin
 have HL := hidb hL
 have HLl := hidb hLl
 have HD := hidb hD
 have HDl := hidb hDl
 have HD1 := hidb hD1
 have HV := hidb hv
 have HVS := hidb hvs
 have HONE := hidb hone
 have hcn : ¬ c = i := by omega
 have hcn1 : ¬ c = i + 1 := by omega
 have hcn2 : ¬ c = i + 2 := by omega
 have q0 : IntKind.i64.wrap ((i : Int) + 2) = (i : Int) + 2 := IntWalk.i64_in _ (by omega)
 have q2 : IntKind.i64.wrap ((i : Int) + 2 + (j : Int)) = (i : Int) + 2 + (j : Int) := IntWalk.i64_in _ (by omega)
 have q3 : (0 : Int) <= (i : Int) + 2 + (j : Int) := by omega
 have q4 : ((i : Int) + 2 + (j : Int)).toNat = i + 2 + j := by omega
 have q5 : (i : Int) <= (i : Int) + 2 + (j : Int) := by omega
 have q6 : (i : Int) + 1 <= (i : Int) + 1 + (j : Int) := by omega
 have q7 : (0 : Int) <= (i : Int) + 1 := by omega
 have q8 : ((i : Int) + 1).toNat = i + 1 := by omega
 have q9 : (i : Int) + 2 + (j : Int) <= (c : Int) := by omega
 have q10 : (i : Int) + 2 <= (i : Int) + 2 + (j : Int) := by omega
 have q11 : (0 : Int) <= (i : Int) + 2 := by omega
 have q12 : ((i : Int) + 2).toNat = i + 2 := by omega
 have HN := hidb hnn
 subst hnn
 clear hown hx1 hv hvs hone fin hD hDl hD1
 have hov : ∀ q,(callFunc 290 #[.slice (some ⟨g,(i + 2) * 2,none⟩) j (c - (i + 2)),.slice (some ⟨g2,off2,none⟩) 2 d]).run Tryz.prog (w.drewN q) = .ok (.value (.bool false)) (w.drewN q) := fun q => by
  rw [run_callFunc_extern Tryz.func290 (by kernel_rfl) (by kernel_rfl) (by kernel_rfl) (e := Extern.SlicesOverlaps.overlaps #[57,57] #[4]) (by kernel_rfl),
   xvx (w.drewN q) 57 4 47 Tryz.underlying57 2 Tryz.sizeOf47 g ((i + 2) * 2) g2 off2 j (c - (i + 2)) 2 d hne L L2 _ _ hL.drewN hL2.drewN hl2]
  rfl
 clear hL hLl hL2 hl2
 have hsl : Hid ((splice L (i * 2 + 4) D).length = L.length) := hidb (length_splice _ _ _ (by have := HLl.out;have := HDl.out;omega))
 go_enter Tryz.func257,Tryz.ntmps257
 go_wp2
 go_quiet (fail)
 go_wp2
 have HS : Hid (CellsAt (w.drewN nq) (some ⟨g,(i + 1) * 2,none⟩) D) := hidb (by
  rw [HD.out]
  exact xjs (n := i + 1 + j) (fun k hk1 _ => by exact HL.out.cell k))
 go_region_law (refine xjk rfl (.tmp 126) (.tmp 129) 57 57 rfl 47 2 (by decide) Tryz.underlying57 xxq (some ⟨g,(i + 2) * 2,none⟩) (some ⟨g,(i + 1) * 2,none⟩) j (c - (i + 2)) j (c - (i + 1)) (by simp [Act.eval,Act.put]) (by simp [Act.eval,Act.put]) g (i * 2 + 4) _ 47 (show Rw _ _ _ L from HL.out) D (by rw [HDl.out];congr 1;exact (Nat.min_self j).symm) (fun _ => ⟨by rw [Nat.add_mul],_,rfl,HS.out⟩) (by have := HLl.out;have := HDl.out;omega) HD1.out ?_;intro w2 hw2 hb2)
 have HV2 : Hid (CellsAt w2 (some ⟨g2,off2,none⟩) vs) := hidb (HVS.out.grownBy (grownTrans (grownDrew (grownDrewN (grownSelf (some g) w) nq)) hb2.out) (blk_off hne))
 go_wp2_with (first
  | (refine xza rfl (.tmp 133) (.tmp 134) 57 57 rfl 47 2 (by decide) Tryz.underlying57 xxq _ _ _ _ _ _ rfl rfl g (i * 2) _ 47 hw2.out vs (by rw [HV.out];first | (simp [Nat.min_def];done) | (simp [Nat.min_def];omega) | (simp only [Nat.min_def];split <;> omega)) (fun _ => ⟨rfl,_,rfl,HV2.out⟩) (by have := HLl.out;have := HV.out;have := hsl.out;omega) HONE.out ?_;intro w3 hw3 hb3))
 go_ret
 have hsp := xVn L vs D (i * 2) (by have := HLl.out;have := HDl.out;have := HV.out;omega)
 rw [HV.out,HDl.out] at hsp
 refine FIN.out w3 _ hw3.out hsp.2 ?_ (grownTrans (grownTrans (grownDrew (grownDrewN (grownSelf _ _) _)) hb2.out) hb3.out)
 rw [<- hsp.1]
 congr 1
 omega
set_option maxRecDepth 100000 in
set_option maxHeartbeats 4000000 in
theorem xZi (g i j c d g2 off2 : Nat) (xs vs : List Value) (w : World) (base : Nat) (hown : w.ownsRow base 47 2 (.slice (some ⟨g,0,none⟩) (i + 1 + j) c) (i + 1 + j) xs) (hj : 0 < j) (hn : i + 1 + j <= 65536) (hx1 : ∀ v ∈ xs,v.oneCell' = true) (hbase : base <= w.heap.size)
  (hv : vs.length = 4) (hvs : CellsAt w (some ⟨g2,off2,none⟩) vs) (hone : ∀ u ∈ vs,u.oneCell' = true) (hg2 : g2 < w.heap.size) (hroom : c < i + 2 + j) :
  Calls Tryz.prog 257 #[.slice (some ⟨g,0,none⟩) (i + 1 + j) c,.int .i64 (i : Int),.int .i64 ((i : Int) + 1),.slice (some ⟨g2,off2,none⟩) 2 d] w (Replaced w base g (i + 2 + j) (xs.take (i * 2) ++ vs ++ xs.drop ((i + 1) * 2))) := by
 obtain ⟨i0,hi,hz0,hz1,hz2⟩ := info_parts xxt
 obtain ⟨L,hL,hbg,hnc,hcm,hLl,rfl⟩ := xqj hown
 have hglt := hL.lt
 obtain ⟨n,hnn⟩ : ∃ n,n = i + 1 + j := ⟨_,rfl⟩
 rw [<- hnn]
 unfold maxLen at hcm
 obtain ⟨D,hD⟩ : ∃ D,D = (L.take (n * 2)).drop ((i + 1) * 2) := ⟨_,rfl⟩
 have hDl : D.length = j * 2 := by rw [hD,List.length_drop,List.length_take];omega
 have hD1 : ∀ v ∈ D,v.oneCell' = true := fun v hv => hx1 v (by rw [hD] at hv;rw [<- hnn];exact List.mem_of_mem_drop hv)
 rw [<- hD]
 have HX : Hid ((L.take (n * 2)).take (i * 2) = L.take (i * 2)) := hidb (by rw [List.take_take,Nat.min_eq_left (by omega)])
 rw [HX.out]
 have HL := hidb hL
 have HLl := hidb hLl
 have HD := hidb hD
 have HDl := hidb hDl
 have HD1 := hidb hD1
 have HV := hidb hv
 have HVS := hidb hvs
 have HONE := hidb hone
 have hcn : ¬ c = i := by omega
 have hcn1 : ¬ c = i + 1 := by omega
 have q0 : IntKind.i64.wrap ((i : Int) + 2) = (i : Int) + 2 := IntWalk.i64_in _ (by omega)
 have q2 : IntKind.i64.wrap ((i : Int) + 2 + (j : Int)) = (i : Int) + 2 + (j : Int) := IntWalk.i64_in _ (by omega)
 have q5 : (i : Int) <= (i : Int) + (2 + (j : Int)) := by omega
 have q6 : (i : Int) + 1 <= (i : Int) + 1 + (j : Int) := by omega
 have q7 : (0 : Int) <= (i : Int) + 1 := by omega
 have q8 : ((i : Int) + 1).toNat = i + 1 := by omega
 have q9 : (c : Int) < (i : Int) + 2 + (j : Int) := by omega
 have q10 : (i : Int) + 2 <= (i : Int) + (2 + (j : Int)) := by omega
 have q11 : (0 : Int) <= (i : Int) + 2 := by omega
 have q12 : ((i : Int) + 2).toNat = i + 2 := by omega
 have HN := hidb hnn
 subst hnn
 have HOLD : Hid (∀ q,CellsAt (w.drewN q) (some ⟨g,0,none⟩) (L.take (i * 2))) := hidb (fun q => hL.drewN.cells 0 _ (fun k u hk => by
  rw [List.getElem?_take] at hk
  split at hk
  ·rw [Nat.zero_add];exact hk
  ·cases hk))
 obtain ⟨R,hR⟩ : ∃ R,L.take (i * 2) ++ vs ++ D = R := ⟨_,rfl⟩
 rw [hR]
 have HR := hidb hR
 clear hown hx1 hv hvs hone hD hDl hD1 hL hLl HX hR
 go_enter Tryz.func257,Tryz.ntmps257
 go_wp2
 go_quiet (fail)
 go_wp2_with (first
  | (at_builtin;refine xk1 rfl (.tmp 63) (.tmp 66) 57 3 rfl 47 i0 (.agg #[.int .i64 0,.int .i64 0]) 2 16 Tryz.underlying57 Tryz.underlying3 hi hz0 hz1 hz2 rfl (by decide) g i c rfl (L.take (i * 2)) (by have := HLl.out;rw [List.length_take];omega) (HOLD.out _) (2 + j) _ (by omega) rfl (by omega) (by omega) (by omega) (by omega) ?_;intro w1 G L1 h1 hb1;obtain ⟨hg1,hg2,hg3⟩ : i + 2 + j <= G /\ ¬ G = i /\ ¬ G = i + 2 := (by have := h1.out.2.1;omega);have hg4 : G <= 9223372036854775807 := (by have := h1.out.2.2.1;unfold maxLen at this;omega);have HL1 : Hid (Rw w1 w.heap.size 47 L1) := (hidb h1.out.1);have HL1l : Hid (L1.length = G * 2) := (hidb h1.out.2.2.2.1);have HG : Hid (g ≠ w.heap.size) := (hidb (by omega));have HB1 : Hid (w.grownBy w1 none) := (hidb (grownTrans (grownDrewN (grownSelf _ _) _) hb1.out));have HV1 : Hid (CellsAt w1 (some ⟨g2,off2,none⟩) vs) := (hidb (HVS.out.grownBy HB1.out (fun ad e h => by cases h))))
  | (refine xza rfl (.tmp 70) (.tmp 71) 57 57 rfl 47 2 (by decide) Tryz.underlying57 xxq _ _ _ _ _ _ rfl rfl w.heap.size (i * 2) _ 47 HL1.out vs (by rw [HV.out];first | (simp [Nat.min_def];done) | (simp [Nat.min_def];omega) | (simp only [Nat.min_def];split <;> omega)) (fun _ => ⟨rfl,_,rfl,HV1.out⟩) (by have := HL1l.out;have := HV.out;omega) HONE.out ?_;intro w2 hw2 hb2))
 have hsl : Hid ((splice L1 (i * 2) vs).length = L1.length) := hidb (length_splice _ _ _ (by have := HL1l.out;have := HV.out;omega))
 have HB2 : Hid (w.grownBy w2 none) := hidb (grownNew HB1.out (Nat.le_refl _) hb2.out)
 have HS : Hid (CellsAt w2 (some ⟨g,(i + 1) * 2,none⟩) D) := hidb (by
  rw [HD.out]
  refine xjs (n := i + 1 + j) (fun k hk1 _ => ?_)
  have h := HL.out.grown (r := none) HB2.out (by simp)
  exact h.cell k)
 go_region_law (refine xjk rfl (.tmp 78) (.tmp 81) 57 57 rfl 47 2 (by decide) Tryz.underlying57 xxq (some ⟨w.heap.size,(i + 2) * 2,none⟩) (some ⟨g,(i + 1) * 2,none⟩) j (G - (i + 2)) j (c - (i + 1)) (by simp [Act.eval,Act.put];omega) (by simp [Act.eval,Act.put]) w.heap.size (i * 2 + 4) _ 47 hw2.out.drew D (by rw [HDl.out];congr 1;exact (Nat.min_self j).symm) (fun _ => ⟨by rw [Nat.add_mul],_,rfl,HS.out⟩) (by have := HL1l.out;have := hsl.out;have := HDl.out;omega) HD1.out ?_;intro w3 hw3 hb3)
 go_wp2
 go_ret
 have hsp := xk6 L1 vs D (i * 2) (by have := HL1l.out;have := HDl.out;have := HV.out;omega)
 rw [HV.out,HDl.out,h1.out.2.2.2.2] at hsp
 refine ⟨some ⟨w.heap.size,0,none⟩,G,by rw [show i + 2 + j = i + (2 + j) by omega];rfl,?_,fun b e => Or.inr (by injection e with e;rw [<- e];exact Nat.le_refl _),grownNone (grownNew HB2.out (Nat.le_refl _) (grownTrans (grownDrew (grownSelf _ _)) hb3.out))⟩
 have := xq8 (base := base) (s := 2) (n := i + 2 + j) (c := G) hw3.out hbase hg1 h1.out.2.2.1 (by rw [hsp.2];exact HL1l.out)
 rw [show (i + 2 + j) * 2 = i * 2 + 4 + j * 2 by omega,hsp.1,HR.out] at this
 exact this
theorem xJz (g i n c m d : Nat) (A2 : Option Addr) (xs vs : List Value) (w : World) (base base2 : Nat) (hown : w.ownsRow base 47 2 (.slice (some ⟨g,0,none⟩) n c) n xs) (hi : i < n) (hn : n <= 65536) (hx1 : ∀ v ∈ xs,v.oneCell' = true) (hbase : base <= w.heap.size)
  (hv : w.ownsRow base2 47 2 (.slice A2 m d) m vs) (hm : m <= 2) (hone : ∀ u ∈ vs,u.oneCell' = true) (hne : ∀ b,(Value.slice A2 m d).ownBlock = some b -> b ≠ g) :
  Calls Tryz.prog 257 #[.slice (some ⟨g,0,none⟩) n c,.int .i64 (i : Int),.int .i64 ((i : Int) + 1),.slice A2 m d] w (Replaced w base g (n - 1 + m) (xs.take (i * 2) ++ vs ++ xs.drop ((i + 1) * 2))) := by
 have hvl : vs.length = m * 2 := hv.1
 have hxl : xs.length = n * 2 := hown.1
 have src : 0 < m -> ∃ g2 L2,A2 = some ⟨g2,0,none⟩ /\ CellsAt w (some ⟨g2,0,none⟩) vs /\ Rw w g2 47 L2 /\ L2.length ≠ 0 /\ g ≠ g2 /\ g2 < w.heap.size := fun h => by
  have hA : ∃ g2,A2 = some ⟨g2,0,none⟩ := by
   rcases hv.2 with ⟨_,h0⟩ | ⟨g2,cap,cur,h1,_⟩
   ·omega
   ·injection h1 with e1;exact ⟨g2,e1⟩
  obtain ⟨g2,rfl⟩ := hA
  obtain ⟨L2,h1,_,h3,_,h5,h6⟩ := xqj hv
  refine ⟨g2,L2,rfl,?_,h1,by omega,fun e => hne g2 rfl e.symm,h1.lt⟩
  have := h1.cells 0 vs (fun j u hj => by
   rw [h6,List.getElem?_take] at hj
   split at hj
   ·rw [Nat.zero_add];exact hj
   ·cases hj)
  exact this
 have SRC := hidb src
 clear src
 by_cases hl : i + 1 = n
 ·subst hl
  have hd : xs.drop ((i + 1) * 2) = [] := List.drop_of_length_le (by omega)
  rw [hd,List.append_nil,show i + 1 - 1 + m = i + m by omega]
  by_cases hm0 : m = 0
  ·subst hm0
   obtain rfl : vs = [] := List.eq_nil_of_length_eq_zero (by omega)
   rw [List.append_nil]
   exact xQk g i c d A2 xs w base hown (by omega)
  ·obtain ⟨g2,L2,rfl,h1,_⟩ := SRC.out (by omega)
   exact xZh g i c m d _ xs vs w base hown (by omega) (by omega) hm hvl h1 hone
 ·obtain ⟨j,rfl⟩ : ∃ j,n = i + 1 + j := ⟨n - i - 1,by omega⟩
  rw [show i + 1 + j - 1 + m = i + m + j by omega]
  have h012 : m = 0 \/ m = 1 \/ m = 2 := by omega
  rcases h012 with rfl | rfl | rfl
  ·obtain rfl : vs = [] := List.eq_nil_of_length_eq_zero (by omega)
   exact yxb g i j c d A2 xs w base hown (by omega) hn hx1
  ·obtain ⟨g2,L2,rfl,h1,h2,h3,h4,h5⟩ := SRC.out (by omega)
   exact yxc g i j c d g2 0 xs vs w base hown (by omega) hn hx1 (by omega) h1 hone
  ·obtain ⟨g2,L2,rfl,h1,h2,h3,h4,h5⟩ := SRC.out (by omega)
   by_cases hr : i + 2 + j <= c
   ·exact yxd g i j c d g2 0 xs vs L2 w base hown (by omega) hn hx1 (by omega) h1 hone h4 h2 h3 hr
   ·exact xZi g i j c d g2 0 xs vs w base hown (by omega) hn hx1 hbase (by omega) h1 hone h5 (by omega)
end Go.Proofs.YtlcdgmjinhbncaaGreat
namespace Go.Proofs.YtlcdgmjinhbncaaGreat
open Go.RowKit Go.Shelf
set_option linter.unusedVariables false
theorem Rw.setCell {w : World} {g : Nat} {e : TypeId} {L : List Value} (h : Rw w g e L) (j : Nat) (u : Value) : Rw (w.setCell ⟨g,j,none⟩ u) g e (L.set j u) := by
 unfold Rw at h ⊢
 rw [heap_setCell_same w g j L.toArray e u h]
 simp
theorem grownCell {w w' : World} {g : Nat} (h : w.grownBy w' (some g)) (j : Nat) (u : Value) : w.grownBy (w'.setCell ⟨g,j,none⟩ u) (some g) :=
 ⟨h.os,h.tape,h.output,by simpa using h.size,fun k hk hr => (heap_setCell_other w' ⟨g,j,none⟩ k u (fun e => hr (by rw [e]))).trans (h.block k hk hr)⟩
theorem xv9 (s l : Int) (W : World) :
  Calls Tryz.prog 294 #[.agg #[.int .i64 s,.int .i64 l]] W fun e w' => e = .returned (.bool (l == 0)) /\ Below W.heap.size W w' := by
 go_enter Tryz.func294,Tryz.ntmps294
 go_wp2
 go_ret
 exact ⟨rfl,(Below.refl _ _).alloc (Nat.le_refl _) _⟩
def Deleted (w : World) (base g : Nat) (rs : List (Int × Int)) (e : Ending) (w' : World) : Prop :=
 e = .returned (.slice (some ⟨g,0,none⟩) rs.length 2) /\ w'.ownsRow base 47 2 (.slice (some ⟨g,0,none⟩) rs.length 2) rs.length (rcells rs) /\ w.grownBy w' (some g)
set_option maxRecDepth 100000 in
set_option maxHeartbeats 2000000 in
theorem yxe (g : Nat) (a1 a2 b1 b2 : Int) (w : World) (base : Nat) (hL : Rw w g 47 [iv a1,iv a2,iv b1,iv b2]) (hbg : base <= g) :
  Calls Tryz.prog 293 #[.slice (some ⟨g,0,none⟩) 2 2,.func (.func 294) #[] #[]] w (Deleted w base g ([(a1,a2),(b1,b2)].filter fun y => !(y.2 == 0))) := by
 have eg : ∀ args w,(callFunc 294 args).run Tryz.prog w = .ok (.enter 294 args) w := enters_of Tryz.func294 (by kernel_rfl) rfl
 have hown : w.ownsRow base 47 2 (.slice (some ⟨g,0,none⟩) 2 2) 2 (rcells [(a1,a2),(b1,b2)]) := xq8 (s := 2) (n := 2) (c := 2) hL hbg (Nat.le_refl _) (by unfold maxLen;omega) rfl
 have ci := xv8 (some ⟨g,0,none⟩) 2 2 [(a1,a2),(b1,b2)] w (Rn.of_own hown rfl) (by omega) 294 #[] (fun y => y.2 == 0) eg (fun W x _ hb => (xv9 x.1 x.2 W).mono fun e w' ⟨h1,h2⟩ => ⟨h1,hb.trans (h2.mono hb.size)⟩)
 have hlt := hL.lt
 have HOWN := hidb hown
 have HL := hidb hL
 have whole : ∀ w' L,Rw w' g 47 L -> L.length = 4 -> ∀ (n : Nat) (rs : List (Int × Int)),n <= 2 -> rs.length = n -> L.take (n * 2) = rcells rs -> w.grownBy w' (some g) -> Deleted w base g rs (.returned (.slice (some ⟨g,0,none⟩) n 2)) w' := fun w' L h1 h2 n rs h3 h4 h5 h6 => by
  subst h4
  refine ⟨rfl,?_,h6⟩
  rw [<- h5]
  exact xq8 (s := 2) (c := 2) h1 hbg h3 (by unfold maxLen;omega) (by omega)
 have WH := hidb whole
 clear hown hL whole
 have ce0 := fun W => xv9 b1 0 W
 have ce1 := fun (h : b2 ≠ 0) W => by
  have c := xv9 b1 b2 W
  rw [show (b2 == 0) = false by simpa using h] at c
  exact c
 have cells : ∀ w',Below w.heap.size w w' -> w'.cell? ⟨g,2,none⟩ = some (.int .i64 b1) /\ w'.cell? ⟨g,3,none⟩ = some (.int .i64 b2) /\ w'.cell? ⟨g,0,none⟩ = some (.int .i64 a1) /\ w'.cell? ⟨g,1,none⟩ = some (.int .i64 a2) /\ w'.frozen? ⟨g,0,none⟩ = false /\ w'.frozen? ⟨g,1,none⟩ = false := fun w' hb => by
  have h := HL.out.below hb hlt
  exact ⟨h.cell 2,h.cell 3,h.cell 0,h.cell 1,h.free 0,h.free 1⟩
 have CELLS := hidb cells
 clear cells
 by_cases ha : a2 = 0
 ·subst ha
  by_cases hb : b2 = 0
  ·subst hb
   have e1 : idxR (fun y : Int × Int => y.2 == 0) [(a1,0),(b1,0)] = 0 := xkm (i := 0) (r := (a1,0)) rfl rfl (fun j h => absurd h (Nat.not_lt_zero _))
   have e2 : ([(a1,(0 : Int)),(b1,0)].filter fun y => !(y.2 == 0)) = [] := by simp
   rw [e1] at ci
   rw [e2]
   clear e1 e2
   go_enter Tryz.func293,Tryz.ntmps293
   go_wp2_with (first | (go_at_call 287;(with_reducible refine ci.mono ?_);rintro e w1 ⟨rfl,hb1⟩;obtain ⟨c2,c3,c0,c1,f0,f1⟩ := CELLS.out _ hb1;have hz1 := hb1.size))
   refine wp_loop_rounds 2 ?_
   rw [rounds_succ]
   go_wp2_with (first | (go_at_call 294;(with_reducible refine (ce0 _).mono ?_);rintro e w2 ⟨rfl,hb2⟩))
   rw [rounds_succ]
   have hL2 : Hid (Rw w2 g 47 _) := hidb ((HL.out.below hb1 hlt).alloc (.cells #[.int .i64 b1,.int .i64 0] 47) |>.below hb2 (by simp;omega))
   go_wp2_with (first
    | (refine xqm rfl (.tmp 38) 57 rfl 47 _ Tryz.underlying57 xjr _ g 0 _ _ rfl _ _ hL2.out (xxh _) (by intro _;exact ⟨rfl,by rw [xxr];simp⟩) ?_;intro w3 L3 hw3 hb3))
   go_ret
   exact WH.out w3 L3 hw3.out.1 hw3.out.2.1 0 [] (by omega) rfl rfl (grownTrans (grownBelow (hb1.trans (((Below.refl _ _).alloc hz1 _).trans (hb2.mono (by simp;omega)))) _) hb3.out)
  ·have e1 : idxR (fun y : Int × Int => y.2 == 0) [(a1,0),(b1,b2)] = 0 := xkm (i := 0) (r := (a1,0)) rfl rfl (fun j h => absurd h (Nat.not_lt_zero _))
   have e2 : ([(a1,(0 : Int)),(b1,b2)].filter fun y => !(y.2 == 0)) = [(b1,b2)] := by simp [hb]
   rw [e1] at ci
   rw [e2]
   have ce := ce1 hb
   clear e1 e2 hb ce0 ce1
   go_enter Tryz.func293,Tryz.ntmps293
   go_wp2_with (first | (go_at_call 287;(with_reducible refine ci.mono ?_);rintro e w1 ⟨rfl,hb1⟩;obtain ⟨c2,c3,c0,c1,f0,f1⟩ := CELLS.out _ hb1;have hz1 := hb1.size))
   refine wp_loop_rounds 2 ?_
   rw [rounds_succ]
   have hne : g ≠ w1.heap.size := by omega
   have HB1 := hidb hb1
   go_wp2_with (first | (go_at_call 294;(with_reducible refine (ce _).mono ?_);rintro e w2 ⟨rfl,hb2⟩;have hb3 := (hb1.trans (((Below.refl _ _).alloc hz1 (.cells #[.int .i64 b1,.int .i64 b2] 47)).trans (hb2.mono (by simp;omega))));obtain ⟨d2,d3,d0,d1,g0,g1⟩ := CELLS.out _ hb3;have q0 : w2.cell? ⟨w1.heap.size,0,none⟩ = some (.int .i64 b1) := (by rw [hb2.cell (by simp)];simp);have q1 : w2.cell? ⟨w1.heap.size,1,none⟩ = some (.int .i64 b2) := (by rw [hb2.cell (by simp)];simp)))
   rw [rounds_succ]
   have hL2 : Hid (Rw ((w2.setCell ⟨g,0,none⟩ (.int .i64 b1)).setCell ⟨g,1,none⟩ (.int .i64 b2)) g 47 [iv b1,iv b2,iv b1,iv b2]) := hidb (((HL.out.below hb3 hlt).setCell 0 _).setCell 1 _)
   have hg2 : Hid (w.grownBy ((w2.setCell ⟨g,0,none⟩ (.int .i64 b1)).setCell ⟨g,1,none⟩ (.int .i64 b2)) (some g)) := hidb (grownCell (grownCell (grownBelow hb3 _) 0 _) 1 _)
   go_wp2_with (first
    | (refine xqm rfl (.tmp 38) 57 rfl 47 _ Tryz.underlying57 xjr _ g 2 _ _ rfl _ _ hL2.out (xxh _) (by intro _;exact ⟨rfl,by rw [xxr];simp⟩) ?_;intro w3 L3 hw3 hb3'))
   go_ret
   exact WH.out w3 L3 hw3.out.1 hw3.out.2.1 1 [(b1,b2)] (by omega) rfl hw3.out.2.2 (grownTrans hg2.out hb3'.out)
 ·by_cases hb : b2 = 0
  ·subst hb
   have e1 : idxR (fun y : Int × Int => y.2 == 0) [(a1,a2),(b1,0)] = 1 := xkm (i := 1) (r := (b1,0)) rfl rfl (fun j h y hy => by
    obtain rfl : j = 0 := by omega
    obtain rfl := Option.some.inj hy
    simpa using ha)
   have e2 : ([(a1,a2),(b1,(0 : Int))].filter fun y => !(y.2 == 0)) = [(a1,a2)] := by simp [ha]
   rw [e1] at ci
   rw [e2]
   clear e1 e2 ha
   go_enter Tryz.func293,Tryz.ntmps293
   go_wp2_with (first | (go_at_call 287;(with_reducible refine ci.mono ?_);rintro e w1 ⟨rfl,hb1⟩;have hz1 := hb1.size))
   refine wp_loop_rounds 1 ?_
   rw [rounds_succ]
   have hL2 : Hid (Rw w1 g 47 [iv a1,iv a2,iv b1,iv 0]) := hidb (HL.out.below hb1 hlt)
   go_wp2_with (first
    | (refine xqm rfl (.tmp 38) 57 rfl 47 _ Tryz.underlying57 xjr _ g 2 _ _ rfl _ _ hL2.out (xxh _) (by intro _;exact ⟨rfl,by rw [xxr];simp⟩) ?_;intro w3 L3 hw3 hb3))
   go_ret
   exact WH.out w3 L3 hw3.out.1 hw3.out.2.1 1 [(a1,a2)] (by omega) rfl hw3.out.2.2 (grownTrans (grownBelow hb1 _) hb3.out)
  ·have e1 : idxR (fun y : Int × Int => y.2 == 0) [(a1,a2),(b1,b2)] = -1 := xJx (fun r hr => by
    rcases List.mem_cons.1 hr with rfl | hr
    ·simpa using ha
    ·obtain rfl := List.mem_singleton.1 hr
     simpa using hb)
   have e2 : ([(a1,a2),(b1,b2)].filter fun y => !(y.2 == 0)) = [(a1,a2),(b1,b2)] := by simp [ha,hb]
   rw [e1] at ci
   rw [e2]
   clear e1 e2 ha hb
   go_enter Tryz.func293,Tryz.ntmps293
   go_wp2_with (first | (go_at_call 287;(with_reducible refine ci.mono ?_);rintro e w1 ⟨rfl,hb1⟩))
   go_ret
   exact WH.out w1 _ (HL.out.below hb1 hlt) rfl 2 [(a1,a2),(b1,b2)] (by omega) rfl rfl (grownBelow hb1 _)
set_option maxRecDepth 100000 in
set_option maxHeartbeats 2000000 in
theorem yjd (f1 f2 x1 x2 : Int) (w : World) (h1 : 0 <= f1) (h2 : 0 <= f2) (h3 : f1 + f2 <= 1024) (h4 : 0 <= x1) (h5 : 0 <= x2) (h6 : x1 + x2 <= 1024) :
  Calls Tryz.prog 258 #[.agg #[.int .i64 f1,.int .i64 f2],.agg #[.int .i64 x1,.int .i64 x2]] w (OwnRuns w (leftL (f1,f2) (x1,x2))) := by
 obtain ⟨W1,hW1⟩ : ∃ W1,W1 = ((w.alloc (.cells #[.int .i64 f1,.int .i64 f2] 47)).alloc (.cells #[.int .i64 x1,.int .i64 x2] 47)).alloc (.cells #[.int .i64 f1,.int .i64 (x1 - f1)] 47) := ⟨_,rfl⟩
 have hz : W1.heap.size = w.heap.size + 1 + 1 + 1 := by rw [hW1];simp
 have q0 : W1.cell? ⟨w.heap.size,0,none⟩ = some (.int .i64 f1) := by rw [hW1,World.cell?_alloc_lt _ _ ⟨w.heap.size,0,none⟩ (by simp;omega),World.cell?_alloc_lt _ _ ⟨w.heap.size,0,none⟩ (by simp)];simp
 have q1 : W1.cell? ⟨w.heap.size,1,none⟩ = some (.int .i64 f2) := by rw [hW1,World.cell?_alloc_lt _ _ ⟨w.heap.size,1,none⟩ (by simp;omega),World.cell?_alloc_lt _ _ ⟨w.heap.size,1,none⟩ (by simp)];simp
 have q2 : W1.cell? ⟨w.heap.size + 1,0,none⟩ = some (.int .i64 x1) := by rw [hW1,World.cell?_alloc_lt _ _ ⟨w.heap.size + 1,0,none⟩ (by simp)];simp
 have q3 : W1.cell? ⟨w.heap.size + 1,1,none⟩ = some (.int .i64 x2) := by rw [hW1,World.cell?_alloc_lt _ _ ⟨w.heap.size + 1,1,none⟩ (by simp)];simp
 have a0 : W1.cell? ⟨w.heap.size + 1 + 1,0,none⟩ = some (.int .i64 f1) := by rw [hW1];exact World.cell?_alloc_at _ _ _ 0 (by simp)
 have a1 : W1.cell? ⟨w.heap.size + 1 + 1,1,none⟩ = some (.int .i64 (x1 - f1)) := by rw [hW1];exact World.cell?_alloc_at _ _ _ 1 (by simp)
 have HB1 : Hid (Below w.heap.size w W1) := hidb (by rw [hW1];exact (((Below.refl _ _).alloc (Nat.le_refl _) _).alloc (by simp) _).alloc (by simp;omega) _)
 have HW1 := hidb hW1
 clear hW1
 have HQ : Hid (∀ W',Below W1.heap.size W1 W' -> W'.cell? ⟨w.heap.size,0,none⟩ = some (.int .i64 f1) /\ W'.cell? ⟨w.heap.size,1,none⟩ = some (.int .i64 f2) /\ W'.cell? ⟨w.heap.size + 1,0,none⟩ = some (.int .i64 x1) /\ W'.cell? ⟨w.heap.size + 1,1,none⟩ = some (.int .i64 x2)) := hidb (fun W' hb => by
  have k := fun (p : Addr) (hp : p.block < W1.heap.size) => hb.cell hp
  rw [k ⟨w.heap.size,0,none⟩ (by show w.heap.size < _;omega),k ⟨w.heap.size,1,none⟩ (by show w.heap.size < _;omega),k ⟨w.heap.size + 1,0,none⟩ (by show w.heap.size + 1 < _;omega),k ⟨w.heap.size + 1,1,none⟩ (by show w.heap.size + 1 < _;omega)]
  exact ⟨q0,q1,q2,q3⟩)
 have cx := fun W => xjq x1 x2 W (by omega) (by omega)
 have cf := fun W => xjq f1 f2 W (by omega) (by omega)
 have hb00 : Below W1.heap.size W1 W1 := Below.refl _ _
 have hb0 : Below W1.heap.size W1 W1.drew := (Below.refl _ _).drew
 have HZ := hidb hz
 have hze : w.heap.size + 1 + 1 < W1.heap.size := by omega
 have hzf : ¬ W1.heap.size = w.heap.size + 1 + 1 := by omega
 have hza : w.heap.size < W1.heap.size := by omega
 have hzb : w.heap.size + 1 < W1.heap.size := by omega
 have hzc : ¬ W1.heap.size = w.heap.size := by omega
 have hzd : ¬ W1.heap.size = w.heap.size + 1 := by omega
 have hwr : IntKind.i64.wrap (f1 + f2 - (x1 + x2)) = f1 + f2 - (x1 + x2) := IntWalk.i64_in _ (by omega)
 clear hz
 have cd : ∀ W b,Below W1.heap.size W1 W -> W.heap.size = b -> Calls Tryz.prog 293 #[.slice (some ⟨b,0,none⟩) 2 2,.func (.func 294) #[] #[]] ((W.alloc (.cells #[.int .i64 f1,.int .i64 (x1 - f1),.int .i64 (x1 + x2),.int .i64 (f1 + f2 - (x1 + x2))] 47)).drew) (OwnRuns w (leftL (f1,f2) (x1,x2))) := fun W b hb he => by
  subst he
  have hRw : Rw ((W.alloc (.cells #[.int .i64 f1,.int .i64 (x1 - f1),.int .i64 (x1 + x2),.int .i64 (f1 + f2 - (x1 + x2))] 47)).drew) W.heap.size 47 [iv f1,iv (x1 - f1),iv (x1 + x2),iv (f1 + f2 - (x1 + x2))] := by
   show (W.heap.push _)[W.heap.size]? = _
   simp [iv]
  have hsz := hb.size
  refine (yxe W.heap.size f1 (x1 - f1) (x1 + x2) (f1 + f2 - (x1 + x2)) _ w.heap.size hRw (by have := HZ.out;omega)).mono ?_
  rintro e w' ⟨rfl,h2,h3⟩
  refine ⟨_,_,rfl,h2,?_⟩
  have hB : Below w.heap.size w W := HB1.out.trans (hb.mono (by have := HZ.out;omega))
  exact ((hB.alloc (by have := HZ.out;omega) _).drew).grown h3 (by have := HZ.out;show w.heap.size <= (W.heap.push _).size;simp;omega) (fun k hk => by cases hk;have := HZ.out;omega)
 go_enter Tryz.func258,Tryz.ntmps258
 go_wp2
 rw [<- HW1.out]
 go_region_held3 (fun W' => W'.cell? ⟨w.heap.size,0,none⟩ = some (.int .i64 f1) /\ W'.cell? ⟨w.heap.size,1,none⟩ = some (.int .i64 f2) /\ W'.cell? ⟨w.heap.size + 1,0,none⟩ = some (.int .i64 x1) /\ W'.cell? ⟨w.heap.size + 1,1,none⟩ = some (.int .i64 x2))
  (first | (go_keep;done) | (refine HQ.out _ ?_;repeat (first | apply Below.drew | exact Below.refl _ _ | refine Below.setCell ?_ (by first | (simp;done) | (simp;omega)) _ | refine Below.alloc ?_ (by first | (simp;done) | (simp;omega)) _)))
  (first | (go_at_call 284;first
   | ((with_reducible refine (cx _).mono ?_);rintro e w3 ⟨rfl,rfl⟩)
   | ((with_reducible refine (cf _).mono ?_);rintro e w3 ⟨rfl,rfl⟩)))
 all_goals
  go_wp2_with (first | (go_at_call 293;(with_reducible refine (cd _ _ (by repeat (first | apply Below.drew | exact Below.refl _ _ | refine Below.setCell ?_ (by first | (simp;done) | (simp;omega)) _ | refine Below.alloc ?_ (by first | (simp;done) | (simp;omega)) _)) (by simp)).mono ?_);rintro e w9 ⟨A9,c9,rfl,ho9,hb9⟩))
  go_ret
  exact ⟨A9,c9,rfl,ho9,hb9⟩
theorem xVp (init : List (Int × Int)) (y : Int × Int) (v : Int) : (rcells (init ++ [y])).set (init.length * 2 + 1) (iv v) = rcells (init ++ [(y.1,v)]) := by
 rw [xqb,xqb,List.set_append_right _ _ (by rw [xq6];omega),xq6]
 rw [show init.length * 2 + 1 - init.length * 2 = 1 by omega];rfl
set_option maxRecDepth 100000 in
set_option maxHeartbeats 4000000 in
theorem xVq (A : Option Addr) (n c : Nat) (rs : List (Int × Int)) (w : World) (hs : Rn w w.heap.size A n rs) (hn : n <= 65536) (hm : ∀ r ∈ rs,0 <= r.1 /\ 1 <= r.2 /\ r.1 + r.2 <= 1024) (hp : rs.Pairwise fun a b => a.1 + a.2 <= b.1) :
  Calls Tryz.prog 248 #[.slice A n c] w (OwnRuns w (joinedL rs)) := by
 obtain ⟨i0,hi,hz0,hz1,hz2⟩ := info_parts xxt
 have l1 : rs.length = n := hs.1
 have L1 := hidb l1
 have HS := hidb hs
 have HM := hidb hm
 have HI : Hid (∀ k,JoinInv ((rs.take k).foldl joinOn []) (rs.take k)) := hidb (fun k => xQx (l := rs.take k) (fun r hr => hm r (List.mem_of_mem_take hr)) (hp.sublist (List.take_sublist _ _)))
 have HLE : Hid (∀ k,((rs.take k).foldl joinOn []).length <= 65536) := hidb (fun k => by
  have key : ∀ l acc : List (Int × Int),(l.foldl joinOn acc).length <= acc.length + l.length := fun l => by
   induction l with
   | nil => intro acc;simp
   | cons x l ih =>
    intro acc
    have h1 := ih (joinOn acc x)
    have h2 : (joinOn acc x).length <= acc.length + 1 := by
     unfold joinOn
     split
     ·split
      ·simp
      ·simp
     ·simp
    simp only [List.foldl_cons,List.length_cons]
    omega
  have := key (rs.take k) []
  rw [List.length_take,List.length_nil] at this
  omega)
 clear hs hm hp l1
 go_enter Tryz.func248,Tryz.ntmps248
 go_wp2
 go_loopw [3,9] (fun v k wr => ∃ (j : Nat) (acc : List (Int × Int)) (A' : Option Addr) (c' : Nat),j <= n /\ k = .int .i64 (j : Int) /\ v = .slice A' acc.length c' /\ Hid ((rs.take j).foldl joinOn [] = acc) /\ Hid (wr.ownsRow w.heap.size 47 2 (.slice A' acc.length c') acc.length (rcells acc)) /\ Hid (Below w.heap.size w wr)) (fun _ k _ => (n - intOf k).toNat)
 case atStart => exact ⟨0,[],none,0,by omega,rfl,rfl,hidb rfl,hidb (World.ownsRow_nil _ _ _ _),hidb (Below.refl _ _)⟩
 case round =>
  obtain ⟨j,acc,A',c',hj,rfl,rfl,HA,HO,HB⟩ := hrel
  by_cases hlt : j < n
  ·obtain ⟨b,off,s,l,rfl,hbB,hx,hc1,hc2⟩ := (HS.out.below HB.out).at_ hlt
   have hxm := HM.out (s,l) (List.mem_of_getElem? hx)
   simp only at hxm
   have HNX : Hid ((rs.take (j + 1)).foldl joinOn [] = joinOn acc (s,l)) := hidb (by
    rw [List.take_add_one,hx,List.foldl_append,HA.out];rfl)
   have hi0 : (0 : Int) <= (j : Int) := by omega
   have hi1 : (j : Int) < (n : Int) := by omega
   have hsz := HB.out.size
   have hacl : acc.length <= 65536 := by have := HLE.out j;rw [HA.out] at this;exact this
   clear hx
   have HBW : Hid (∀ (o1 o2 : Obj) q W5,(((wr.alloc o1).alloc o2).drewN q).grownBy W5 (Value.slice A' acc.length c').ownBlock -> Below w.heap.size w W5) := hidb (fun o1 o2 q W5 hg =>
    (belowN ((HB.out.alloc hsz o1).alloc (by simp;omega) o2) q).grown hg (by show w.heap.size <= ((wr.heap.push o1).push o2).size;simp;omega) (fun k hk => (HO.out.lt k hk).1))
   have HNW : Hid (∀ b q,b = wr.heap.size + 1 -> CellsAt (((wr.alloc (.cells #[.int .i64 s,.int .i64 l] 47)).alloc (.cells #[.int .i64 s,.int .i64 l] 47)).drewN q) (some ⟨b,0,none⟩) [iv s,iv l]) := hidb (fun b q e => cells_new' (wr.alloc _) [iv s,iv l] _ b (by simpa using e))
   have hone : Hid (∀ u ∈ [iv s,iv l],u.oneCell' = true) := hidb (xxv [(s,l)])
   cases he : acc.getLast? with
   | none =>
    obtain rfl : acc = [] := List.getLast?_eq_none_iff.1 he
    have hdd : decide ((0 : Int) <= -1) = false := by decide
    clear he
    go_wp2
    go_quiet (fail)
    go_wp2_with (first | (at_builtin;refine xqp _ rfl (.tmp 38) (.tmp 40) 57 rfl w.heap.size 47 i0 (.agg #[.int .i64 0,.int .i64 0]) 2 16 Tryz.underlying57 hi hz0 hz1 hz2 rfl (by decide) _ 0 [] rfl (by exact (HO.out.alloc _).alloc _) (by show w.heap.size <= ((wr.heap.push _).push _).size;simp;omega) _ 1 1 [iv s,iv l] rfl rfl (fun h => by cases h) (by exact HNW.out _ _ rfl) hone.out (by unfold maxLen;omega) (by omega) ?_;intro A5 c5 w5 hown5 hg5))
    have HO5 : Hid (w5.ownsRow w.heap.size 47 2 (.slice A5 [(s,l)].length c5) [(s,l)].length (rcells [(s,l)])) := hidb hown5
    have HB5 := hidb (HBW.out _ _ _ _ hg5)
    clear hown5 hg5
    go_roundw
    case rel => exact ⟨j + 1,[(s,l)],A5,c5,by omega,by go_num,rfl,HNX,HO5,HB5⟩
    case measure => simp [intOf];omega
   | some y =>
    obtain ⟨init,hacc⟩ := List.getLast?_eq_some_iff.1 he
    obtain ⟨m,hm⟩ : ∃ m,init.length = m := ⟨_,rfl⟩
    have hlen : acc.length = m + 1 := by rw [hacc,List.length_append,hm];rfl
    rw [hlen] at HO HBW hacl ⊢
    obtain ⟨g,rfl,hgb,hglt⟩ : ∃ g,A' = some ⟨g,0,none⟩ /\ w.heap.size <= g /\ g < wr.heap.size := by
     rcases HO.out.2 with ⟨_,h0⟩ | ⟨g,cap,cur,h1,h2,h3,h4,_⟩
     ·omega
     ·injection h1 with e1 e2 e3
      exact ⟨g,e1,h2,(Array.getElem?_eq_some_iff.1 h3).1⟩
    obtain ⟨ys,yl⟩ := y
    have hym := (HI.out j).may (ys,yl) (by rw [HA.out,hacc];simp)
    simp only at hym
    have hyat := xj4 acc m (ys,yl) (by rw [hacc,<- hm];simp)
    have hy0 : wr.cell? ⟨g,m * 2,none⟩ = some (.int .i64 ys) := by rw [HO.out.cellAt (m * 2) (by omega)];exact hyat.1
    have hy1 : wr.cell? ⟨g,m * 2 + 1,none⟩ = some (.int .i64 yl) := by rw [HO.out.cellAt (m * 2 + 1) (by omega)];exact hyat.2
    have HJ : Hid (joinOn acc (s,l) = if ys + yl = s then init ++ [(ys,yl + l)] else acc ++ [(s,l)]) := hidb (by
     unfold joinOn
     rw [he]
     simp only [hacc,List.dropLast_concat])
    have HACC := hidb hacc
    have HM2 := hidb hm
    have HLEN := hidb hlen
    obtain ⟨W1,hW1⟩ : ∃ W1,W1 = wr.alloc (.cells #[.int .i64 s,.int .i64 l] 47) := ⟨_,rfl⟩
    have hz : W1.heap.size = wr.heap.size + 1 := by rw [hW1];simp
    have HW1 := hidb hW1
    have q0 : W1.cell? ⟨g,m * 2,none⟩ = some (.int .i64 ys) := by rw [hW1,World.cell?_alloc_lt _ _ ⟨g,_,none⟩ hglt];exact hy0
    have q1 : W1.cell? ⟨g,m * 2 + 1,none⟩ = some (.int .i64 yl) := by rw [hW1,World.cell?_alloc_lt _ _ ⟨g,_,none⟩ hglt];exact hy1
    have q2 : W1.cell? ⟨wr.heap.size,0,none⟩ = some (.int .i64 s) := by rw [hW1];simp
    have q3 : W1.cell? ⟨wr.heap.size,1,none⟩ = some (.int .i64 l) := by rw [hW1];simp
    have HQ : Hid (∀ W',Below W1.heap.size W1 W' -> W'.cell? ⟨g,m * 2,none⟩ = some (.int .i64 ys) /\ W'.cell? ⟨g,m * 2 + 1,none⟩ = some (.int .i64 yl) /\ W'.cell? ⟨wr.heap.size,0,none⟩ = some (.int .i64 s) /\ W'.cell? ⟨wr.heap.size,1,none⟩ = some (.int .i64 l)) := hidb (fun W' hb => by
     have k := fun (p : Addr) (hp : p.block < W1.heap.size) => hb.cell hp
     rw [k ⟨g,_,none⟩ (by show g < _;omega),k ⟨g,_,none⟩ (by show g < _;omega),k ⟨wr.heap.size,0,none⟩ (by show wr.heap.size < _;omega),k ⟨wr.heap.size,1,none⟩ (by show wr.heap.size < _;omega)]
     exact ⟨q0,q1,q2,q3⟩)
    have cy := fun W => xjq ys yl W (by omega) (by omega)
    have hge : decide ((0 : Int) <= (m : Int)) = true := decide_eq_true (by omega)
    have hm0 : (0 : Int) <= (m : Int) := by omega
    have hm1 : (m : Int) < (m : Int) + 1 := by omega
    have hza : wr.heap.size < W1.heap.size := by omega
    have hzb : g < W1.heap.size := by omega
    have hgw : ¬ g = wr.heap.size := by omega
    have HZ := hidb hz
    clear hacc hm hlen hyat he hW1 hz hy0 hy1
    by_cases heq : ys + yl = s
    ·have heb : (ys + yl == s) = true := by simpa using heq
     have E : Hid (joinOn acc (s,l) = init ++ [(ys,yl + l)]) := hidb (by rw [HJ.out,if_pos heq])
     have HEQ := hidb heq
     clear heq
     go_wp2
     rw [<- HW1.out]
     go_region_held3 (fun W' => W'.cell? ⟨g,m * 2,none⟩ = some (.int .i64 ys) /\ W'.cell? ⟨g,m * 2 + 1,none⟩ = some (.int .i64 yl) /\ W'.cell? ⟨wr.heap.size,0,none⟩ = some (.int .i64 s) /\ W'.cell? ⟨wr.heap.size,1,none⟩ = some (.int .i64 l))
      (first | (go_keep;done) | (refine HQ.out _ ?_;repeat (first | apply Below.drew | exact Below.refl _ _ | refine Below.setCell ?_ (by first | (simp;done) | (simp;omega)) _ | refine Below.alloc ?_ (by first | (simp;done) | (simp;omega)) _)))
      (first | (go_at_call 284;((with_reducible refine (cy _).mono ?_);rintro e w3 ⟨rfl,rfl⟩)))
     have hwr : IntKind.i64.wrap (yl + l) = yl + l := IntWalk.i64_in _ (by omega)
     have HEND : Hid (∀ W',Below W1.heap.size W1 W' -> Hid ((W'.setCell ⟨g,m * 2 + 1,none⟩ (.int .i64 (yl + l))).ownsRow w.heap.size 47 2 (.slice (some ⟨g,0,none⟩) (init ++ [(ys,yl + l)]).length c') (init ++ [(ys,yl + l)]).length (rcells (init ++ [(ys,yl + l)]))) /\ Hid (Below w.heap.size w (W'.setCell ⟨g,m * 2 + 1,none⟩ (.int .i64 (yl + l))))) := hidb (fun W' hb => by
      have hzz := HZ.out
      have ho1 : W'.ownsRow w.heap.size 47 2 (.slice (some ⟨g,0,none⟩) (m + 1) c') (m + 1) (rcells acc) := by
       have h0 := HO.out.alloc (.cells #[.int .i64 s,.int .i64 l] 47)
       rw [<- HW1.out] at h0
       exact h0.kept (grownBelow hb none) (Or.inr (by simp [Value.ownBlock]))
      have hB1 : Below w.heap.size w W' := by
       have h1 : Below w.heap.size w W1 := by rw [HW1.out];exact HB.out.alloc hsz _
       exact h1.trans (hb.mono (by omega))
      refine ⟨?_,hB1.setCell hgb _⟩
      have h := (ho1.stored (m * 2 + 1) (.int .i64 (yl + l))).1
      have hl2 : (init ++ [(ys,yl + l)]).length = m + 1 := by rw [List.length_append,HM2.out];rfl
      show World.ownsRow _ _ _ _ _ _ _
      rw [hl2]
      have e2 : (rcells acc).set (m * 2 + 1) (.int .i64 (yl + l)) = rcells (init ++ [(ys,yl + l)]) := by
       rw [HACC.out,<- HM2.out];exact xVp init (ys,yl) (yl + l)
      rw [<- e2]
      exact h)
     have hl2 : Hid ((init ++ [(ys,yl + l)]).length = m + 1) := hidb (by rw [List.length_append,HM2.out];rfl)
     have fz : W1.frozen? ⟨g,m * 2 + 1,none⟩ = false := by
      have h0 := (HO.out.alloc (.cells #[.int .i64 s,.int .i64 l] 47)).frozenAt (m * 2 + 1)
      rw [<- HW1.out] at h0
      exact h0
     go_wp2
     go_region
     go_wp2
     have HO6 : Hid ((((W1.setCell ⟨g,m * 2 + 1,none⟩ (.int .i64 (yl + l))).alloc (.cells #[.int .i64 ys,.int .i64 yl] 47)).drew.drew).ownsRow w.heap.size 47 2 (.slice (some ⟨g,0,none⟩) (init ++ [(ys,yl + l)]).length c') (init ++ [(ys,yl + l)]).length (rcells (init ++ [(ys,yl + l)]))) := hidb ((HEND.out W1 (Below.refl _ _)).1.out.alloc _)
     have HB6 : Hid (Below w.heap.size w (((W1.setCell ⟨g,m * 2 + 1,none⟩ (.int .i64 (yl + l))).alloc (.cells #[.int .i64 ys,.int .i64 yl] 47)).drew.drew)) := hidb ((((HEND.out W1 (Below.refl _ _)).2.out.alloc (by have := HZ.out;simp;omega) _).drew).drew)
     go_roundw
     case rel => exact ⟨j + 1,init ++ [(ys,yl + l)],some ⟨g,0,none⟩,c',by omega,by go_num,by rw [hl2.out],hidb (by rw [HNX.out,E.out]),HO6,HB6⟩
     case measure => simp [intOf];omega
    ·have heb : (ys + yl == s) = false := by simpa using heq
     have E : Hid (joinOn acc (s,l) = acc ++ [(s,l)]) := hidb (by rw [HJ.out,if_neg heq])
     have HLN : Hid ((acc ++ [(s,l)]).length = m + 1 + 1) := hidb (by rw [List.length_append,HLEN.out];rfl)
     have HRC : Hid (rcells (acc ++ [(s,l)]) = rcells acc ++ [iv s,iv l]) := hidb (by rw [xqb];rfl)
     clear heq
     go_wp2
     rw [<- HW1.out]
     go_region_held3 (fun W' => W'.cell? ⟨g,m * 2,none⟩ = some (.int .i64 ys) /\ W'.cell? ⟨g,m * 2 + 1,none⟩ = some (.int .i64 yl) /\ W'.cell? ⟨wr.heap.size,0,none⟩ = some (.int .i64 s) /\ W'.cell? ⟨wr.heap.size,1,none⟩ = some (.int .i64 l))
      (first | (go_keep;done) | (refine HQ.out _ ?_;repeat (first | apply Below.drew | exact Below.refl _ _ | refine Below.setCell ?_ (by first | (simp;done) | (simp;omega)) _ | refine Below.alloc ?_ (by first | (simp;done) | (simp;omega)) _)))
      (first | (go_at_call 284;((with_reducible refine (cy _).mono ?_);rintro e w3 ⟨rfl,rfl⟩)))
     have HOA : Hid (∀ o1 o2,(((W1.alloc o1).alloc o2).drew).ownsRow w.heap.size 47 2 (.slice (some ⟨g,0,none⟩) (m + 1) c') (m + 1) (rcells acc)) := hidb (fun o1 o2 => by
      have h0 := HO.out.alloc (.cells #[.int .i64 s,.int .i64 l] 47)
      rw [<- HW1.out] at h0
      exact (h0.alloc o1).alloc o2)
     have HBA : Hid (∀ o1 o2 W5,(((W1.alloc o1).alloc o2).drew).grownBy W5 (Value.slice (some ⟨g,0,none⟩) (m + 1) c').ownBlock -> Below w.heap.size w W5) := hidb (fun o1 o2 W5 hg => by
      have hzz := HZ.out
      have h1 : Below w.heap.size w W1 := by rw [HW1.out];exact HB.out.alloc hsz _
      exact ((h1.alloc (by omega) o1).alloc (by simp;omega) o2).drew.grown hg (by show w.heap.size <= ((W1.heap.push o1).push o2).size;simp;omega) (fun k hk => by cases hk;exact hgb))
     have HNB : Hid (∀ o1 b,b = W1.heap.size + 1 -> CellsAt (((W1.alloc o1).alloc (.cells #[.int .i64 s,.int .i64 l] 47)).drew) (some ⟨b,0,none⟩) [iv s,iv l]) := hidb (fun o1 b e => cells_new' (W1.alloc o1) [iv s,iv l] _ b (by simpa using e))
     have hbs : Hid (∀ o1 o2,w.heap.size <= (((W1.alloc o1).alloc o2).drew).heap.size) := hidb (fun o1 o2 => by have := HZ.out;show w.heap.size <= ((W1.heap.push o1).push o2).size;simp;omega)
     go_wp2_with (first | (at_builtin;refine xqp _ rfl (.tmp 38) (.tmp 40) 57 rfl w.heap.size 47 i0 (.agg #[.int .i64 0,.int .i64 0]) 2 16 Tryz.underlying57 hi hz0 hz1 hz2 rfl (by decide) _ (m + 1) (rcells acc) rfl (by exact HOA.out _ _) (by exact hbs.out _ _) _ 1 1 [iv s,iv l] rfl rfl (fun h => by cases h) (by exact HNB.out _ _ rfl) hone.out (by unfold maxLen;omega) (by omega) ?_;intro A5 c5 w5 hown5 hg5))
     have HO5 : Hid (w5.ownsRow w.heap.size 47 2 (.slice A5 (acc ++ [(s,l)]).length c5) (acc ++ [(s,l)]).length (rcells (acc ++ [(s,l)]))) := hidb (by rw [HLN.out,HRC.out];exact hown5)
     have HB5 := hidb (HBA.out _ _ _ hg5)
     clear hown5 hg5
     go_roundw
     case rel => exact ⟨j + 1,acc ++ [(s,l)],A5,c5,by omega,by go_num,by rw [HLN.out],hidb (by rw [HNX.out,E.out]),HO5,HB5⟩
     case measure => simp [intOf];omega
  ·have E : Hid (joinedL rs = acc) := hidb (by
    rw [<- HA.out,List.take_of_length_le (by rw [L1.out];omega)];rfl)
   go_wp2
   go_ret
   rw [E.out]
   exact ⟨A',c',rfl,HO.out,HB.out⟩
def OwnRoom (w : World) (e : Ending) (w' : World) : Prop := ∃ A c,e = .returned (.slice A 0 c) /\ w'.ownsRow w.heap.size 47 2 (.slice A 0 c) 0 [] /\ Below w.heap.size w w'
set_option maxRecDepth 100000 in
theorem yje (k : Nat) (w : World) (hk : k <= 131072) :
  Calls Tryz.prog 282 #[.slice none 0 0,.int .i64 (k : Int)] w (OwnRoom w) := by
 obtain ⟨i0,hi,hz0,hz1,hz2⟩ := info_parts xxt
 by_cases h0 : k = 0
 ·subst h0
  go_enter Tryz.func282,Tryz.ntmps282
  go_wp2
  go_ret
  exact ⟨none,0,rfl,World.ownsRow_nil _ _ _ _,Below.refl _ _⟩
 ·have hr := fun ty => Lib.run_append_nil_zeros (P := Tryz.prog) w 57 3 ty 47 i0 _ .i64 .i64 Tryz.underlying57 Tryz.underlying3 hi hz0 k (by omega) (by rw [hz1];decide) (by omega) (by rw [hz2];omega)
  have hge := grownCap_ge w k 0 47
  have hcm := grownCap_le_maxLen w k 0 47 (by unfold maxLen;omega)
  obtain ⟨G,hG⟩ : ∃ G,grownCap w k 0 47 = G := ⟨_,rfl⟩
  rw [hG] at hge hcm
  have hr2 : ∀ ty,∃ W,(Builtin.append_ #[57,3] ty #[.slice none 0 0,.int .i64 (k : Int)]).run Tryz.prog w = .ok (.slice (some ⟨w.heap.size,0,none⟩) k G) W /\ W.ownsRow w.heap.size 47 2 (.slice (some ⟨w.heap.size,0,none⟩) 0 G) 0 [] /\ Below w.heap.size w W := fun ty => by
   have h := hr ty
   rw [hG] at h
   refine ⟨_,h,?_,(Below.refl _ _).drew.alloc (Nat.le_refl _) _⟩
   refine ⟨rfl,.inr ⟨w.heap.size,G,_,rfl,Nat.le_refl _,heap_alloc_new w.drew _,by omega,hcm,?_,rfl⟩⟩
   simp only [Array.size_append,size_zeroCells]
   rw [<- Nat.add_mul]
   show (k + (G - k)) * 2 = G * 2
   omega
  obtain ⟨W,hrun,hown,hbel⟩ := hr2 57
  have HO := hidb hown
  have HB := hidb hbel
  have hk1 : (0 : Int) < (k : Int) := by omega
  clear hr hr2 hG hown hbel
  go_enter Tryz.func282,Tryz.ntmps282
  go_wp2_with (first | (at_builtin;refine Lib.wpList_append_run _ rfl _ _ _ _ rfl _ _ rfl rfl _ _ hrun ?_))
  go_ret
  exact ⟨_,_,rfl,HO.out,HB.out⟩
set_option maxRecDepth 100000 in
set_option maxHeartbeats 2000000 in
theorem xVr (N : Nat) (A1 A2 : Option Addr) (n1 c1 n2 c2 : Nat) (rs1 rs2 : List (Int × Int)) (w : World) (hN : N < w.heap.size) (h0 : w.cell? ⟨N,0,none⟩ = some (.slice A1 n1 c1)) (h1 : w.cell? ⟨N,1,none⟩ = some (.slice A2 n2 c2))
  (hs1 : Rn w w.heap.size A1 n1 rs1) (hs2 : Rn w w.heap.size A2 n2 rs2) (hn1 : n1 <= 65536) (hn2 : n2 <= 65536) :
  Calls Tryz.prog 244 #[.slice (some ⟨N,0,none⟩) 2 2] w (OwnRuns w (rs1 ++ rs2)) := by
 obtain ⟨i0,hi,hz0,hz1,hz2⟩ := info_parts xxt
 have l1 : rs1.length = n1 := hs1.1
 have l2 : rs2.length = n2 := hs2.1
 have cg := yje (n1 + n2) w (by omega)
 rw [Int.natCast_add] at cg
 have nil0 : ∀ (A : Option Addr) (n : Nat) (rs : List (Int × Int)),Rn w w.heap.size A n rs -> A = none -> n = 0 := fun A n rs hs e => by
  refine Nat.eq_zero_of_not_pos fun h => ?_
  obtain ⟨b,off,e2,_⟩ := hs.2 h
  rw [e] at e2;cases e2
 have HA1 : Hid (A1 = none -> n1 = 0) := hidb (fun e => nil0 A1 n1 rs1 hs1 e)
 have HA2 : Hid (A2 = none -> n2 = 0) := hidb (fun e => nil0 A2 n2 rs2 hs2 e)
 have HC1 : Hid (∀ W,Below w.heap.size w W -> CellsAt W A1 (rcells rs1)) := hidb (fun W hb => (hs1.below hb).cells_)
 have HC2 : Hid (∀ W,Below w.heap.size w W -> CellsAt W A2 (rcells rs2)) := hidb (fun W hb => (hs2.below hb).cells_)
 have HQ : Hid (∀ W,Below w.heap.size w W -> W.cell? ⟨N,0,none⟩ = some (.slice A1 n1 c1) /\ W.cell? ⟨N,1,none⟩ = some (.slice A2 n2 c2)) := hidb (fun W hb => by
  rw [hb.cell (p := ⟨N,0,none⟩) hN,hb.cell (p := ⟨N,1,none⟩) hN];exact ⟨h0,h1⟩)
 have HL1 := hidb l1
 have HL2 := hidb l2
 have o1 := hidb (xxv rs1)
 have o2 := hidb (xxv rs2)
 clear hs1 hs2 l1 l2 nil0
 go_enter Tryz.func244,Tryz.ntmps244
 go_wp2
 refine wp_loop_rounds 3 ?_
 rw [rounds_succ]
 go_wp2
 rw [rounds_succ]
 go_wp2
 rw [rounds_succ]
 go_wp2_with (first | (go_at_call 282;(with_reducible refine cg.mono ?_);rintro e w1 ⟨A3,c3,rfl,hown3,hb3⟩;obtain ⟨q0,q1⟩ := HQ.out _ hb3))
 have HO3 := hidb hown3
 have HB3 := hidb hb3
 clear hown3 hb3
 refine wp_loop_rounds 3 ?_
 rw [rounds_succ]
 go_wp2_with (first | (at_builtin;refine xqf _ rfl (.tmp 31) (.tmp 32) 57 rfl w.heap.size 47 i0 (.agg #[.int .i64 0,.int .i64 0]) 2 16 Tryz.underlying57 hi hz0 hz1 hz2 rfl (by decide) _ 0 [] rfl HO3.out HB3.out.size A1 n1 c1 (rcells rs1) rfl (by rw [xq6,HL1.out]) HA1.out (HC1.out _ HB3.out) o1.out (by unfold maxLen;omega) (by omega) ?_;intro A4 c4 w4 hown4 hg4))
 rw [Nat.zero_add,List.nil_append] at hown4
 have HO4 := hidb hown4
 have HB4 : Hid (Below w.heap.size w w4) := hidb (HB3.out.grown hg4 HB3.out.size (fun k hk => (HO3.out.lt k hk).1))
 obtain ⟨r0,r1⟩ := HQ.out _ HB4.out
 clear hown4 hg4
 rw [rounds_succ]
 go_wp2_with (first | (at_builtin;refine xqf _ rfl (.tmp 31) (.tmp 32) 57 rfl w.heap.size 47 i0 (.agg #[.int .i64 0,.int .i64 0]) 2 16 Tryz.underlying57 hi hz0 hz1 hz2 rfl (by decide) _ n1 (rcells rs1) rfl HO4.out HB4.out.size A2 n2 c2 (rcells rs2) rfl (by rw [xq6,HL2.out]) HA2.out (HC2.out _ HB4.out) o2.out (by unfold maxLen;omega) (by omega) ?_;intro A5 c5 w5 hown5 hg5))
 have HO5 := hidb hown5
 have HB5 : Hid (Below w.heap.size w w5) := hidb (HB4.out.grown hg5 HB4.out.size (fun k hk => (HO4.out.lt k hk).1))
 clear hown5 hg5
 rw [rounds_succ]
 go_wp2
 go_ret
 refine ⟨A5,c5,?_,?_,HB5.out⟩
 ·rw [List.length_append,HL1.out,HL2.out];rfl
 ·rw [List.length_append,HL1.out,HL2.out,xqb];exact HO5.out
end Go.Proofs.YtlcdgmjinhbncaaGreat
namespace Go.Proofs.YtlcdgmjinhbncaaGreat
open Go.RowKit
set_option linter.unusedVariables false
structure BIn (w wr : World) (r : Int × Int) : Prop where
 p0 : wr.cell? ⟨w.heap.size,0,none⟩ = some (.int .i64 0)
 p1 : wr.cell? ⟨w.heap.size,1,none⟩ = some (.int .i64 0)
 f0 : wr.frozen? ⟨w.heap.size,0,none⟩ = false
 f1 : wr.frozen? ⟨w.heap.size,1,none⟩ = false
 q0 : wr.cell? ⟨w.heap.size + 1,0,none⟩ = some (.int .i64 r.1)
 q1 : wr.cell? ⟨w.heap.size + 1,1,none⟩ = some (.int .i64 r.2)
 g0 : wr.frozen? ⟨w.heap.size + 1,0,none⟩ = false
 g1 : wr.frozen? ⟨w.heap.size + 1,1,none⟩ = false
 hz : w.heap.size + 1 < wr.heap.size
theorem BIn.alloc {w wr : World} {r : Int × Int} (h : BIn w wr r) (u : Obj) : BIn w (wr.alloc u) r := by
 have hb : Below wr.heap.size wr (wr.alloc u) := (Below.refl _ _).alloc (Nat.le_refl _) u
 have kc := fun (a : Addr) (ha : a.block < wr.heap.size) => hb.cell ha
 have kf := fun (a : Addr) (ha : a.block < wr.heap.size) => hb.frozen ha
 have hz := h.hz
 have z0 : w.heap.size < wr.heap.size := by omega
 exact ⟨(kc ⟨w.heap.size,0,none⟩ z0).trans h.p0,(kc ⟨w.heap.size,1,none⟩ z0).trans h.p1,(kf ⟨w.heap.size,0,none⟩ z0).trans h.f0,(kf ⟨w.heap.size,1,none⟩ z0).trans h.f1,
  (kc ⟨w.heap.size + 1,0,none⟩ hz).trans h.q0,(kc ⟨w.heap.size + 1,1,none⟩ hz).trans h.q1,(kf ⟨w.heap.size + 1,0,none⟩ hz).trans h.g0,(kf ⟨w.heap.size + 1,1,none⟩ hz).trans h.g1,by simp;omega⟩
theorem BIn.set {w wr : World} {r : Int × Int} (h : BIn w wr r) (s l : Int) : BIn w ((wr.setCell ⟨w.heap.size + 1,0,none⟩ (.int .i64 s)).setCell ⟨w.heap.size + 1,1,none⟩ (.int .i64 l)) (s,l) := by
 obtain ⟨s0,s1⟩ := xzo wr (w.heap.size + 1) (.int .i64 s) (.int .i64 l) _ _ h.q0 h.q1
 have kc : ∀ j,((wr.setCell ⟨w.heap.size + 1,0,none⟩ (.int .i64 s)).setCell ⟨w.heap.size + 1,1,none⟩ (.int .i64 l)).cell? ⟨w.heap.size,j,none⟩ = wr.cell? ⟨w.heap.size,j,none⟩ := fun j => by
  rw [World.cell?_setCell_other _ _ _ _ (by simp),World.cell?_setCell_other _ _ _ _ (by simp)]
 have hz := h.hz
 exact ⟨(kc 0).trans h.p0,(kc 1).trans h.p1,by simpa [go_sem] using h.f0,by simpa [go_sem] using h.f1,s0,s1,by simpa [go_sem] using h.g0,by simpa [go_sem] using h.g1,by simpa using hz⟩
set_option maxRecDepth 100000 in
set_option maxHeartbeats 4000000 in
theorem xZj (v : Value) (A : Option Addr) (n c : Nat) (rs : List (Int × Int)) (k : Int) (w : World) (hall : ∀ W,Below w.heap.size w W -> Calls Tryz.prog 161 #[v] W fun e w' => e = .returned (.slice A n c) /\ W = w')
  (hs : Rn w w.heap.size A n rs) (hn : n <= 65536) (hk : in64 k) :
  Calls Tryz.prog 206 #[v,.int .i64 k] w (RunIs w (if k < 1 then none else bestOf k rs)) := by
 obtain ⟨k0,k1⟩ := hk
 by_cases hk1 : k < 1
 ·rw [if_pos hk1]
  clear hall hs
  go_enter Tryz.func206,Tryz.ntmps206
  go_wp2
  refine bodyPost_ret (v := .tuple #[.agg #[.int .i64 0,.int .i64 0],.bool false]) (by simp [results,Tryz.results206,go_sem]) rfl ⟨rfl,?_⟩
  exact (((Below.refl _ _).alloc (Nat.le_refl _) _).alloc (by simp) _)
 rw [if_neg hk1]
 have l1 : rs.length = n := hs.1
 obtain ⟨W2,hW2⟩ : ∃ W2,W2 = (w.alloc (.cells #[.int .i64 0,.int .i64 0] 47)).alloc (.cells #[.int .i64 0,.int .i64 0] 47) := ⟨_,rfl⟩
 have hz : W2.heap.size = w.heap.size + 1 + 1 := by rw [hW2];simp
 have hb2 : Below w.heap.size w W2 := by rw [hW2];exact ((Below.refl _ _).alloc (Nat.le_refl _) _).alloc (by simp) _
 have p0 : W2.cell? ⟨w.heap.size,0,none⟩ = some (.int .i64 0) := by rw [hW2,World.cell?_alloc_lt _ _ ⟨w.heap.size,0,none⟩ (by simp)];simp
 have p1 : W2.cell? ⟨w.heap.size,1,none⟩ = some (.int .i64 0) := by rw [hW2,World.cell?_alloc_lt _ _ ⟨w.heap.size,1,none⟩ (by simp)];simp
 have q0 : W2.cell? ⟨w.heap.size + 1,0,none⟩ = some (.int .i64 0) := by rw [hW2];exact World.cell?_alloc_at _ _ _ 0 (by simp)
 have q1 : W2.cell? ⟨w.heap.size + 1,1,none⟩ = some (.int .i64 0) := by rw [hW2];exact World.cell?_alloc_at _ _ _ 1 (by simp)
 have f0 : ∀ j,W2.frozen? ⟨w.heap.size,j,none⟩ = false := fun j => by rw [hW2];simp [go_sem]
 have f1 : ∀ j,W2.frozen? ⟨w.heap.size + 1,j,none⟩ = false := fun j => by rw [hW2];simp [go_sem]
 have ca := hall W2 hb2
 have HW2 := hidb hW2
 have HB2 := hidb hb2
 have L1 := hidb l1
 have HS := hidb hs
 have START : Hid (BIn w W2 (0,0)) := hidb ⟨p0,p1,f0 0,f0 1,q0,q1,f1 0,f1 1,by omega⟩
 clear hW2 hb2 p0 p1 q0 q1 f0 f1 hz hall hs l1
 go_enter Tryz.func206,Tryz.ntmps206
 go_wp2_with (first | (go_at_call 161;rw [<- HW2.out];(with_reducible refine ca.mono ?_);rintro e w' ⟨rfl,rfl⟩))
 go_loopw [7,18] (fun fd i wr => ∃ (j : Nat) (o : Option (Int × Int)),j <= n /\ i = .int .i64 j /\ fd = .bool o.isSome /\ Hid (bestOf k (rs.take j) = o) /\ Hid (Below w.heap.size w wr) /\
   Hid (BIn w wr (o.getD (0,0)))) (fun _ i _ => (n - intOf i).toNat)
 case atStart => exact ⟨0,none,by omega,rfl,rfl,hidb rfl,HB2,START⟩
 case round =>
  obtain ⟨j,o,hj,rfl,rfl,HO,HB,HC⟩ := hrel
  by_cases hlt : j < n
  ·obtain ⟨b,off,s,l,rfl,hbB,hx,hc1,hc2⟩ := (HS.out.below HB.out).at_ hlt
   have HN : Hid (bestOf k (rs.take (j + 1)) = bestStep k o (s,l)) := hidb (by rw [List.take_add_one,hx,show (some (s,l)).toList = [(s,l)] from rfl,xwp,HO.out])
   have hi0 : (0 : Int) <= (j : Int) := by omega
   have hi1 : (j : Int) < (n : Int) := by omega
   have ⟨p0,p1,f0,f1,q0,q1,g0,g1,hz⟩ := HC.out
   have hne : ¬ w.heap.size = wr.heap.size := by omega
   have hne1 : ¬ w.heap.size + 1 = wr.heap.size := by omega
   have SKIP : Hid (∀ u,Below w.heap.size w (wr.alloc u) /\ BIn w (wr.alloc u) (o.getD (0,0))) := hidb (fun u => ⟨HB.out.alloc HB.out.size u,HC.out.alloc u⟩)
   have TAKE : Hid (∀ u,Below w.heap.size w (((wr.setCell ⟨w.heap.size + 1,0,none⟩ (.int .i64 s)).setCell ⟨w.heap.size + 1,1,none⟩ (.int .i64 l)).alloc u) /\ BIn w (((wr.setCell ⟨w.heap.size + 1,0,none⟩ (.int .i64 s)).setCell ⟨w.heap.size + 1,1,none⟩ (.int .i64 l)).alloc u) (s,l)) := hidb (fun u => ⟨((HB.out.setCell (p := ⟨w.heap.size + 1,0,none⟩) (by show w.heap.size <= w.heap.size + 1;omega) _).setCell (p := ⟨w.heap.size + 1,1,none⟩) (by show w.heap.size <= w.heap.size + 1;omega) _).alloc (by have := HB.out.size;simpa using this) u,(HC.out.set s l).alloc u⟩)
   clear hx
   by_cases c1 : k <= l
   ·cases o with
    | none =>
     have E : Hid (bestStep k none (s,l) = some (s,l)) := hidb (by unfold bestStep;simp only [if_pos c1])
     go_wp2
     go_roundw
     case rel => exact ⟨j + 1,some (s,l),by omega,by go_num,rfl,hidb (by rw [HN.out,E.out]),hidb (TAKE.out _).1,hidb (TAKE.out _).2⟩
     case measure => simp [intOf];omega
    | some y =>
     obtain ⟨ys,yl⟩ := y
     by_cases c2 : l < yl
     ·have E : Hid (bestStep k (some (ys,yl)) (s,l) = some (s,l)) := hidb (by unfold bestStep;simp only [if_pos (show k <= l /\ l < yl from ⟨c1,c2⟩)])
      go_wp2
      go_roundw
      case rel => exact ⟨j + 1,some (s,l),by omega,by go_num,rfl,hidb (by rw [HN.out,E.out]),hidb (TAKE.out _).1,hidb (TAKE.out _).2⟩
      case measure => simp [intOf];omega
     ·have E : Hid (bestStep k (some (ys,yl)) (s,l) = some (ys,yl)) := hidb (by unfold bestStep;simp only [if_neg (show ¬ (k <= l /\ l < yl) from fun h => c2 h.2)])
      go_wp2
      go_roundw
      case rel => exact ⟨j + 1,some (ys,yl),by omega,by go_num,rfl,hidb (by rw [HN.out,E.out]),hidb (SKIP.out _).1,hidb (SKIP.out _).2⟩
      case measure => simp [intOf];omega
   ·have E : Hid (bestStep k o (s,l) = o) := hidb (by
     unfold bestStep
     cases o with
     | none => simp only [if_neg c1]
     | some y => simp only [if_neg (fun h : k <= l /\ l < y.2 => c1 h.1)])
    go_wp2
    go_roundw
    case rel => exact ⟨j + 1,o,by omega,by go_num,rfl,hidb (by rw [HN.out,E.out]),hidb (SKIP.out _).1,hidb (SKIP.out _).2⟩
    case measure => simp [intOf];omega
  ·have E : Hid (bestOf k rs = o) := hidb (by rw [<- HO.out,List.take_of_length_le (by rw [L1.out];omega)])
   have ⟨p0,p1,f0,f1,q0,q1,g0,g1,hz⟩ := HC.out
   obtain ⟨s0,s1⟩ := xzo wr w.heap.size (.int .i64 (o.getD (0,0)).1) (.int .i64 (o.getD (0,0)).2) _ _ p0 p1
   go_wp2
   refine bodyPost_ret (v := .tuple #[.agg #[.int .i64 (o.getD (0,0)).1,.int .i64 (o.getD (0,0)).2],.bool o.isSome]) (by simp [results,Tryz.results206,go_sem,s0,s1]) rfl ?_
   rw [E.out]
   exact ⟨rfl,(HB.out.setCell (p := ⟨w.heap.size,0,none⟩) (Nat.le_refl _) _).setCell (p := ⟨w.heap.size,1,none⟩) (Nat.le_refl _) _⟩
theorem yxf {w : World} {S : Nat -> Prop} {p : Nat} {f : List Bool} (h : Fr w S p f) (k : Int) (hk : in64 k) :
  Calls Tryz.prog 206 #[.pointer (some ⟨p,0,none⟩),.int .i64 k] w (RunIs w (fBest f k)) := by
 obtain ⟨A,n,c,ha,hn,hall⟩ := h.all_
 rw [xZ9 f (by have := ha.flen;omega)]
 exact xZj _ A n c (fList f) k w hall ha.rn (by omega) hk
end Go.Proofs.YtlcdgmjinhbncaaGreat
