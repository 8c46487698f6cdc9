import Derived.Test.YtlcdgmjinhbncaaGreatRHeapRefA
import Derived.Test.YtlcdgmjinhbncaaGreatRRowWords
import Derived.Test.YtlcdgmjinhbncaaGreatRPlain7
import Derived.Deep.Cut
import Derived.Deep.CutRange
import Derived.Deep.RegionHeld3
import Derived.RegionTactic
import Derived.ChangeAlike
import Derived.Deep.RegionLaw
namespace Go.Proofs.YtlcdgmjinhbncaaGreat
open Go.RowKit
set_option linter.unusedVariables false
def spanV (s : Int × Int × Int × Int) : Value := .agg #[.int .i64 s.1,.int .i64 s.2.1,.int .i64 s.2.2.1,.int .i64 s.2.2.2]
def MadeIs (w : World) (P : Nat -> Prop) (r : HeapV × (Int × Int × Int × Int) × Int) (e : Ending) (w' : World) : Prop := (∃ v,e = .returned (.tuple #[v,spanV r.2.1,.int .i64 r.2.2]) /\ HIs w' P r.1 v) /\ Below w.heap.size w w'
set_option maxHeartbeats 1000000 in
theorem xV1 (P : Nat -> Prop) (h : HeapV) (v : Value) (k order : Int) (w : World) (hv : HIs w P h v) (h0 : in64 k) (h1 : in64 order) (hbad : k < 1 \/ order < -1 \/ 3 < order) :
  Calls Tryz.prog 71 #[v,.int .i64 k,.int .i64 order] w (MadeIs w P (h,spanNone,1)) := by
 have HV := hidb hv
 obtain ⟨A,c,A2,c2,rfl,_⟩ := hv
 obtain ⟨n,hn⟩ : ∃ n,h.free.length = n := ⟨_,rfl⟩
 obtain ⟨n2,hn2⟩ : ∃ n2,h.l.length = n2 := ⟨_,rfl⟩
 rw [hn,hn2] at HV ⊢
 obtain ⟨pg,hpg⟩ : ∃ pg,h.pages = pg := ⟨_,rfl⟩
 obtain ⟨la,hla⟩ : ∃ la,h.last = la := ⟨_,rfl⟩
 rw [hpg,hla] at HV ⊢
 have HF : Hid (∀ w',Below w.heap.size w w' -> MadeIs w P (h,spanNone,1) (.returned (.tuple #[.agg #[.int .i64 pg,.slice A n c,.slice A2 n2 c2,.int .i64 la],.agg #[.int .i64 0,.int .i64 0,.int .i64 0,.int .i64 0],.int .i64 1])) w') := hidb (fun w' hb => ⟨⟨_,rfl,HV.out.below hb⟩,hb⟩)
 clear hn hn2 hpg hla
 by_cases b1 : k < 1
 ·clear hbad
  go_enter Tryz.func71,Tryz.ntmps71
  go_wp2
  refine bodyPost_ret (v := .tuple #[.agg #[.int .i64 pg,.slice A n c,.slice A2 n2 c2,.int .i64 la],.agg #[.int .i64 0,.int .i64 0,.int .i64 0,.int .i64 0],.int .i64 1]) (by simp [results,Tryz.results71,go_sem]) rfl ?_
  refine HF.out _ ?_
  repeat (first | exact Below.refl _ _ | refine Below.setCell ?_ (by first | omega | (simp;done) | (simp;omega)) _ | refine Below.alloc ?_ (by first | omega | (simp;done) | (simp;omega)) _)
 by_cases b2 : order < -1
 ·clear hbad
  go_enter Tryz.func71,Tryz.ntmps71
  go_wp2
  refine bodyPost_ret (v := .tuple #[.agg #[.int .i64 pg,.slice A n c,.slice A2 n2 c2,.int .i64 la],.agg #[.int .i64 0,.int .i64 0,.int .i64 0,.int .i64 0],.int .i64 1]) (by simp [results,Tryz.results71,go_sem]) rfl ?_
  refine HF.out _ ?_
  repeat (first | exact Below.refl _ _ | refine Below.setCell ?_ (by first | omega | (simp;done) | (simp;omega)) _ | refine Below.alloc ?_ (by first | omega | (simp;done) | (simp;omega)) _)
 ·have b3 : 3 < order := by omega
  clear hbad
  go_enter Tryz.func71,Tryz.ntmps71
  go_wp2
  refine bodyPost_ret (v := .tuple #[.agg #[.int .i64 pg,.slice A n c,.slice A2 n2 c2,.int .i64 la],.agg #[.int .i64 0,.int .i64 0,.int .i64 0,.int .i64 0],.int .i64 1]) (by simp [results,Tryz.results71,go_sem]) rfl ?_
  refine HF.out _ ?_
  repeat (first | exact Below.refl _ _ | refine Below.setCell ?_ (by first | omega | (simp;done) | (simp;omega)) _ | refine Below.alloc ?_ (by first | omega | (simp;done) | (simp;omega)) _)
theorem xXu {l : List (Int × Int)} : ∀ {k : Nat} {want : Int} {r : Int × Int},bestAt l k want = some r -> r ∈ l /\ want <= r.2
 | 0,_,_,h => by cases h
 | k + 1,want,r,h => by
  have h2 : (l.find? (fun r => r.2 == want)).or (bestAt l k (want + 1)) = some r := h
  cases e : l.find? (fun r => r.2 == want) with
  | some y =>
   rw [e] at h2
   obtain rfl : y = r := by simpa using h2
   have := List.find?_some e
   have : y.2 = want := by simpa using this
   exact ⟨List.mem_of_find?_eq_some e,by omega⟩
  | none =>
   rw [e] at h2
   have := xXu (k := k) (want := want + 1) (r := r) (by simpa using h2)
   exact ⟨this.1,by omega⟩
theorem fBest_ok {f : List Bool} {n : Int} {r : Int × Int} (h : fBest f n = some r) : r ∈ fList f /\ 1 <= n /\ n <= r.2 /\ RunOk (f.map b2i) 1 0 r := by
 unfold fBest at h
 split at h
 ·cases h
 ·have := xXu h
  exact ⟨this.1,by omega,this.2,xj7 _ _ _ _ r this.1⟩
theorem xWn (y : Int × Int × Int × Int) : ∀ u ∈ scells y,u.oneCell' = true := fun u hy => by
 simp [scells,iv] at hy
 rcases hy with rfl | rfl | rfl | rfl <;> rfl
theorem xvl {l : List (Int × Int × Int × Int)} : ∀ u ∈ cellsAll scells l,u.oneCell' = true := fun u hu => by
 obtain ⟨y,_,hy⟩ := List.mem_flatMap.1 hu
 simp [scells,iv] at hy
 rcases hy with rfl | rfl | rfl | rfl <;> rfl
theorem Sn.cellsAt {w : World} {B n : Nat} {A : Option Addr} {l : List (Int × Int × Int × Int)} (h : Sn w B A n l) : CellsAt w A (cellsAll scells l) := fun ad e j u hj => by
 have hlen := xq5 xqg l
 have hjl : j < l.length * 4 := by rw [<- hlen];exact (List.getElem?_eq_some_iff.1 hj).1
 have hq : j / 4 < n := by have := h.1;omega
 obtain ⟨b,off,y,cs,e2,_,hy,hcl,hcs,rfl⟩ := RowOf.at_ h hq
 rw [e] at e2
 injection e2 with e2
 subst e2
 have h1 := xxy xqg l (j / 4) y hy (j % 4) (by omega)
 rw [show j / 4 * 4 + j % 4 = j by omega,hj] at h1
 rw [Go.WideShapes.add_plain,show off + j = off + j / 4 * 4 + j % 4 by omega,hcs (j % 4) (by omega),<- h1]
theorem aside4 (w : World) (b b' : Nat) (hne : b ≠ b') (u0 u1 u2 u3 : Value) (i : Nat) : ((((w.setCell ⟨b,0,none⟩ u0).setCell ⟨b,1,none⟩ u1).setCell ⟨b,2,none⟩ u2).setCell ⟨b,3,none⟩ u3).cell? ⟨b',i,none⟩ = w.cell? ⟨b',i,none⟩ := by
 have o : ∀ (w : World) (j : Nat) (v : Value),(w.setCell ⟨b,j,none⟩ v).cell? ⟨b',i,none⟩ = w.cell? ⟨b',i,none⟩ := fun w j v => World.cell?_setCell_other w _ _ _ (fun e => hne (by injection e))
 rw [o,o,o,o]
theorem Sl.aside4 {w : World} {B n : Nat} {A : Option Addr} {xs : List Value} (h : Sl w B A n xs) {b : Nat} (hp : ∀ a,A = some a -> a.block ≠ b) (u0 u1 u2 u3 : Value) : Sl ((((w.setCell ⟨b,0,none⟩ u0).setCell ⟨b,1,none⟩ u1).setCell ⟨b,2,none⟩ u2).setCell ⟨b,3,none⟩ u3) B A n xs :=
 (((h.aside (p := ⟨b,0,none⟩) hp u0).aside (p := ⟨b,1,none⟩) hp u1).aside (p := ⟨b,2,none⟩) hp u2).aside (p := ⟨b,3,none⟩) hp u3
theorem xvm {w : World} {base size n : Nat} {e : TypeId} {v : Value} {xs : List Value} (h : w.ownsRow base e size v n xs) {b : Nat} (hb : b < base) (u0 u1 u2 u3 : Value) : ((((w.setCell ⟨b,0,none⟩ u0).setCell ⟨b,1,none⟩ u1).setCell ⟨b,2,none⟩ u2).setCell ⟨b,3,none⟩ u3).ownsRow base e size v n xs :=
 ownsRow_setCell_below (ownsRow_setCell_below (ownsRow_setCell_below (ownsRow_setCell_below h (a := ⟨b,0,none⟩) hb u0) (a := ⟨b,1,none⟩) hb u1) (a := ⟨b,2,none⟩) hb u2) (a := ⟨b,3,none⟩) hb u3
theorem xx9 {B : Nat} {w w' : World} (h : Below B w w') {b : Nat} (hb : B <= b) (u0 u1 u2 u3 : Value) : Below B w ((((w'.setCell ⟨b,0,none⟩ u0).setCell ⟨b,1,none⟩ u1).setCell ⟨b,2,none⟩ u2).setCell ⟨b,3,none⟩ u3) :=
 (((h.setCell (p := ⟨b,0,none⟩) hb u0).setCell (p := ⟨b,1,none⟩) hb u1).setCell (p := ⟨b,2,none⟩) hb u2).setCell (p := ⟨b,3,none⟩) hb u3
theorem sl_drew {w : World} {n : Nat} {A : Option Addr} {xs : List Value} (h : Sl w w.heap.size A n xs) : Sl w.drew w.drew.heap.size A n xs := h
theorem sn_drew {w : World} {n : Nat} {A : Option Addr} {l : List (Int × Int × Int × Int)} (h : Sn w w.heap.size A n l) : Sn w.drew w.drew.heap.size A n l := h
theorem his_of {w : World} {P : Nat -> Prop} {h : HeapV} {A A2 : Option Addr} {c c2 n n2 : Nat} {pg la : Int} (e1 : h.free.length = n) (e2 : h.l.length = n2) (e3 : h.pages = pg) (e4 : h.last = la)
  (k1 : n <= c) (k2 : c <= 9223372036854775807) (k3 : A = none -> c = 0) (k4 : Sl w w.heap.size A n (h.free.map bv)) (k5 : n2 <= c2) (k6 : c2 <= 9223372036854775807) (k7 : A2 = none -> c2 = 0) (k8 : Sn w w.heap.size A2 n2 h.l) (k9 : InP P A) (k10 : InP P A2) (k11 : InP (· < w.heap.size) A2) :
  HIs w P h (.agg #[.int .i64 pg,.slice A n c,.slice A2 n2 c2,.int .i64 la]) := by
 subst e1 e2 e3 e4
 exact ⟨A,c,A2,c2,rfl,k1,k2,k3,k4,k5,k6,k7,k8,k9,k10,k11⟩
theorem xWo {w : World} {base size n c : Nat} {e : TypeId} {A : Option Addr} {xs : List Value} (h : w.ownsRow base e size (.slice A n c) n xs) : InP (fun b => b < w.drew.heap.size) A := fun a ha => (h.lt a.block (by rw [ha];rfl)).2
theorem xV2 {w : World} {base : Nat} {e : TypeId} {A : Option Addr} {n c : Nat} {xs : List Value} (h : w.ownsRow base e 4 (.slice A n c) n xs) : n <= c /\ c <= 9223372036854775807 /\ (A = none -> c = 0) := by
 rcases h.2 with ⟨h1,h0⟩ | ⟨g,cap,cur,h1,_,_,hnc,hcm,_⟩
 ·injection h1 with h2 h3 h4
  exact ⟨by omega,by omega,fun _ => h4⟩
 ·injection h1 with h2 h3 h4
  subst h4
  exact ⟨hnc,by unfold maxLen at hcm;omega,fun h => by rw [h] at h2;cases h2⟩
set_option maxHeartbeats 4000000 in
theorem xJ8 (P : Nat -> Prop) (h : HeapV) (v : Value) (k order : Int) (r : Int × Int) (w : World) (hP : ∀ b,w.heap.size <= b -> P b) (hv : HIs w P h v) (h0 : in64 k) (h1 : in64 order) (hok : ¬ (k < 1 \/ order < -1 \/ 3 < order)) (hlen : h.free.length = 1024) (hl : h.l.length <= 65536) (hla : 0 <= h.last /\ h.last <= 1000000000) (hb : fBest h.free k = some r) :
  Calls Tryz.prog 71 #[v,.int .i64 k,.int .i64 order] w (MadeIs w P (⟨h.pages,(fPut h.free [(r.1,k)] false).1,h.l ++ [(h.last + 1,r.1,k,order)],h.last + 1⟩,(h.last + 1,r.1,k,order),0)) := by
 have HV := hidb hv
 obtain ⟨hr1,hr2,hr3,S,L,rfl,hr5,hr6,hr7,_⟩ := fBest_ok hb
 obtain ⟨A,c,A2,c2,e0,g1,g2,g3,g4,g5,g6,g7,g8,g9,g10,g12⟩ := hv
 subst e0
 obtain ⟨n,hn⟩ : ∃ n,h.free.length = n := ⟨_,rfl⟩
 obtain ⟨n2,hn2⟩ : ∃ n2,h.l.length = n2 := ⟨_,rfl⟩
 obtain ⟨pg,hpg⟩ : ∃ pg,h.pages = pg := ⟨_,rfl⟩
 obtain ⟨la,hla2⟩ : ∃ la,h.last = la := ⟨_,rfl⟩
 rw [hn,hn2,hpg,hla2] at HV ⊢
 rw [hn] at g1 g4 hlen
 rw [hn2] at g5 g8 hl
 rw [hla2] at hla
 rw [List.length_map] at hr7
 rw [hn] at hr7
 simp only at hr3 ⊢
 obtain ⟨FF,hFF⟩ : ∃ FF,fPut h.free [((S : Int),k)] false = FF := ⟨_,rfl⟩
 rw [hFF]
 obtain ⟨w0,hw0⟩ : ∃ w0,w0 = ((w.alloc (.cells #[.int .i64 pg,.slice A n c,.slice A2 n2 c2,.int .i64 la] 32)).alloc (.cells #[.int .i64 0,.slice none 0 0,.slice none 0 0,.int .i64 0] 32)).alloc (.cells #[.int .i64 0,.int .i64 0,.int .i64 0,.int .i64 0] 49) := ⟨_,rfl⟩
 have hb0 : Below w.heap.size w w0 := by
  rw [hw0]
  repeat (first | exact Below.refl _ _ | refine Below.alloc ?_ (by first | omega | (simp;done) | (simp;omega)) _)
 have cb := xJw A n c h.free k w0 ((g4.below hb0).more hb0.size) (by omega) h0.1 h0.2
 rw [hb] at cb
 unfold RunIs at cb
 have cb2 : Calls Tryz.prog 145 #[.slice A n c,.int .i64 k] w0 fun e w' => e = .returned (.tuple #[.agg #[.int .i64 (S : Int),.int .i64 (L : Int)],.bool true]) /\ Below w0.heap.size w0 w' := cb
 have HW0 := hidb hw0
 have k1 : ¬ k < 1 := by omega
 have k2 : ¬ order < -1 := by omega
 have k3 : ¬ 3 < order := by omega
 have hk0 := h0.2
 have hla0 := hla.1
 have hla1 := hla.2
 have hz0 : w0.heap.size = w.heap.size + 1 + 1 + 1 := by rw [hw0];simp
 have HQ : Hid (∀ W,Below w0.heap.size w0 W -> W.cell? ⟨w.heap.size,0,none⟩ = some (.int .i64 pg) /\ W.cell? ⟨w.heap.size,1,none⟩ = some (.slice A n c) /\ W.cell? ⟨w.heap.size,2,none⟩ = some (.slice A2 n2 c2) /\ W.cell? ⟨w.heap.size,3,none⟩ = some (.int .i64 la) /\ ∀ j,W.frozen? ⟨w.heap.size,j,none⟩ = false) := hidb (fun W hb => by
  have hlt : w.heap.size < w0.heap.size := by omega
  refine ⟨?_,?_,?_,?_,fun j => ?_⟩
  ·rw [hb.cell (p := ⟨w.heap.size,0,none⟩) hlt,hw0,World.cell?_alloc_lt _ _ _ (by simp;omega),World.cell?_alloc_lt _ _ _ (by simp)];simp
  ·rw [hb.cell (p := ⟨w.heap.size,1,none⟩) hlt,hw0,World.cell?_alloc_lt _ _ _ (by simp;omega),World.cell?_alloc_lt _ _ _ (by simp)];simp
  ·rw [hb.cell (p := ⟨w.heap.size,2,none⟩) hlt,hw0,World.cell?_alloc_lt _ _ _ (by simp;omega),World.cell?_alloc_lt _ _ _ (by simp)];simp
  ·rw [hb.cell (p := ⟨w.heap.size,3,none⟩) hlt,hw0,World.cell?_alloc_lt _ _ _ (by simp;omega),World.cell?_alloc_lt _ _ _ (by simp)];simp
  ·rw [hb.frozen (p := ⟨w.heap.size,j,none⟩) hlt,hw0,World.frozen?_alloc_past _ _ _ (by simp;omega),World.frozen?_alloc_past _ _ _ (by simp)];exact xve w _ _ j)
 have hl1 : n <= 1024 := by omega
 have hl2 : 1024 <= n := by omega
 have HN := hidb hn
 have HN2 := hidb hn2
 have HPG := hidb hpg
 have HLA := hidb hla2
 have HG3 := hidb g3
 have HG7 := hidb g7
 clear hw0 cb hok h0 h1 hb hla hlen hn hn2 hpg hla2 g3 g7
 go_enter Tryz.func71,Tryz.ntmps71
 have hz1 : ∀ w1 : World,Below w0.heap.size w0 w1 -> w.heap.size < w1.heap.size /\ w.heap.size + 1 < w1.heap.size /\ w.heap.size + 1 + 1 < w1.heap.size := fun w1 hb => by have := hb.size;omega
 have HZ1 := hidb hz1
 have HZ0 := hidb hz0
 clear hz0 hz1
 go_wp2_with (go_at_call 145;rw [<- HW0.out];(with_reducible refine cb2.mono ?_);rintro e w1 ⟨rfl,hb1⟩;obtain ⟨q0,q1,q2,q3,qz⟩ := HQ.out _ hb1;have qz0 := qz 0;have qz1 := qz 1;have qz2 := qz 2;have qz3 := qz 3;clear qz;obtain ⟨z0,z1,z2⟩ := HZ1.out _ hb1)
 have hR := Rn.one (w := w1.alloc (.cells #[.int .i64 (S : Int),.int .i64 k] 47)) (S : Int) k 47
 have hbw1 : Below w.heap.size w ((w1.alloc (.cells #[.int .i64 (S : Int),.int .i64 k] 47)).alloc (.cells #[.int .i64 (S : Int),.int .i64 k] 47)) := ((hb0.trans (hb1.mono (by have := HZ0.out;omega))).alloc (by omega) _).alloc (by simp;omega) _
 have cp := xZe A (some ⟨(w1.alloc (.cells #[.int .i64 (S : Int),.int .i64 k] 47)).heap.size,0,none⟩) n c 1 1 h.free [((S : Int),k)] false _ ((g4.below hbw1).more hbw1.size) hR hl1 hl2 (by omega) g1 g2 (fun r hr => by rw [List.mem_singleton.1 hr];exact ⟨by unfold in64;simp only;omega,by unfold in64;simp only;omega⟩)
 rw [show (w1.alloc (.cells #[.int .i64 (S : Int),.int .i64 k] 47)).heap.size = w1.heap.size + 1 by simp] at cp
 unfold ResBoolsNo at cp
 rw [hFF] at cp
 have hfl : FF.1.length = n := by rw [<- hFF,xz4];exact HN.out
 rw [hfl] at cp
 have HB1 := hidb hb1
 have HBW1 := hidb hbw1
 have HFL := hidb hfl
 have CP := hidb cp
 have HFF := hidb hFF
 clear hR hbw1 hb1 cb2 hfl cp hFF
 have HBA : Hid (∀ w2,Below ((w1.alloc (.cells #[.int .i64 (S : Int),.int .i64 k] 47)).alloc (.cells #[.int .i64 (S : Int),.int .i64 k] 47)).heap.size ((w1.alloc (.cells #[.int .i64 (S : Int),.int .i64 k] 47)).alloc (.cells #[.int .i64 (S : Int),.int .i64 k] 47)) w2 ->
   Below w0.heap.size w0 w2 /\ w1.heap.size + 1 < w2.heap.size /\ w2.cell? ⟨w1.heap.size,0,none⟩ = some (.int .i64 (S : Int)) /\ w2.cell? ⟨w1.heap.size,1,none⟩ = some (.int .i64 k)) := hidb (fun w2 hb2 => by
  have e := hb2.size
  have e1 := HB1.out.size
  simp at e
  refine ⟨HB1.out.trans (((Below.refl w1.heap.size w1).alloc (Nat.le_refl _) _).alloc (by simp) _ |>.mono (by omega) |>.trans (hb2.mono (by simp;omega))),by omega,?_,?_⟩
  ·rw [hb2.cell (p := ⟨w1.heap.size,0,none⟩) (by simp;omega),World.cell?_alloc_lt _ _ _ (by simp)];simp
  ·rw [hb2.cell (p := ⟨w1.heap.size,1,none⟩) (by simp;omega),World.cell?_alloc_lt _ _ _ (by simp)];simp)
 go_wp2_with (go_at_call 64;(with_reducible refine CP.out.mono ?_);rintro e w2 ⟨A3,c3,rfl,k1,k2,k3,k4,hb2,k6⟩;have K1 := hidb k1;have K2 := hidb k2;have K3 := hidb k3;have K4 := hidb k4;have K6 := hidb k6;clear k1 k2 k3 k4 k6;obtain ⟨hb02,z3,r0,r1⟩ := HBA.out _ hb2;obtain ⟨p0,p1,p2,p3,pz⟩ := HQ.out _ hb02;have pz0 := pz 0;have pz1 := pz 1;have pz2 := pz 2;have pz3 := pz 3;clear pz;have HB2 := hidb hb2;have HB02 := hidb hb02;clear hb2 hb02)
 obtain ⟨W3,hW3⟩ : ∃ W3,W3 = ((w2.setCell ⟨w.heap.size,1,none⟩ (.slice A3 n c3)).setCell ⟨w.heap.size,3,none⟩ (.int .i64 (la + 1))).alloc (.cells #[.int .i64 (la + 1),.int .i64 (S : Int),.int .i64 k,.int .i64 order] 49) := ⟨_,rfl⟩
 rw [<- hW3]
 have hz3 : W3.heap.size = w2.heap.size + 1 := by rw [hW3];simp
 have hzz : w.heap.size + 1 + 1 + 1 <= w2.heap.size := by have := HB02.out.size;have := HZ0.out;omega
 have HS : Hid (∀ W,Below W3.heap.size W3 W -> W.cell? ⟨w.heap.size,2,none⟩ = some (.slice A2 n2 c2) /\ W.cell? ⟨w2.heap.size,0,none⟩ = some (.int .i64 (la + 1)) /\ W.cell? ⟨w2.heap.size,1,none⟩ = some (.int .i64 (S : Int)) /\ W.cell? ⟨w2.heap.size,2,none⟩ = some (.int .i64 k) /\ W.cell? ⟨w2.heap.size,3,none⟩ = some (.int .i64 order)) := hidb (fun W hb => by
  refine ⟨?_,?_,?_,?_,?_⟩
  ·rw [hb.cell (p := ⟨w.heap.size,2,none⟩) (by show w.heap.size < _;omega),hW3,World.cell?_alloc_lt _ _ _ (by simp;omega)]
   rw [World.cell?_setCell_other _ _ _ _ (by simp),World.cell?_setCell_other _ _ _ _ (by simp)];exact p2
  all_goals
   rw [hb.cell (by show w2.heap.size < _;omega),hW3,World.cell?_alloc_at _ _ _ _ (by simp)];rfl)
 obtain ⟨j0,hji,hjz0,hjz1,hjz2⟩ := info_parts xjf
 have HW3 := hidb hW3
 have HZ3 := hidb hz3
 clear hW3 hz3
 have HB3 : Hid (Below w.heap.size w W3) := hidb (by
  rw [HW3.out]
  exact (((hb0.trans (HB02.out.mono (by have := HZ0.out;omega))).setCell (p := ⟨w.heap.size,1,none⟩) (Nat.le_refl _) _).setCell (p := ⟨w.heap.size,3,none⟩) (Nat.le_refl _) _).alloc (by simp;omega) _)
 have HG8 : Hid (∀ W,Below W3.heap.size W3 W -> CellsAt W A2 (cellsAll scells h.l)) := hidb (fun W hb => Sn.cellsAt (RowOf.below g8 (HB3.out.trans (hb.mono HB3.out.size))))
 have HOne : Hid (∀ u ∈ cellsAll scells h.l,u.oneCell' = true) := hidb xvl
 have HLen : Hid ((cellsAll scells h.l).length = n2 * 4) := hidb (by rw [xq5 xqg,HN2.out])
 have HA0 : Hid (A2 = none -> n2 = 0 /\ c2 = 0) := hidb (fun e => by
  have h0 : n2 = 0 := by
   refine Nat.eq_zero_of_not_pos fun hp => ?_
   obtain ⟨b,off,e2,_⟩ := g8.2 hp
   rw [e] at e2;cases e2
  exact ⟨h0,HG7.out e⟩)
 have HS4 : Hid (∀ W,Below W3.heap.size W3 W -> W.cell? ⟨w2.heap.size,0,none⟩ = some (.int .i64 (la + 1)) /\ W.cell? ⟨w2.heap.size,1,none⟩ = some (.int .i64 (S : Int)) /\ W.cell? ⟨w2.heap.size,2,none⟩ = some (.int .i64 k) /\ W.cell? ⟨w2.heap.size,3,none⟩ = some (.int .i64 order)) := hidb (fun W hb => (HS.out W hb).2)
 have HSS : Hid (∀ W v,Below W3.heap.size W3 W -> (W.setCell ⟨w.heap.size,2,none⟩ v).cell? ⟨w2.heap.size,0,none⟩ = some (.int .i64 (la + 1)) /\ (W.setCell ⟨w.heap.size,2,none⟩ v).cell? ⟨w2.heap.size,1,none⟩ = some (.int .i64 (S : Int)) /\ (W.setCell ⟨w.heap.size,2,none⟩ v).cell? ⟨w2.heap.size,2,none⟩ = some (.int .i64 k) /\ (W.setCell ⟨w.heap.size,2,none⟩ v).cell? ⟨w2.heap.size,3,none⟩ = some (.int .i64 order)) := hidb (fun W v hb => by
  obtain ⟨e0,e1,e2,e3⟩ := HS4.out W hb
  refine ⟨?_,?_,?_,?_⟩
  all_goals
   rw [World.cell?_setCell_other _ _ _ _ (fun e => by injection e with e;omega)]
   assumption)
 have HL2 : Hid (∀ W,Below W3.heap.size W3 W -> W.cell? ⟨w.heap.size,2,none⟩ = some (.slice A2 n2 c2) /\ W.frozen? ⟨w.heap.size,2,none⟩ = false) := hidb (fun W hb => ⟨(HS.out W hb).1,by
  rw [hb.frozen (p := ⟨w.heap.size,2,none⟩) (by show w.heap.size < _;have := HZ3.out;omega),HW3.out,World.frozen?_alloc_past _ _ _ (by simp;omega)]
  simpa using pz2⟩)
 obtain ⟨l2,l2z⟩ := HL2.out W3 (Below.refl _ _)
 obtain ⟨m0',m1',m2',m3'⟩ := HS4.out W3 (Below.refl _ _)
 have hbtlt : w2.heap.size < W3.heap.size := by have := HZ3.out;omega
 have hb0lt : w.heap.size < W3.heap.size := by have := HZ3.out;omega
 go_cut [62] from 55 to 62 (fun v wx => ∃ A' c' w'',v = .pointer (some ⟨w.heap.size,2,none⟩) /\ wx = w''.setCell ⟨w.heap.size,2,none⟩ (.slice A' (n2 + 1) c') /\ Below W3.heap.size W3 w'' /\ w''.ownsRow W3.heap.size 49 4 (.slice A' (n2 + 1) c') (n2 + 1) (cellsAll scells h.l ++ scells (la + 1,(S : Int),k,order)))
 case first =>
  clear HV hr1 hr2 hr3 hr5 hr6 hr7 g1 g2 g4 g5 g6 g9 g10 g12 hb0 HQ HZ1 HZ0 q0 q1 q2 q3 qz0 qz1 qz2 qz3 z0 z1 z2 HB1 HBW1 HFL HBA CP K1 K2 K3 K4 K6 z3 r0 r1 p0 p1 p2 p3 pz0 pz1 pz2 pz3 HB2 HB02 HSS HS HW3 HB3 HW0 HN HN2 HPG HLA HG3 HG7 k1 k2 k3 hk0 hP g8
  go_region_law
   (first
    | (refine xqa rfl (.tmp 55) (.tmp 57) 30 rfl W3.heap.size 49 j0 (.agg #[.int .i64 0,.int .i64 0,.int .i64 0,.int .i64 0]) 4 32 Tryz.underlying30 hji hjz0 hjz1 hjz2 rfl (by decide) _ 0 [] rfl (by first | exact (own_empty' _ _ _ _ _ (by first | rfl | simp) (by first | exact Nat.le_refl _ | simp)).drew | exact ((own_empty' _ _ _ _ _ (by first | rfl | simp) (by first | exact Nat.le_refl _ | simp)).alloc _).drew) (by first | omega | (simp;done) | (simp;omega)) A2 n2 c2 (cellsAll scells h.l) rfl HLen.out HA0.out (HG8.out _ (by repeat (first | assumption | exact Below.refl _ _ | refine Below.drew ?_ | refine Below.alloc ?_ (by first | omega | (simp;done) | (simp;omega)) _))) HOne.out (by unfold maxLen;omega) (by omega) ?_;intro A5 c5 w5 hown5 hg5;have hB5 : Below W3.heap.size W3 w5 := Below.grown (by repeat (first | assumption | exact Below.refl _ _ | refine Below.drew ?_ | refine Below.alloc ?_ (by first | omega | (simp;done) | (simp;omega)) _)) hg5 (by first | omega | (simp;done) | (simp;omega)) (fun q hq => xJd hq (by first | omega | (simp;done) | (simp;omega)));have hz5 : W3.heap.size <= w5.heap.size := hB5.size;obtain ⟨v0,v1,v2,v3⟩ := HS4.out _ hB5;have vlt : w2.heap.size < w5.heap.size := (by omega);rw [List.nil_append,Nat.zero_add] at hown5;have hown5' : w5.ownsRow W3.heap.size 49 4 (.slice A5 (0 + n2) c5) n2 (cellsAll scells h.l) := by rw [Nat.zero_add];exact hown5)
    | (refine xqa rfl (.tmp 58) (.tmp 60) 30 rfl W3.heap.size 49 j0 (.agg #[.int .i64 0,.int .i64 0,.int .i64 0,.int .i64 0]) 4 32 Tryz.underlying30 hji hjz0 hjz1 hjz2 rfl (by decide) _ n2 (cellsAll scells h.l) rfl (by first | exact hown5 | exact hown5.alloc _ | exact hown5' | exact hown5'.alloc _) (by first | omega | (simp;done) | (simp;omega)) (some ⟨_,0,none⟩) 1 1 (scells (la + 1,(S : Int),k,order)) rfl rfl (fun h => by cases h) (by first | exact cells_new' _ _ _ _ (by first | rfl | simp) | (refine CellsAt.grown ?_ hg5 (yj0 (by first | omega | (simp;done)));first | exact (cells_new' _ _ _ _ (by first | rfl | simp)).drew | exact ((cells_new' _ _ _ _ (by first | rfl | simp)).alloc _).drew)) (xWn _) (by unfold maxLen;omega) (by omega) ?_;intro A6 c6 w6 hown6 hg6;have hB6 : Below W3.heap.size W3 w6 := Below.grown (by repeat (first | assumption | exact Below.refl _ _ | refine Below.drew ?_ | refine Below.alloc ?_ (by first | omega | (simp;done) | (simp;omega)) _)) hg6 (by first | omega | (simp;done) | (simp;omega)) (by first | exact fun q hq => (hown5.lt q hq).1 | exact fun q hq => (hown5'.lt q hq).1);have hz6 : W3.heap.size <= w6.heap.size := hB6.size;obtain ⟨m2,m2z⟩ := HL2.out _ hB6;have HO6 := hidb hown6;clear hown6 hg6))
  all_goals
   go_wp2_with fail
   go_meet
   exact ⟨A6,c6,w6,rfl,rfl,hB6,HO6.out⟩
 case rest =>
  obtain ⟨A7,c7,w7,e7,rfl,hB7,HO7⟩ := hcut
  subst e7
  have HB7 := hidb hB7
  have HO7' := hidb HO7
  clear hB7 HO7
  obtain ⟨W4,hW4⟩ : ∃ W4,W4 = w7.setCell ⟨w.heap.size,2,none⟩ (.slice A7 (n2 + 1) c7) := ⟨_,rfl⟩
  have hkeep : ∀ (b i : Nat),b < W3.heap.size -> (b = w.heap.size -> i ≠ 2) -> W4.cell? ⟨b,i,none⟩ = W3.cell? ⟨b,i,none⟩ := fun b i hb hi => by
   rw [hW4,World.cell?_setCell_other _ _ _ _ (fun e => by injection e with e1 e2;exact hi e1.symm e2.symm),HB7.out.cell (p := ⟨b,i,none⟩) hb]
  have hkeep3 : ∀ (b i : Nat),b < w0.heap.size -> (b = w.heap.size -> i ≠ 1 /\ i ≠ 3) -> W3.cell? ⟨b,i,none⟩ = w0.cell? ⟨b,i,none⟩ := fun b i hb hi => by
   have h2 := HB02.out.size
   rw [HW3.out,World.cell?_alloc_past _ _ _ (by simp;omega),World.cell?_setCell_other _ _ _ _ (fun e => by injection e with e1 e2;exact (hi e1.symm).2 e2.symm),World.cell?_setCell_other _ _ _ _ (fun e => by injection e with e1 e2;exact (hi e1.symm).1 e2.symm),HB02.out.cell (p := ⟨b,i,none⟩) hb]
  have hfz : ∀ (b j : Nat),b < w0.heap.size -> W4.frozen? ⟨b,j,none⟩ = w0.frozen? ⟨b,j,none⟩ := fun b j hb => by
   have h2 := HB02.out.size
   rw [hW4]
   have e1 : (w7.setCell ⟨w.heap.size,2,none⟩ (.slice A7 (n2 + 1) c7)).frozen? ⟨b,j,none⟩ = w7.frozen? ⟨b,j,none⟩ := by simp
   rw [e1,HB7.out.frozen (p := ⟨b,j,none⟩) (by have := HZ3.out;show b < _;omega),HW3.out,World.frozen?_alloc_past _ _ _ (by simp;omega)]
   have e2 : ((w2.setCell ⟨w.heap.size,1,none⟩ (.slice A3 n c3)).setCell ⟨w.heap.size,3,none⟩ (.int .i64 (la + 1))).frozen? ⟨b,j,none⟩ = w2.frozen? ⟨b,j,none⟩ := by simp
   rw [e2,HB02.out.frozen (p := ⟨b,j,none⟩) hb]
  have hz0 := HZ0.out
  have hz3 := HZ3.out
  have hz2 := HB02.out.size
  have hc7 : w7.cell? ⟨w.heap.size,2,none⟩ = some (.slice A2 n2 c2) := (HL2.out _ HB7.out).1
  have HC : Hid (W4.cell? ⟨w.heap.size,0,none⟩ = some (.int .i64 pg) /\ W4.cell? ⟨w.heap.size,1,none⟩ = some (.slice A3 n c3) /\ W4.cell? ⟨w.heap.size,2,none⟩ = some (.slice A7 (n2 + 1) c7) /\ W4.cell? ⟨w.heap.size,3,none⟩ = some (.int .i64 (la + 1))) := hidb (by
   refine ⟨?_,?_,?_,?_⟩
   ·rw [hkeep _ _ (by omega) (by simp),HW3.out,World.cell?_alloc_past _ _ _ (by simp;omega),World.cell?_setCell_other _ _ _ _ (by simp),World.cell?_setCell_other _ _ _ _ (by simp)];exact p0
   ·rw [hkeep _ _ (by omega) (by simp),HW3.out,World.cell?_alloc_past _ _ _ (by simp;omega),World.cell?_setCell_other _ _ _ _ (by simp)];exact World.cell?_setCell_same _ _ _ p1
   ·rw [hW4];exact World.cell?_setCell_same _ _ _ hc7
   ·rw [hkeep _ _ (by omega) (by simp),HW3.out,World.cell?_alloc_past _ _ _ (by simp;omega)];exact World.cell?_setCell_same _ _ _ (by rw [World.cell?_setCell_other _ _ _ _ (by simp)];exact p3))
  have HD : Hid (W4.cell? ⟨w2.heap.size,0,none⟩ = some (.int .i64 (la + 1)) /\ W4.cell? ⟨w2.heap.size,1,none⟩ = some (.int .i64 (S : Int)) /\ W4.cell? ⟨w2.heap.size,2,none⟩ = some (.int .i64 k) /\ W4.cell? ⟨w2.heap.size,3,none⟩ = some (.int .i64 order)) := hidb (by
   rw [hW4];exact HSS.out _ _ HB7.out)
  have HE : Hid (W4.cell? ⟨w.heap.size + 1,0,none⟩ = some (.int .i64 0) /\ W4.cell? ⟨w.heap.size + 1,1,none⟩ = some (.slice none 0 0) /\ W4.cell? ⟨w.heap.size + 1,2,none⟩ = some (.slice none 0 0) /\ W4.cell? ⟨w.heap.size + 1,3,none⟩ = some (.int .i64 0)) := hidb (by
   refine ⟨?_,?_,?_,?_⟩
   all_goals
    rw [hkeep _ _ (by omega) (fun h => by omega),hkeep3 _ _ (by omega) (fun h => by omega),HW0.out,World.cell?_alloc_past _ _ _ (by simp),World.cell?_alloc_at _ _ _ _ (by simp)];rfl)
  have HE2 : Hid (W4.cell? ⟨w.heap.size + 1 + 1,0,none⟩ = some (.int .i64 0) /\ W4.cell? ⟨w.heap.size + 1 + 1,1,none⟩ = some (.int .i64 0) /\ W4.cell? ⟨w.heap.size + 1 + 1,2,none⟩ = some (.int .i64 0) /\ W4.cell? ⟨w.heap.size + 1 + 1,3,none⟩ = some (.int .i64 0)) := hidb (by
   refine ⟨?_,?_,?_,?_⟩
   all_goals
    rw [hkeep _ _ (by omega) (fun h => by omega),hkeep3 _ _ (by omega) (fun h => by omega),HW0.out,World.cell?_alloc_at _ _ _ _ (by simp)];rfl)
  have HZ4 : Hid (∀ j,W4.frozen? ⟨w.heap.size + 1,j,none⟩ = false /\ W4.frozen? ⟨w.heap.size + 1 + 1,j,none⟩ = false) := hidb (fun j => by
   constructor
   ·rw [hfz _ _ (by omega),HW0.out,World.frozen?_alloc_past _ _ _ (by simp),World.frozen?_alloc_at _ _ _ _ (by simp)]
   ·rw [hfz _ _ (by omega),HW0.out,World.frozen?_alloc_at _ _ _ _ (by simp)])
  have HPA : Hid (InP P A3 /\ ∀ a,A3 = some a -> a.block ≠ w.heap.size /\ a.block ≠ w.heap.size + 1 /\ a.block ≠ w.heap.size + 1 + 1) := hidb (by
   rcases K6.out with h6 | h6
   ·refine ⟨fun a ha => g9 a (h6 ▸ ha),fun a ha => ?_⟩
    have hn0 : 0 < n := by omega
    obtain ⟨b,off,e2,hb,_⟩ := g4.2 hn0
    rw [<- h6,ha] at e2
    injection e2 with e2
    subst e2
    simp only
    omega
   ·have hle : ∀ a,A3 = some a -> w1.heap.size + 2 <= a.block := fun a ha => by have := h6 a ha;simp at this;omega
    exact ⟨fun a ha => hP _ (by have := hle a ha;have := HB1.out.size;omega),fun a ha => by have := hle a ha;have := HB1.out.size;omega⟩)
  have HSl : Hid (Sl W4 W4.heap.size A3 n (FF.1.map bv)) := hidb (by
   have q1 := (K4.out.aside (p := ⟨w.heap.size,1,none⟩) (fun a ha => (HPA.out.2 a ha).1) (.slice A3 n c3)).aside (p := ⟨w.heap.size,3,none⟩) (fun a ha => (HPA.out.2 a ha).1) (.int .i64 (la + 1))
   have q2 := q1.alloc (by simp) (.cells #[.int .i64 (la + 1),.int .i64 (S : Int),.int .i64 k,.int .i64 order] 49)
   rw [<- HW3.out] at q2
   have q3 := (q2.below (HB7.out.mono (by omega))).more (B' := w7.heap.size) (by have := HB7.out.size;omega)
   rw [hW4]
   exact (q3.aside (p := ⟨w.heap.size,2,none⟩) (fun a ha => (HPA.out.2 a ha).1) _).more (by simp))
  have HO4 : Hid (W4.ownsRow W3.heap.size 49 4 (.slice A7 (n2 + 1) c7) (n2 + 1) (cellsAll scells (h.l ++ [(la + 1,(S : Int),k,order)]))) := hidb (by
   rw [hW4,xq7,xx6]
   exact ownsRow_setCell_below HO7'.out (a := ⟨w.heap.size,2,none⟩) hb0lt _)
  have HBW : Hid (Below w.heap.size w W4) := hidb (by
   rw [hW4];exact (HB3.out.trans (HB7.out.mono HB3.out.size)).setCell (p := ⟨w.heap.size,2,none⟩) (Nat.le_refl _) _)
  have HC7 : Hid (n2 + 1 <= c7 /\ c7 <= 9223372036854775807 /\ (A7 = none -> c7 = 0)) := hidb (xV2 HO7'.out)
  have HPA7 : Hid (InP P A7) := hidb (fun a ha => hP _ (by have := (HO7'.out.lt a.block (by rw [ha];rfl)).1;omega))
  rw [<- hW4]
  have HW4 := hidb hW4
  clear hW4 hkeep hkeep3 hfz hz0 hz3 hz2 hc7
  obtain ⟨x0,x1,x2,x3⟩ := HC.out
  obtain ⟨d0,d1,d2,d3⟩ := HD.out
  obtain ⟨e0,e1,e2,e3⟩ := HE.out
  obtain ⟨f0,f1,f2,f3⟩ := HE2.out
  have n1 : ¬ w.heap.size + 1 = w2.heap.size := by omega
  have n2' : ¬ w.heap.size + 1 + 1 = w2.heap.size := by omega
  have n3 : ¬ w2.heap.size = w.heap.size + 1 := by omega
  have n4 : ¬ w2.heap.size = w.heap.size + 1 + 1 := by omega
  have n5 : ¬ w.heap.size + 1 + 1 = w.heap.size := by omega
  have n6 : ¬ w.heap.size = w.heap.size + 1 + 1 := by omega
  have n7 : ¬ w.heap.size + 1 = w.heap.size := by omega
  have n8 : ¬ w.heap.size + 1 = w.heap.size + 1 + 1 := by omega
  have n9 : ¬ w.heap.size + 1 + 1 = w.heap.size + 1 := by omega
  have f4 := (HZ4.out 0).1
  have f5 := (HZ4.out 1).1
  have f6 := (HZ4.out 2).1
  have f7 := (HZ4.out 3).1
  have f8 := (HZ4.out 0).2
  have f9 := (HZ4.out 1).2
  have f10 := (HZ4.out 2).2
  have f11 := (HZ4.out 3).2
  go_wp2
  go_region_held3 (fun W' => W'.cell? ⟨w.heap.size,0,none⟩ = some (.int .i64 pg) /\ W'.cell? ⟨w.heap.size,1,none⟩ = some (.slice A3 n c3) /\ W'.cell? ⟨w.heap.size,2,none⟩ = some (.slice A7 (n2 + 1) c7) /\ W'.cell? ⟨w.heap.size,3,none⟩ = some (.int .i64 (la + 1)) /\ W'.cell? ⟨w2.heap.size,0,none⟩ = some (.int .i64 (la + 1)) /\ W'.cell? ⟨w2.heap.size,1,none⟩ = some (.int .i64 (S : Int)) /\ W'.cell? ⟨w2.heap.size,2,none⟩ = some (.int .i64 k) /\ W'.cell? ⟨w2.heap.size,3,none⟩ = some (.int .i64 order)) (go_keep) (fail)
  go_wp2
  obtain ⟨s0,s1,s2,s3⟩ := xqy W4 (w.heap.size + 1) (.int .i64 pg) (.slice A3 n c3) (.slice A7 (n2 + 1) c7) (.int .i64 (la + 1)) _ _ _ _ e0 e1 e2 e3
  have a2 := fun i => aside4 W4 (w.heap.size + 1) (w.heap.size + 1 + 1) (by omega) (.int .i64 pg) (.slice A3 n c3) (.slice A7 (n2 + 1) c7) (.int .i64 (la + 1)) i
  obtain ⟨t0,t1,t2,t3⟩ := xqy _ (w.heap.size + 1 + 1) (.int .i64 (la + 1)) (.int .i64 (S : Int)) (.int .i64 k) (.int .i64 order) _ _ _ _ ((a2 0).trans f0) ((a2 1).trans f1) ((a2 2).trans f2) ((a2 3).trans f3)
  have a1 := fun i => aside4 ((((W4.setCell ⟨w.heap.size + 1,0,none⟩ (.int .i64 pg)).setCell ⟨w.heap.size + 1,1,none⟩ (.slice A3 n c3)).setCell ⟨w.heap.size + 1,2,none⟩ (.slice A7 (n2 + 1) c7)).setCell ⟨w.heap.size + 1,3,none⟩ (.int .i64 (la + 1))) (w.heap.size + 1 + 1) (w.heap.size + 1) (by omega) (.int .i64 (la + 1)) (.int .i64 (S : Int)) (.int .i64 k) (.int .i64 order) i
  have b0 := (a1 0).trans s0
  have b1 := (a1 1).trans s1
  have b2 := (a1 2).trans s2
  have b3 := (a1 3).trans s3
  clear a1 a2
  refine bodyPost_ret (v := .tuple #[.agg #[.int .i64 pg,.slice A3 n c3,.slice A7 (n2 + 1) c7,.int .i64 (la + 1)],.agg #[.int .i64 (la + 1),.int .i64 (S : Int),.int .i64 k,.int .i64 order],.int .i64 0]) (by simp [results,Tryz.results71,go_sem,b0,b1,b2,b3,t0,t1,t2,t3]) rfl ?_
  have hlen1 : FF.1.length = n := HFL.out
  have hlen2 : (h.l ++ [(la + 1,(S : Int),k,order)]).length = n2 + 1 := by rw [List.length_append,HN2.out];rfl
  have hsl := ((HSl.out.aside4 (b := w.heap.size + 1) (fun a ha => (HPA.out.2 a ha).2.1) (.int .i64 pg) (.slice A3 n c3) (.slice A7 (n2 + 1) c7) (.int .i64 (la + 1))).aside4 (b := w.heap.size + 1 + 1) (fun a ha => (HPA.out.2 a ha).2.2) (.int .i64 (la + 1)) (.int .i64 (S : Int)) (.int .i64 k) (.int .i64 order))
  have hsn := xvm (xvm HO4.out (b := w.heap.size + 1) (by have := HZ3.out;omega) (.int .i64 pg) (.slice A3 n c3) (.slice A7 (n2 + 1) c7) (.int .i64 (la + 1))) (b := w.heap.size + 1 + 1) (by have := HZ3.out;omega) (.int .i64 (la + 1)) (.int .i64 (S : Int)) (.int .i64 k) (.int .i64 order)
  have hbf := xx9 (xx9 HBW.out (b := w.heap.size + 1) (by omega) (.int .i64 pg) (.slice A3 n c3) (.slice A7 (n2 + 1) c7) (.int .i64 (la + 1))) (b := w.heap.size + 1 + 1) (by omega) (.int .i64 (la + 1)) (.int .i64 (S : Int)) (.int .i64 k) (.int .i64 order)
  exact ⟨⟨_,rfl,his_of (h := ⟨pg,FF.1,h.l ++ [(la + 1,(S : Int),k,order)],la + 1⟩) hlen1 hlen2 rfl rfl K1.out K2.out K3.out (sl_drew (hsl.more (by simp))) HC7.out.1 HC7.out.2.1 HC7.out.2.2 (sn_drew (RowOf.of_own xqg hsn hlen2)) HPA.out.1 HPA7.out (xWo hsn)⟩,hbf.drew⟩
set_option maxHeartbeats 1000000 in
theorem xQr (P : Nat -> Prop) (h : HeapV) (v : Value) (k order : Int) (w : World) (hv : HIs w P h v) (h0 : in64 k) (h1 : in64 order) (hok : ¬ (k < 1 \/ order < -1 \/ 3 < order)) (hlen : h.free.length = 1024) (hb : fBest h.free k = none) :
  Calls Tryz.prog 71 #[v,.int .i64 k,.int .i64 order] w (MadeIs w P (h,spanNone,3)) := by
 have HV := hidb hv
 obtain ⟨A,c,A2,c2,e0,g1,g2,g3,g4,_⟩ := hv
 subst e0
 obtain ⟨n,hn⟩ : ∃ n,h.free.length = n := ⟨_,rfl⟩
 obtain ⟨n2,hn2⟩ : ∃ n2,h.l.length = n2 := ⟨_,rfl⟩
 rw [hn,hn2] at HV ⊢
 obtain ⟨pg,hpg⟩ : ∃ pg,h.pages = pg := ⟨_,rfl⟩
 obtain ⟨la,hla⟩ : ∃ la,h.last = la := ⟨_,rfl⟩
 rw [hpg,hla] at HV ⊢
 rw [hn] at g4 hlen
 have HF : Hid (∀ w',Below w.heap.size w w' -> MadeIs w P (h,spanNone,3) (.returned (.tuple #[.agg #[.int .i64 pg,.slice A n c,.slice A2 n2 c2,.int .i64 la],.agg #[.int .i64 0,.int .i64 0,.int .i64 0,.int .i64 0],.int .i64 3])) w') := hidb (fun w' hb => ⟨⟨_,rfl,HV.out.below hb⟩,hb⟩)
 obtain ⟨w0,hw0⟩ : ∃ w0,w0 = ((w.alloc (.cells #[.int .i64 pg,.slice A n c,.slice A2 n2 c2,.int .i64 la] 32)).alloc (.cells #[.int .i64 0,.slice none 0 0,.slice none 0 0,.int .i64 0] 32)).alloc (.cells #[.int .i64 0,.int .i64 0,.int .i64 0,.int .i64 0] 49) := ⟨_,rfl⟩
 have hb0 : Below w.heap.size w w0 := by
  rw [hw0]
  repeat (first | exact Below.refl _ _ | refine Below.alloc ?_ (by simp;try omega) _)
 have cb := xJw A n c h.free k w0 ((g4.below hb0).more hb0.size) (by omega) h0.1 h0.2
 rw [hb] at cb
 unfold RunIs at cb
 have cb2 : Calls Tryz.prog 145 #[.slice A n c,.int .i64 k] w0 fun e w' => e = .returned (.tuple #[.agg #[.int .i64 0,.int .i64 0],.bool false]) /\ Below w0.heap.size w0 w' := cb
 have k1 : ¬ k < 1 := by omega
 have k2 : ¬ order < -1 := by omega
 have k3 : ¬ 3 < order := by omega
 have hk0 := h0.2
 have hz0 : w0.heap.size = w.heap.size + 1 + 1 + 1 := by rw [hw0];simp
 have HC : Hid (∀ W,Below w0.heap.size w0 W -> ∀ b j,w.heap.size <= b -> b < w.heap.size + 3 -> W.cell? ⟨b,j,none⟩ = w0.cell? ⟨b,j,none⟩ /\ W.frozen? ⟨b,j,none⟩ = w0.frozen? ⟨b,j,none⟩) := hidb (fun W hW b j h1 h2 => ⟨hW.cell (p := ⟨b,j,none⟩) (by show b < _;omega),hW.frozen (p := ⟨b,j,none⟩) (by show b < _;omega)⟩)
 have HQ : Hid (∀ W,Below w0.heap.size w0 W -> (W.cell? ⟨w.heap.size,0,none⟩ = some (.int .i64 pg) /\ W.cell? ⟨w.heap.size,1,none⟩ = some (.slice A n c) /\ W.cell? ⟨w.heap.size,2,none⟩ = some (.slice A2 n2 c2) /\ W.cell? ⟨w.heap.size,3,none⟩ = some (.int .i64 la)) /\
   (W.cell? ⟨w.heap.size + 1,0,none⟩ = some (.int .i64 0) /\ W.cell? ⟨w.heap.size + 1,1,none⟩ = some (.slice none 0 0) /\ W.cell? ⟨w.heap.size + 1,2,none⟩ = some (.slice none 0 0) /\ W.cell? ⟨w.heap.size + 1,3,none⟩ = some (.int .i64 0)) /\
   (W.cell? ⟨w.heap.size + 1 + 1,0,none⟩ = some (.int .i64 0) /\ W.cell? ⟨w.heap.size + 1 + 1,1,none⟩ = some (.int .i64 0) /\ W.cell? ⟨w.heap.size + 1 + 1,2,none⟩ = some (.int .i64 0) /\ W.cell? ⟨w.heap.size + 1 + 1,3,none⟩ = some (.int .i64 0)) /\
   (∀ j,W.frozen? ⟨w.heap.size + 1,j,none⟩ = false /\ W.frozen? ⟨w.heap.size + 1 + 1,j,none⟩ = false)) := hidb (fun W hW => by
  have hc := HC.out W hW
  refine ⟨⟨?_,?_,?_,?_⟩,⟨?_,?_,?_,?_⟩,⟨?_,?_,?_,?_⟩,fun j => ⟨?_,?_⟩⟩
  iterate 4 (rw [(hc _ _ (Nat.le_refl _) (by omega)).1,hw0,World.cell?_alloc_past _ _ _ (by simp;omega),World.cell?_alloc_past _ _ _ (by simp),World.cell?_alloc_at _ _ _ _ rfl];rfl)
  iterate 4 (rw [(hc _ _ (by omega) (by omega)).1,hw0,World.cell?_alloc_past _ _ _ (by simp),World.cell?_alloc_at _ _ _ _ (by simp)];rfl)
  iterate 4 (rw [(hc _ _ (by omega) (by omega)).1,hw0,World.cell?_alloc_at _ _ _ _ (by simp)];rfl)
  ·rw [(hc _ _ (by omega) (by omega)).2,hw0,World.frozen?_alloc_past _ _ _ (by simp),World.frozen?_alloc_at _ _ _ _ (by simp)]
  ·rw [(hc _ _ (by omega) (by omega)).2,hw0,World.frozen?_alloc_at _ _ _ _ (by simp)])
 have HZ1 : Hid (∀ w1 : World,Below w0.heap.size w0 w1 -> w.heap.size < w1.heap.size /\ w.heap.size + 1 < w1.heap.size /\ w.heap.size + 1 + 1 < w1.heap.size) := hidb (fun w1 hb => by have := hb.size;omega)
 have HW0 := hidb hw0
 have HN := hidb hn
 have HZ0 := hidb hz0
 have HB0 := hidb hb0
 clear hw0 cb hok h0 h1 hb hlen hn hn2 hpg hla g1 g2 g3 g4 hz0 hb0
 go_enter Tryz.func71,Tryz.ntmps71
 go_wp2_with (go_at_call 145;rw [<- HW0.out];(with_reducible refine cb2.mono ?_);rintro e w1 ⟨rfl,hb1⟩;obtain ⟨⟨q0,q1,q2,q3⟩,⟨r0,r1,r2,r3⟩,⟨s0,s1,s2,s3⟩,qz⟩ := HQ.out _ hb1;have z0 := (qz 0).1;have z1 := (qz 1).1;have z2 := (qz 2).1;have z3 := (qz 3).1;have z4 := (qz 0).2;have z5 := (qz 1).2;have z6 := (qz 2).2;have z7 := (qz 3).2;clear qz;obtain ⟨y0,y1,y2⟩ := HZ1.out _ hb1;have HB1 := hidb hb1;clear hb1)
 obtain ⟨p0,p1,p2,p3⟩ := xqy w1 (w.heap.size + 1) (.int .i64 pg) (.slice A n c) (.slice A2 n2 c2) (.int .i64 la) _ _ _ _ r0 r1 r2 r3
 have a2 := fun i => aside4 w1 (w.heap.size + 1) (w.heap.size + 1 + 1) (by omega) (.int .i64 pg) (.slice A n c) (.slice A2 n2 c2) (.int .i64 la) i
 obtain ⟨t0,t1,t2,t3⟩ := xqy _ (w.heap.size + 1 + 1) (.int .i64 0) (.int .i64 0) (.int .i64 0) (.int .i64 0) _ _ _ _ ((a2 0).trans s0) ((a2 1).trans s1) ((a2 2).trans s2) ((a2 3).trans s3)
 have a1 := fun i => aside4 ((((w1.setCell ⟨w.heap.size + 1,0,none⟩ (.int .i64 pg)).setCell ⟨w.heap.size + 1,1,none⟩ (.slice A n c)).setCell ⟨w.heap.size + 1,2,none⟩ (.slice A2 n2 c2)).setCell ⟨w.heap.size + 1,3,none⟩ (.int .i64 la)) (w.heap.size + 1 + 1) (w.heap.size + 1) (by omega) (.int .i64 0) (.int .i64 0) (.int .i64 0) (.int .i64 0) i
 have al := fun (X : World) (b i : Nat) (u : Value) (hX : X.heap.size = w1.heap.size) (hb : b < w1.heap.size) (h : X.cell? ⟨b,i,none⟩ = some u) => (World.cell?_alloc_past (w := X) (.cells #[.int .i64 0,.int .i64 0] 47) b i (by omega)).trans h
 have b0 := al _ _ _ _ (by simp) y1 ((a1 0).trans p0)
 have b1 := al _ _ _ _ (by simp) y1 ((a1 1).trans p1)
 have b2 := al _ _ _ _ (by simp) y1 ((a1 2).trans p2)
 have b3 := al _ _ _ _ (by simp) y1 ((a1 3).trans p3)
 have u0 := al _ _ _ _ (by simp) y2 t0
 have u1 := al _ _ _ _ (by simp) y2 t1
 have u2 := al _ _ _ _ (by simp) y2 t2
 have u3 := al _ _ _ _ (by simp) y2 t3
 have hbf := (xx9 (xx9 (HB0.out.trans (HB1.out.mono HB0.out.size)) (b := w.heap.size + 1) (by omega) (.int .i64 pg) (.slice A n c) (.slice A2 n2 c2) (.int .i64 la)) (b := w.heap.size + 1 + 1) (by omega) (.int .i64 0) (.int .i64 0) (.int .i64 0) (.int .i64 0)).alloc (by simp;omega) (.cells #[.int .i64 0,.int .i64 0] 47)
 clear a1 a2 p0 p1 p2 p3 al t0 t1 t2 t3
 refine bodyPost_ret (v := .tuple #[.agg #[.int .i64 pg,.slice A n c,.slice A2 n2 c2,.int .i64 la],.agg #[.int .i64 0,.int .i64 0,.int .i64 0,.int .i64 0],.int .i64 3]) (by simp [results,Tryz.results71,go_sem,b0,b1,b2,b3,u0,u1,u2,u3]) rfl ?_
 exact HF.out _ hbf
theorem xV3 (P : Nat -> Prop) (h : HeapV) (v : Value) (k order : Int) (w : World) (hP : ∀ b,w.heap.size <= b -> P b) (hv : HIs w P h v) (h0 : in64 k) (h1 : in64 order) (hlen : h.free.length = 1024) (hl : h.l.length <= 65536) (hla : 0 <= h.last /\ h.last <= 1000000000) :
  Calls Tryz.prog 71 #[v,.int .i64 k,.int .i64 order] w (MadeIs w P (hMake h k order)) := by
 by_cases hok : k < 1 \/ order < -1 \/ 3 < order
 ·rw [show hMake h k order = (h,spanNone,1) by unfold hMake;rw [if_pos hok]]
  exact xV1 P h v k order w hv h0 h1 hok
 ·cases hb : fBest h.free k with
  | none =>
   rw [show hMake h k order = (h,spanNone,3) by unfold hMake;rw [if_neg hok,hb]]
   exact xQr P h v k order w hv h0 h1 hok hlen hb
  | some r =>
   rw [show hMake h k order = (⟨h.pages,(fPut h.free [(r.1,k)] false).1,h.l ++ [(h.last + 1,r.1,k,order)],h.last + 1⟩,(h.last + 1,r.1,k,order),0) by unfold hMake;rw [if_neg hok,hb]]
   exact xJ8 P h v k order r w hP hv h0 h1 hok hlen hl hla hb
def dropAll (h : HeapV) (ids : List Int) : Option HeapV := ids.foldl (fun o i => o.bind (hDrop1 · i)) (some h)
theorem xjg (h : HeapV) (ids : List Int) (i : Int) : dropAll h (ids ++ [i]) = (dropAll h ids).bind (hDrop1 · i) := by unfold dropAll;rw [List.foldl_append];rfl
theorem xkz : ∀ ids : List Int,ids.foldl (fun o i => o.bind (hDrop1 · i)) (none : Option HeapV) = none
 | [] => rfl
 | _ :: ids => xkz ids
theorem xV4 (h : HeapV) (ids : List Int) (k : Nat) (e : dropAll h (ids.take k) = none) : dropAll h ids = none := by
 have e2 : ids = ids.take k ++ ids.drop k := (List.take_append_drop k ids).symm
 unfold dropAll at e ⊢
 rw [e2,List.foldl_append,e,xkz]
theorem xv0 (h : HeapV) (ids : List Int) : hDrop h ids = match dropAll h ids with | some g => (g,0) | none => (h,6) := rfl
theorem RowOf.aside {E : Type} {R : List Value -> E -> Prop} {s : Nat} {w : World} {B n : Nat} {A : Option Addr} {l : List E} (h : RowOf R s w B A n l) {p : Addr} (hp : ∀ a,A = some a -> a.block ≠ p.block) (u : Value) : RowOf R s (w.setCell p u) B A n l :=
 ⟨h.1,fun hn => by
  obtain ⟨b,off,e,hb,hc⟩ := h.2 hn
  refine ⟨b,off,e,hb,fun j y hj => ?_⟩
  obtain ⟨cs,h1,h2,h3⟩ := hc j y hj
  exact ⟨cs,h1,fun k hk => (World.cell?_setCell_other w p ⟨b,off + j * s + k,none⟩ u (fun e2 => hp _ e (by rw [e2]))).trans (h2 k hk),h3⟩⟩
structure HAt (w : World) (P : Nat -> Prop) (b : Nat) (g : HeapV) (A : Option Addr) (c : Nat) (A2 : Option Addr) (n2 c2 : Nat) : Prop where
 c0 : w.cell? ⟨b,0,none⟩ = some (.int .i64 g.pages)
 c1 : w.cell? ⟨b,1,none⟩ = some (.slice A 1024 c)
 c2' : w.cell? ⟨b,2,none⟩ = some (.slice A2 n2 c2)
 c3 : w.cell? ⟨b,3,none⟩ = some (.int .i64 g.last)
 fr : ∀ j,w.frozen? ⟨b,j,none⟩ = false
 l1 : g.free.length = 1024
 l2 : g.l.length = n2
 k1 : 1024 <= c
 k2 : c <= 9223372036854775807
 s1 : Sl w w.heap.size A 1024 (g.free.map bv)
 k5 : n2 <= c2
 k6 : c2 <= 9223372036854775807
 k7 : A2 = none -> c2 = 0
 s2 : Sn w w.heap.size A2 n2 g.l
 p1 : InP P A
 p2 : InP P A2
 q1 : ∀ a,A = some a -> a.block + 2 < b \/ b < a.block
 q2 : ∀ a,A2 = some a -> a.block + 2 < b \/ b < a.block
 q3 : InP (· < w.heap.size) A2
 in64' : ∀ y ∈ g.l,in64 y.2.1 /\ in64 y.2.2.1
theorem HAt.below {w w' : World} {P : Nat -> Prop} {b : Nat} {g : HeapV} {A : Option Addr} {c : Nat} {A2 : Option Addr} {n2 c2 : Nat} (h : HAt w P b g A c A2 n2 c2) (hb : Below w.heap.size w w') : HAt w' P b g A c A2 n2 c2 := by
 have hlt := xq0 h.c0
 have hc : ∀ j,w'.cell? ⟨b,j,none⟩ = w.cell? ⟨b,j,none⟩ := fun j => hb.cell (p := ⟨b,j,none⟩) hlt
 exact ⟨(hc 0).trans h.c0,(hc 1).trans h.c1,(hc 2).trans h.c2',(hc 3).trans h.c3,fun j => (hb.frozen (p := ⟨b,j,none⟩) hlt).trans (h.fr j),h.l1,h.l2,h.k1,h.k2,(h.s1.below hb).more hb.size,h.k5,h.k6,h.k7,(RowOf.below h.s2 hb).more hb.size,h.p1,h.p2,h.q1,h.q2,fun a ha => Nat.lt_of_lt_of_le (h.q3 a ha) hb.size,h.in64'⟩
theorem HAt.setFree {w : World} {P : Nat -> Prop} {b : Nat} {g : HeapV} {A : Option Addr} {c : Nat} {A2 : Option Addr} {n2 c2 : Nat} (h : HAt w P b g A c A2 n2 c2) (A' : Option Addr) (c' : Nat) (f' : List Bool) (e1 : f'.length = 1024) (e2 : 1024 <= c') (e3 : c' <= 9223372036854775807)
  (e4 : Sl w w.heap.size A' 1024 (f'.map bv)) (e5 : InP P A') (e6 : ∀ a,A' = some a -> a.block + 2 < b \/ b < a.block) : HAt (w.setCell ⟨b,1,none⟩ (.slice A' 1024 c')) P b { g with free := f' } A' c' A2 n2 c2 := by
 have o : ∀ j,j ≠ 1 -> (w.setCell ⟨b,1,none⟩ (.slice A' 1024 c')).cell? ⟨b,j,none⟩ = w.cell? ⟨b,j,none⟩ := fun j hj => World.cell?_setCell_other w _ _ _ (fun e => hj (by injection e with e1 e2;exact e2.symm))
 refine ⟨(o 0 (by decide)).trans h.c0,World.cell?_setCell_same w _ _ h.c1,(o 2 (by decide)).trans h.c2',(o 3 (by decide)).trans h.c3,fun j => ?_,e1,h.l2,e2,e3,?_,h.k5,h.k6,h.k7,?_,e5,h.p2,e6,h.q2,fun a ha => by have := h.q3 a ha;simp;omega,h.in64'⟩
 ·have := h.fr j
  simpa using this
 ·exact (e4.aside (p := ⟨b,1,none⟩) (fun a ha => by have := e6 a ha;show a.block ≠ b;omega) _).more (by simp)
 ·exact (RowOf.aside h.s2 (p := ⟨b,1,none⟩) (fun a ha => by have := h.q2 a ha;show a.block ≠ b;omega) _).more (by simp)
theorem HAt.setSpans {w : World} {P : Nat -> Prop} {b : Nat} {g : HeapV} {A : Option Addr} {c : Nat} {A2 : Option Addr} {n2 c2 : Nat} (h : HAt w P b g A c A2 n2 c2) (A' : Option Addr) (n' c' : Nat) (l' : List (Int × Int × Int × Int)) (e1 : l'.length = n') (e2 : n' <= c') (e3 : c' <= 9223372036854775807) (e0 : A' = none -> c' = 0)
  (e4 : Sn w w.heap.size A' n' l') (e5 : InP P A') (e6 : ∀ a,A' = some a -> a.block + 2 < b \/ b < a.block) (e7 : ∀ y ∈ l',in64 y.2.1 /\ in64 y.2.2.1) (e8 : InP (· < w.heap.size) A') : HAt (w.setCell ⟨b,2,none⟩ (.slice A' n' c')) P b { g with l := l' } A c A' n' c' := by
 have o : ∀ j,j ≠ 2 -> (w.setCell ⟨b,2,none⟩ (.slice A' n' c')).cell? ⟨b,j,none⟩ = w.cell? ⟨b,j,none⟩ := fun j hj => World.cell?_setCell_other w _ _ _ (fun e => hj (by injection e with e1 e2;exact e2.symm))
 refine ⟨(o 0 (by decide)).trans h.c0,(o 1 (by decide)).trans h.c1,World.cell?_setCell_same w _ _ h.c2',(o 3 (by decide)).trans h.c3,fun j => ?_,h.l1,e1,h.k1,h.k2,?_,e2,e3,e0,?_,h.p1,e5,h.q1,e6,fun a ha => by have := e8 a ha;simp;omega,e7⟩
 ·have := h.fr j
  simpa using this
 ·exact (h.s1.aside (p := ⟨b,2,none⟩) (fun a ha => by have := h.q1 a ha;show a.block ≠ b;omega) _).more (by simp)
 ·exact (RowOf.aside e4 (p := ⟨b,2,none⟩) (fun a ha => by have := e6 a ha;show a.block ≠ b;omega) _).more (by simp)
theorem xz6 {w w' : World} {g : Nat} (h : w.grownBy w' (some g)) (j : Nat) (u : Value) : w.grownBy (w'.setCell ⟨g,j,none⟩ u) (some g) :=
 ⟨h.os,h.tape,h.output,by simpa using h.size,fun k hk hr => (heap_setCell_other w' ⟨g,j,none⟩ k u (fun e => hr (by rw [e]))).trans (h.block k hk hr)⟩
def DropIs (w : World) (P : Nat -> Prop) (r : HeapV × Int) (e : Ending) (w' : World) : Prop := (∃ v,e = .returned (.tuple #[v,.int .i64 r.2]) /\ HIs w' P r.1 v) /\ Below w.heap.size w w'
theorem xxo {w0 w w' : World} {r : Option Nat} (h : w0.grownBy w r) (hb : Below w.heap.size w w') : w0.grownBy w' r :=
 ⟨hb.os.trans h.os,hb.tape.trans h.tape,hb.output.trans h.output,Nat.le_trans h.size hb.size,fun k hk hr => (hb.block k (Nat.lt_of_lt_of_le hk h.size)).trans (h.block k hk hr)⟩
set_option maxHeartbeats 4000000 in
set_option maxRecDepth 100000 in
theorem yv1 (P : Nat -> Prop) (h : HeapV) (v : Value) (AI : Option Addr) (m cI : Nat) (ids : List Int) (w : World) (hP : ∀ b,w.heap.size <= b -> P b) (hv : HIs w P h v) (hs : Sl w w.heap.size AI m (ids.map iv)) (hm : m <= 65536) (hid : ∀ i ∈ ids,in64 i) (hlen : h.free.length = 1024) (hl : h.l.length <= 65536) (hin : ∀ y ∈ h.l,in64 y.2.1 /\ in64 y.2.2.1) :
  Calls Tryz.prog 198 #[v,.slice AI m cI] w (DropIs w P (hDrop h ids)) := by
 have HV := hidb hv
 obtain ⟨A,c,A2,c2,e0,g1,g2,g3,g4,g5,g6,g7,g8,g9,g10,g12⟩ := hv
 subst e0
 have HSI := hidb hs
 have HID := hidb hid
 have HLI : Hid (ids.length = m) := hidb (by have := hs.1;simpa using this)
 obtain ⟨n2,hn2⟩ : ∃ n2,h.l.length = n2 := ⟨_,rfl⟩
 obtain ⟨pg,hpg⟩ : ∃ pg,h.pages = pg := ⟨_,rfl⟩
 obtain ⟨la,hla⟩ : ∃ la,h.last = la := ⟨_,rfl⟩
 rw [hlen] at g1 g4
 rw [hn2] at g5 g8 hl
 rw [hlen,hn2,hpg,hla] at HV ⊢
 clear hs hid
 go_enter Tryz.func198,Tryz.ntmps198
 go_wp2
 obtain ⟨w0,hw0⟩ : ∃ w0,w0 = ((w.alloc (.cells #[.int .i64 pg,.slice A 1024 c,.slice A2 n2 c2,.int .i64 la] 32)).alloc (.cells #[.int .i64 0,.slice none 0 0,.slice none 0 0,.int .i64 0] 32)).alloc (.cells #[.int .i64 pg,.slice A 1024 c,.slice A2 n2 c2,.int .i64 la] 32) := ⟨_,rfl⟩
 rw [<- hw0]
 have hz0 : w0.heap.size = w.heap.size + 1 + 1 + 1 := by rw [hw0];simp
 have hb0 : Below w.heap.size w w0 := by
  rw [hw0]
  repeat (first | exact Below.refl _ _ | refine Below.alloc ?_ (by simp;try omega) _)
 have hAne : ∀ (a : Addr),A = some a -> a.block < w.heap.size := fun a ha => by
  obtain ⟨b,off,e2,hb,_⟩ := g4.2 (by omega)
  rw [ha] at e2;injection e2 with e2;subst e2;exact hb
 have g11 : ∀ a,A2 = some a -> a.block + 2 < w.heap.size + 1 + 1 \/ w.heap.size + 1 + 1 < a.block := fun a ha => by have := g12 a ha;omega
 have H0 : Hid (HAt w0 P (w.heap.size + 1 + 1) h A c A2 n2 c2) := hidb (by
  have e1 : ∀ j,w0.cell? ⟨w.heap.size + 1 + 1,j,none⟩ = (#[Value.int .i64 pg,.slice A 1024 c,.slice A2 n2 c2,.int .i64 la] : Array Value)[j]? := fun j => by rw [hw0,World.cell?_alloc_at _ _ _ _ (by simp)]
  refine ⟨by rw [e1,hpg];rfl,by rw [e1];rfl,by rw [e1];rfl,by rw [e1,hla];rfl,fun j => by rw [hw0,World.frozen?_alloc_at _ _ _ _ (by simp)],hlen,hn2,g1,g2,(g4.below hb0).more hb0.size,g5,g6,g7,(RowOf.below g8 hb0).more hb0.size,g9,g10,fun a ha => ?_,g11,fun a ha => by have := g12 a ha;have := hb0.size;show a.block < _;omega,hin⟩
  have := hAne a ha
  omega)
 have HGB : Hid (∀ W,w0.grownBy W (some (w.heap.size + 1 + 1)) -> (W.cell? ⟨w.heap.size,0,none⟩ = some (.int .i64 pg) /\ W.cell? ⟨w.heap.size,1,none⟩ = some (.slice A 1024 c) /\ W.cell? ⟨w.heap.size,2,none⟩ = some (.slice A2 n2 c2) /\ W.cell? ⟨w.heap.size,3,none⟩ = some (.int .i64 la)) /\
   (W.cell? ⟨w.heap.size + 1,0,none⟩ = some (.int .i64 0) /\ W.cell? ⟨w.heap.size + 1,1,none⟩ = some (.slice none 0 0) /\ W.cell? ⟨w.heap.size + 1,2,none⟩ = some (.slice none 0 0) /\ W.cell? ⟨w.heap.size + 1,3,none⟩ = some (.int .i64 0)) /\ (∀ j,W.frozen? ⟨w.heap.size + 1,j,none⟩ = false)) := hidb (fun W hg => by
  have h1 := hg.block (w.heap.size) (by omega) (fun e => by injection e with e;omega)
  have h2 := hg.block (w.heap.size + 1) (by omega) (fun e => by injection e with e;omega)
  have e1 : ∀ j,W.cell? ⟨w.heap.size,j,none⟩ = w0.cell? ⟨w.heap.size,j,none⟩ := fun j => World.cell?_of_block (w := w0) (w' := W) (a := ⟨w.heap.size,j,none⟩) h1
  have e2 : ∀ j,W.cell? ⟨w.heap.size + 1,j,none⟩ = w0.cell? ⟨w.heap.size + 1,j,none⟩ := fun j => World.cell?_of_block (w := w0) (w' := W) (a := ⟨w.heap.size + 1,j,none⟩) h2
  refine ⟨⟨?_,?_,?_,?_⟩,⟨?_,?_,?_,?_⟩,fun j => ?_⟩
  iterate 4 (rw [e1,hw0,World.cell?_alloc_past _ _ _ (by simp;omega),World.cell?_alloc_past _ _ _ (by simp),World.cell?_alloc_at _ _ _ _ rfl];rfl)
  iterate 4 (rw [e2,hw0,World.cell?_alloc_past _ _ _ (by simp),World.cell?_alloc_at _ _ _ _ (by simp)];rfl)
  have e3 : W.frozen? ⟨w.heap.size + 1,j,none⟩ = w0.frozen? ⟨w.heap.size + 1,j,none⟩ := by simp [World.frozen?,h2]
  rw [e3,hw0,World.frozen?_alloc_past _ _ _ (by simp),World.frozen?_alloc_at _ _ _ _ (by simp)])
 have HN1 : Hid (∀ W,w0.grownBy W (some (w.heap.size + 1 + 1)) -> Below w.heap.size w W) := hidb (fun W hg => hb0.grown hg hb0.size (fun q hq => by injection hq with hq;omega))
 have HB0 := hidb hb0
 have HZ0 := hidb hz0
 have HW0 := hidb hw0
 clear hw0 hz0 hb0 hAne g11
 go_loopw [12] (fun v wr => ∃ (j : Nat) (g : HeapV) (A : Option Addr) (c : Nat) (A2 : Option Addr) (n2' c2 : Nat),j <= m /\ v = .int .i64 j /\ Hid (dropAll h (ids.take j) = some g) /\ Hid (HAt wr P (w.heap.size + 1 + 1) g A c A2 n2' c2) /\ Hid (w0.grownBy wr (some (w.heap.size + 1 + 1))) /\ n2' <= 65536) (fun v _ => (m - intOf v).toNat)
 case atStart => exact ⟨0,h,A,c,A2,n2,c2,by omega,rfl,hidb rfl,H0,hidb ⟨rfl,rfl,rfl,Nat.le_refl _,fun _ _ _ => rfl⟩,hl⟩
 case round =>
  obtain ⟨j,g,B,cB,B2,nB,cB2,hj,rfl,HD,HH,HG,hnB⟩ := hrel
  by_cases hlt : j < m
  ·have hbw : ∀ (W : World),w0.grownBy W (some (w.heap.size + 1 + 1)) -> ∀ b i,b < w.heap.size -> W.cell? ⟨b,i,none⟩ = w.cell? ⟨b,i,none⟩ := fun W hg b i hb => by
    have h1 := hg.block b (by have := HZ0.out;omega) (fun e => by injection e with e;omega)
    rw [World.cell?_of_block (w := w0) (w' := W) (a := ⟨b,i,none⟩) h1,HB0.out.cell (p := ⟨b,i,none⟩) hb]
   obtain ⟨b,off,z,rfl,hbz,hx,hc⟩ := HSI.out.at_ hlt
   rw [List.getElem?_map] at hx
   obtain ⟨id,hid⟩ : ∃ id,ids[j]? = some id := ⟨_,List.getElem?_eq_getElem (by have := HLI.out;omega)⟩
   rw [hid] at hx
   obtain rfl : iv id = z := by simpa using hx
   have HI := hidb hid
   have hcz : wr.cell? ⟨b,off + j,none⟩ = some (.int .i64 id) := (hbw wr HG.out b _ hbz).trans hc
   have c0 := HH.out.c0
   have c1 := HH.out.c1
   have c2x := HH.out.c2'
   have c3 := HH.out.c3
   have cf := yjw g.pages g.last B B2 1024 cB nB cB2 g.l id wr.drew (RowOf.drewN HH.out.s2 1) hnB
   have hi0 : (0 : Int) <= (j : Int) := by omega
   have hi1 : (j : Int) < (m : Int) := by omega
   obtain ⟨wo,rfl⟩ : ∃ wo : World,wo = wr := ⟨_,rfl⟩
   clear hid hx hc hbw
   go_wp2
   go_region_held3 (fun W' => W'.cell? ⟨w.heap.size + 1 + 1,0,none⟩ = some (.int .i64 g.pages) /\ W'.cell? ⟨w.heap.size + 1 + 1,1,none⟩ = some (.slice B 1024 cB) /\ W'.cell? ⟨w.heap.size + 1 + 1,2,none⟩ = some (.slice B2 nB cB2) /\ W'.cell? ⟨w.heap.size + 1 + 1,3,none⟩ = some (.int .i64 g.last) /\ W'.cell? ⟨b,off + j,none⟩ = some (.int .i64 id)) (go_keep)
    (first | (go_at_call 233;(with_reducible refine cf.mono ?_);rintro e w3 ⟨rfl,hb3'⟩;have hb3 : Below wo.heap.size wo w3 := (Below.refl wo.heap.size wo).drew.trans hb3';clear hb3';have H3 := HH.out.below hb3;have y0 := H3.c0;have y1 := H3.c1;have y2 := H3.c2';have y3 := H3.c3;have y4 : w3.cell? ⟨b,off + j,none⟩ = some (.int .i64 id) := (hb3.cell (p := ⟨b,off + j,none⟩) (xq0 hcz)).trans hcz))
   clear cf
   have HH3 := hidb H3
   have HG3 : Hid (w0.grownBy w3 (some (w.heap.size + 1 + 1))) := hidb (xxo HG.out hb3)
   clear H3 hb3
   cases hfi : g.l.findIdx? (fun s => s.1 == id) with
   | none =>
    have E : hFind g.l id = -1 := by unfold hFind;rw [hfi];rfl
    have HE : Hid (hDrop h ids = (h,6)) := hidb (by
     rw [xv0,xV4 h ids (j + 1) (by rw [List.take_add_one,HI.out];show dropAll h (ids.take j ++ [id]) = none;rw [xjg,HD.out];show hDrop1 g id = none;unfold hDrop1;rw [hfi])])
    rw [E]
    have Pn : Hid (∀ W,Below w.heap.size w W -> DropIs w P (hDrop h ids) (.returned (.tuple #[.agg #[.int .i64 pg,.slice A 1024 c,.slice A2 n2 c2,.int .i64 la],.int .i64 6])) W) := hidb (fun W hb => by rw [HE.out];exact ⟨⟨_,rfl,HV.out.below hb⟩,hb⟩)
    obtain ⟨⟨x0,x1,x2,x3⟩,⟨r0,r1,r2,r3⟩,rz⟩ := HGB.out _ HG3.out
    have z0 := rz 0
    have z1 := rz 1
    have z2 := rz 2
    have z3 := rz 3
    clear hfi E rz
    go_wp2
    obtain ⟨b0,b1,b2,b3⟩ := xqy w3 (w.heap.size + 1) (.int .i64 pg) (.slice A 1024 c) (.slice A2 n2 c2) (.int .i64 la) _ _ _ _ r0 r1 r2 r3
    have hbf := xx9 (HN1.out _ HG3.out) (b := w.heap.size + 1) (by omega) (.int .i64 pg) (.slice A 1024 c) (.slice A2 n2 c2) (.int .i64 la)
    exact bodyPost_ret (v := .tuple #[.agg #[.int .i64 pg,.slice A 1024 c,.slice A2 n2 c2,.int .i64 la],.int .i64 6]) (by simp [results,Tryz.results198,go_sem,b0,b1,b2,b3]) rfl (Pn.out _ hbf)
   | some k =>
    have E : hFind g.l id = (k : Int) := by unfold hFind;rw [hfi];rfl
    have hk : k < g.l.length := (List.findIdx?_eq_some_iff_findIdx_eq.1 hfi).1
    rw [HH3.out.l2] at hk
    have HE1 : Hid (hDrop1 g id = some { g with free := (fPut g.free [((g.l.getD k spanNone).2.1,(g.l.getD k spanNone).2.2.1)] true).1,l := g.l.eraseIdx k }) := hidb (by unfold hDrop1;rw [hfi])
    obtain ⟨b3,off3,yi,ys,yl,yo,rfl,hyk,hd0,hd1,hd2,hd3⟩ := Sn.span HH3.out.s2 hk
    have hyg : g.l.getD k spanNone = (yi,ys,yl,yo) := by rw [List.getD_eq_getElem?_getD,hyk];rfl
    have hin2 := HH3.out.in64' (yi,ys,yl,yo) (List.mem_of_getElem? hyk)
    simp only at hin2
    obtain ⟨FF,hFF⟩ : ∃ FF,fPut g.free [(ys,yl)] true = FF := ⟨_,rfl⟩
    have CP : Hid (Calls Tryz.prog 64 #[.slice B 1024 cB,.slice (some ⟨w3.heap.size,0,none⟩) 1 1,.bool true] ((w3.alloc (.cells #[.int .i64 ys,.int .i64 yl] 47)).drew) fun e w' => ∃ A' c',e = .returned (.tuple #[.slice A' 1024 c',.int .i64 FF.2]) /\ HAt w' P (w.heap.size + 1 + 1) g B cB (some ⟨b3,off3,none⟩) nB cB2 /\
      HAt (w'.setCell ⟨w.heap.size + 1 + 1,1,none⟩ (.slice A' 1024 c')) P (w.heap.size + 1 + 1) { g with free := FF.1 } A' c' (some ⟨b3,off3,none⟩) nB cB2 /\ w0.grownBy (w'.setCell ⟨w.heap.size + 1 + 1,1,none⟩ (.slice A' 1024 c')) (some (w.heap.size + 1 + 1))) := hidb (by
     have hb : Below w3.heap.size w3 ((w3.alloc (.cells #[.int .i64 ys,.int .i64 yl] 47)).drew) := ((Below.refl _ _).alloc (Nat.le_refl _) _).drew
     have hA := HH3.out.below hb
     refine (xZe B (some ⟨w3.heap.size,0,none⟩) 1024 cB 1 1 g.free [(ys,yl)] true _ hA.s1 (Rn.one ys yl 47) (Nat.le_refl _) (Nat.le_refl _) (by omega) hA.k1 hA.k2 (fun r hr => by rw [List.mem_singleton.1 hr];exact hin2)).mono ?_
     rw [hFF]
     rintro e w' ⟨A',c',rfl,x1,x2,x3,x4,hb2,x6⟩
     have hfl : FF.1.length = 1024 := by rw [<- hFF,xz4];exact HH3.out.l1
     rw [hfl] at x1 x4 ⊢
     have hA2 := hA.below hb2
     have hg2 : w0.grownBy w' (some (w.heap.size + 1 + 1)) := xxo (xxo HG3.out hb) hb2
     have hsz := HG3.out.size
     have hz := HZ0.out
     refine ⟨A',c',rfl,hA2,hA2.setFree A' c' FF.1 hfl x1 x2 x4 ?_ ?_,?_⟩
     ·rcases x6 with x6 | x6
      ·rw [x6];exact HH3.out.p1
      ·exact fun a ha => hP _ (by have := x6 a ha;have h2 : w3.heap.size <= ((w3.alloc (.cells #[.int .i64 ys,.int .i64 yl] 47)).drew).heap.size := hb.size;omega)
     ·rcases x6 with x6 | x6
      ·rw [x6];exact HH3.out.q1
      ·exact fun a ha => by
        have := x6 a ha
        have h2 : w3.heap.size <= ((w3.alloc (.cells #[.int .i64 ys,.int .i64 yl] 47)).drew).heap.size := hb.size
        omega
     ·exact xz6 hg2 1 _)
    have hki0 : (0 : Int) <= (k : Int) := by omega
    have hki1 : (k : Int) < (nB : Int) := by omega
    have cp := CP.out
    have hblt : w.heap.size + 1 + 1 < w3.heap.size := by have := HG3.out.size;have := HZ0.out;omega
    have hb3lt := xq0 hd0
    simp only at hb3lt
    rw [E]
    clear hfi E
    go_wp2
    go_cut [12] from 12 to 51 (fun v wx => v = .int .i64 (j : Int) /\ ∃ A' c',HAt wx P (w.heap.size + 1 + 1) { g with free := FF.1 } A' c' (some ⟨b3,off3,none⟩) nB cB2 /\ w0.grownBy wx (some (w.heap.size + 1 + 1)))
    case first =>
     go_region_law (first | (go_simp;go_at_call 64;(with_reducible refine cp.mono ?_);rintro e w5 ⟨A5,c5,rfl,hH5,hS5,hG5⟩;have v0 := hH5.c0;have v1 := hH5.c1;have v2 := hH5.c2';have v3 := hH5.c3;have vz := hH5.fr 1))
     all_goals
      go_wp2_with fail
      go_meet
      exact ⟨rfl,A5,c5,hS5,hG5⟩
    case rest =>
     obtain ⟨rfl,A5,c5,hH5,hG5⟩ := hcut
     obtain ⟨W4,hW4⟩ : ∃ W4,W4 = wc := ⟨_,rfl⟩
     rw [<- hW4] at hH5 hG5 ⊢
     obtain ⟨j0,hji,hjz0,hjz1,hjz2⟩ := info_parts xjf
     have HH5 := hidb hH5
     have HG5 := hidb hG5
     have hl5 : g.l.length = nB := hH5.l2
     have HCA : Hid (∀ W,Below W4.heap.size W4 W -> CellsAt W (some ⟨b3,off3,none⟩) (cellsAll scells (g.l.take k))) := hidb (fun W hb ad e q u hq => by
      refine Sn.cellsAt (HH5.out.below hb).s2 ad e q u ?_
      have : (cellsAll scells g.l) = cellsAll scells (g.l.take k) ++ cellsAll scells (g.l.drop k) := by rw [<- xq7,List.take_append_drop]
      show (cellsAll scells g.l)[q]? = _
      rw [this,List.getElem?_append_left (List.getElem?_eq_some_iff.1 hq).1,hq])
     have HCB : Hid (∀ W,Below W4.heap.size W4 W -> CellsAt W (some ⟨b3,off3 + (k + 1) * 4,none⟩) (cellsAll scells (g.l.drop (k + 1)))) := hidb (fun W hb ad e q u hq => by
      injection e with e
      subst e
      have h2 := Sn.cellsAt (HH5.out.below hb).s2 ⟨b3,off3,none⟩ rfl ((k + 1) * 4 + q) u (by
       have : (cellsAll scells g.l) = cellsAll scells (g.l.take (k + 1)) ++ cellsAll scells (g.l.drop (k + 1)) := by rw [<- xq7,List.take_append_drop]
       show (cellsAll scells g.l)[_]? = _
       have hl : (cellsAll scells (g.l.take (k + 1))).length = (k + 1) * 4 := by rw [xq5 xqg,List.length_take];congr 1;omega
       rw [this,List.getElem?_append_right (by omega),hl,show (k + 1) * 4 + q - (k + 1) * 4 = q by omega,hq])
      rw [Go.WideShapes.add_plain] at h2 ⊢
      rw [<- h2]
      congr 2
      omega)
     have HL1 : Hid ((cellsAll scells (g.l.take k)).length = k * 4) := hidb (by rw [xq5 xqg,List.length_take];congr 1;omega)
     have HL2' : Hid ((cellsAll scells (g.l.drop (k + 1))).length = (nB - (k + 1)) * 4) := hidb (by rw [xq5 xqg,List.length_drop,hl5])
     have HO1 : Hid (∀ u ∈ cellsAll scells (g.l.take k),u.oneCell' = true) := hidb xvl
     have HO2 : Hid (∀ u ∈ cellsAll scells (g.l.drop (k + 1)),u.oneCell' = true) := hidb xvl
     have HF5 : Hid (∀ W,Below W4.heap.size W4 W -> W.cell? ⟨w.heap.size + 1 + 1,2,none⟩ = some (.slice (some ⟨b3,off3,none⟩) nB cB2) /\ W.frozen? ⟨w.heap.size + 1 + 1,2,none⟩ = false) := hidb (fun W hb => ⟨(HH5.out.below hb).c2',(HH5.out.below hb).fr 2⟩)
     obtain ⟨n0,nz⟩ := HF5.out W4 (Below.refl _ _)
     have hcap := hH5.k5
     have hcap2 := hH5.k6
     have hb2lt : w.heap.size + 1 + 1 < W4.heap.size := xq0 hH5.c0
     have HW4 := hidb hW4
     clear hH5 hG5 hW4 hl5
     have HPE : Hid (∀ A' c' w6,Below W4.heap.size W4 w6 -> w6.ownsRow W4.heap.size 49 4 (.slice A' (k + (nB - (k + 1))) c') (k + (nB - (k + 1))) (cellsAll scells (g.l.take k) ++ cellsAll scells (g.l.drop (k + 1))) ->
       ∃ (j' : Nat) (g : HeapV) (A : Option Addr) (c : Nat) (A2 : Option Addr) (n2' c2 : Nat),j' <= m /\ Value.int .i64 ((j : Int) + 1) = .int .i64 j' /\ Hid (dropAll h (ids.take j') = some g) /\ Hid (HAt (w6.setCell ⟨w.heap.size + 1 + 1,2,none⟩ (.slice A' (k + (nB - (k + 1))) c')) P (w.heap.size + 1 + 1) g A c A2 n2' c2) /\ Hid (w0.grownBy (w6.setCell ⟨w.heap.size + 1 + 1,2,none⟩ (.slice A' (k + (nB - (k + 1))) c')) (some (w.heap.size + 1 + 1))) /\ n2' <= 65536) := hidb (fun A' c' w6 hb ho => by
      have hcaps := xV2 ho
      have hlt := HH5.out.c0
      rw [<- xq7,<- List.eraseIdx_eq_take_drop_succ] at ho
      have hl5' : g.l.length = nB := HH5.out.l2
      have hle : (g.l.eraseIdx k).length = k + (nB - (k + 1)) := by rw [List.length_eraseIdx,if_pos (by omega)];omega
      have hblk : ∀ a,A' = some a -> W4.heap.size <= a.block /\ a.block < w6.heap.size := fun a ha => ho.lt a.block (by rw [ha];rfl)
      have hwz := HG5.out.size
      have hwz2 := HZ0.out
      have hH := (HH5.out.below hb).setSpans A' (k + (nB - (k + 1))) c' (g.l.eraseIdx k) hle hcaps.1 hcaps.2.1 hcaps.2.2 (RowOf.of_own xqg ho hle) (fun a ha => hP _ (by have := hblk a ha;omega)) (fun a ha => by have := hblk a ha;omega) (fun y hy => HH5.out.in64' y (List.mem_of_mem_eraseIdx hy)) (fun a ha => (hblk a ha).2)
      refine ⟨j + 1,_,_,_,_,_,_,by omega,by go_num,?_,hidb hH,hidb ?_,by omega⟩
      ·refine hidb ?_
       rw [List.take_add_one,HI.out]
       show dropAll h (ids.take j ++ [id]) = _
       rw [xjg,HD.out]
       show hDrop1 g id = _
       rw [HE1.out,hyg,hFF]
      ·have hgr := xz6 (xxo HG5.out hb) 2 (.slice A' (k + (nB - (k + 1))) c')
       exact hgr)
     clear cp CP HE1 HH HG HH3 HG3 HD HSI HV HB0 HW0 HN1 HGB H0 g1 g2 g4 g5 g6 g7 g8 g9 g10 g12 HH5 HG5 HI c0 c1 c2x c3 y0 y1 y2 y3 y4 hd0 hd1 hd2 hd3 hyk hyg hin2 hFF hP hcz hin hla hpg hn2 hlen
     have hw1 : IntKind.i64.wrap ((k : Int) + 1) = (k : Int) + 1 := IntWalk.i64_in _ (by omega)
     have hs1 : (k : Int) <= (cB2 : Int) := by omega
     have hs2 : (k : Int) + 1 <= (nB : Int) := by omega
     have hs3 : (nB : Int) <= (cB2 : Int) := by omega
     have hs4 : (0 : Int) <= (k : Int) + 1 := by omega
     have hs5 : ((k : Int) + 1).toNat = k + 1 := by omega
     by_cases hkc : k + 1 < cB2
     ·have hne : ¬ cB2 = k + 1 := by omega
      go_wp2
      go_region_law
       (first
        | (refine xqa rfl (.tmp 38) (.tmp 42) 30 rfl W4.heap.size 49 j0 (.agg #[.int .i64 0,.int .i64 0,.int .i64 0,.int .i64 0]) 4 32 Tryz.underlying30 hji hjz0 hjz1 hjz2 rfl (by decide) _ 0 [] rfl (own_empty' _ _ _ _ _ (by first | rfl | simp) (by first | exact Nat.le_refl _ | simp)).drew (by first | omega | (simp;done) | (simp;omega)) (some ⟨b3,off3,none⟩) k cB2 (cellsAll scells (g.l.take k)) rfl HL1.out (fun h => by cases h) (HCA.out _ (by repeat (first | assumption | exact Below.refl _ _ | refine Below.drew ?_ | refine Below.alloc ?_ (by first | omega | (simp;done) | (simp;omega)) _))) HO1.out (by unfold maxLen;omega) (by omega) ?_;intro A8 c8 w8 hown8 hg8;have hB8 : Below W4.heap.size W4 w8 := Below.grown (by repeat (first | assumption | exact Below.refl _ _ | refine Below.drew ?_ | refine Below.alloc ?_ (by first | omega | (simp;done) | (simp;omega)) _)) hg8 (by first | omega | (simp;done) | (simp;omega)) (fun q hq => xJd hq (by first | omega | (simp;done) | (simp;omega)));have hz8 : W4.heap.size <= w8.heap.size := hB8.size;obtain ⟨v0,vz⟩ := HF5.out _ hB8;have vlt : w.heap.size + 1 + 1 < w8.heap.size := (by omega);rw [List.nil_append,Nat.zero_add] at hown8;have hown8' : w8.ownsRow W4.heap.size 49 4 (.slice A8 (0 + k) c8) k (cellsAll scells (g.l.take k)) := (by rw [Nat.zero_add];exact hown8))
        | (refine xqa rfl (.tmp 43) (.tmp 48) 30 rfl W4.heap.size 49 j0 (.agg #[.int .i64 0,.int .i64 0,.int .i64 0,.int .i64 0]) 4 32 Tryz.underlying30 hji hjz0 hjz1 hjz2 rfl (by decide) _ k (cellsAll scells (g.l.take k)) rfl (by first | exact hown8 | exact hown8') (by first | omega | (simp;done) | (simp;omega)) (some ⟨b3,off3 + (k + 1) * 4,none⟩) (nB - (k + 1)) (cB2 - (k + 1)) (cellsAll scells (g.l.drop (k + 1))) rfl HL2'.out (fun h => by cases h) (HCB.out _ (by repeat (first | assumption | exact Below.refl _ _ | refine Below.drew ?_ | refine Below.alloc ?_ (by first | omega | (simp;done) | (simp;omega)) _))) HO2.out (by unfold maxLen;omega) (by omega) ?_;intro A6 c6 w6 hown6 hg6;have hB6 : Below W4.heap.size W4 w6 := Below.grown (by repeat (first | assumption | exact Below.refl _ _ | refine Below.drew ?_ | refine Below.alloc ?_ (by first | omega | (simp;done) | (simp;omega)) _)) hg6 (by first | omega | (simp;done) | (simp;omega)) (by first | exact fun q hq => (hown8.lt q hq).1 | exact fun q hq => (hown8'.lt q hq).1);have hz6 : W4.heap.size <= w6.heap.size := hB6.size;obtain ⟨m2,m2z⟩ := HF5.out _ hB6;have HO6 := hidb hown6;have HB6 := hidb hB6;clear hown6 hg6))
      all_goals
       go_wp2
       go_roundw
       case rel => exact HPE.out _ _ _ HB6.out HO6.out
       case measure => simp [intOf];omega
     ·have e1 : cB2 = k + 1 := by omega
      have e2 : nB = k + 1 := by omega
      subst e1
      have HE2 := hidb e2
      have hd : Hid (cellsAll scells (g.l.drop (k + 1)) = []) := hidb (by
       have := HL2'.out
       rw [HE2.out,Nat.sub_self,Nat.zero_mul] at this
       exact List.eq_nil_of_length_eq_zero this)
      have HPE2 : Hid (∀ A' c' w6,Below W4.heap.size W4 w6 -> w6.ownsRow W4.heap.size 49 4 (.slice A' k c') k (cellsAll scells (g.l.take k)) ->
       ∃ (j' : Nat) (g : HeapV) (A : Option Addr) (c : Nat) (A2 : Option Addr) (n2' c2 : Nat),j' <= m /\ Value.int .i64 ((j : Int) + 1) = .int .i64 j' /\ Hid (dropAll h (ids.take j') = some g) /\ Hid (HAt (w6.setCell ⟨w.heap.size + 1 + 1,2,none⟩ (.slice A' k c')) P (w.heap.size + 1 + 1) g A c A2 n2' c2) /\ Hid (w0.grownBy (w6.setCell ⟨w.heap.size + 1 + 1,2,none⟩ (.slice A' k c')) (some (w.heap.size + 1 + 1))) /\ n2' <= 65536) := hidb (fun A' c' w6 x1 x2 => by
       have := HPE.out A' c' w6 x1
       rw [show k + (nB - (k + 1)) = k by omega,hd.out,List.append_nil] at this
       exact this x2)
      clear e2 hs1
      have hs6 : (k : Int) <= (k : Int) + 1 := by omega
      have hs7 : (nB : Int) <= (k : Int) + 1 := by have := HE2.out;omega
      clear hs3
      go_wp2
      go_region_law
       (first
        | (refine xqa rfl (.tmp 38) (.tmp 42) 30 rfl W4.heap.size 49 j0 (.agg #[.int .i64 0,.int .i64 0,.int .i64 0,.int .i64 0]) 4 32 Tryz.underlying30 hji hjz0 hjz1 hjz2 rfl (by decide) _ 0 [] rfl (own_empty' _ _ _ _ _ (by first | rfl | simp) (by first | exact Nat.le_refl _ | simp)).drew (by first | omega | (simp;done) | (simp;omega)) (some ⟨b3,off3,none⟩) k (k + 1) (cellsAll scells (g.l.take k)) rfl HL1.out (fun h => by cases h) (HCA.out _ (by repeat (first | assumption | exact Below.refl _ _ | refine Below.drew ?_ | refine Below.alloc ?_ (by first | omega | (simp;done) | (simp;omega)) _))) HO1.out (by unfold maxLen;omega) (by omega) ?_;intro A8 c8 w8 hown8 hg8;have hB8 : Below W4.heap.size W4 w8 := Below.grown (by repeat (first | assumption | exact Below.refl _ _ | refine Below.drew ?_ | refine Below.alloc ?_ (by first | omega | (simp;done) | (simp;omega)) _)) hg8 (by first | omega | (simp;done) | (simp;omega)) (fun q hq => xJd hq (by first | omega | (simp;done) | (simp;omega)));have hz8 : W4.heap.size <= w8.heap.size := hB8.size;obtain ⟨v0,vz⟩ := HF5.out _ hB8;have vlt : w.heap.size + 1 + 1 < w8.heap.size := (by omega);rw [List.nil_append,Nat.zero_add] at hown8;have hown8' : w8.ownsRow W4.heap.size 49 4 (.slice A8 (0 + k) c8) k (cellsAll scells (g.l.take k)) := (by rw [Nat.zero_add];exact hown8))
        | (refine xqa rfl (.tmp 43) (.tmp 48) 30 rfl W4.heap.size 49 j0 (.agg #[.int .i64 0,.int .i64 0,.int .i64 0,.int .i64 0]) 4 32 Tryz.underlying30 hji hjz0 hjz1 hjz2 rfl (by decide) _ k (cellsAll scells (g.l.take k)) rfl (by first | exact hown8 | exact hown8') (by first | omega | (simp;done) | (simp;omega)) (some ⟨b3,off3,none⟩) 0 0 [] rfl rfl (fun h => by cases h) (fun ad e q u hq => by simp at hq) (fun u hu => by cases hu) (by unfold maxLen;omega) (by omega) ?_;intro A6 c6 w6 hown6 hg6;have hB6 : Below W4.heap.size W4 w6 := Below.grown (by repeat (first | assumption | exact Below.refl _ _ | refine Below.drew ?_ | refine Below.alloc ?_ (by first | omega | (simp;done) | (simp;omega)) _)) hg6 (by first | omega | (simp;done) | (simp;omega)) (by first | exact fun q hq => (hown8.lt q hq).1 | exact fun q hq => (hown8'.lt q hq).1);have hz6 : W4.heap.size <= w6.heap.size := hB6.size;obtain ⟨m2,m2z⟩ := HF5.out _ hB6;have HO6 := hidb hown6;have HB6 := hidb hB6;clear hown6 hg6))
      all_goals
       go_wp2
       go_roundw
       case rel => exact HPE2.out _ _ _ HB6.out (by have := HO6.out;rwa [Nat.add_zero,List.append_nil] at this)
       case measure => simp [intOf];omega
  ·have hall : Hid (ids.take j = ids) := hidb (List.take_of_length_le (by have := HLI.out;omega))
   have HE : Hid (hDrop h ids = (g,0)) := hidb (by
    have := HD.out
    rw [hall.out] at this
    rw [xv0,this])
   have hne1 : ∀ a,B = some a -> a.block ≠ w.heap.size + 1 := fun a ha => by have := HH.out.q1 a ha;omega
   have hne2 : ∀ a,B2 = some a -> a.block ≠ w.heap.size + 1 := fun a ha => by have := HH.out.q2 a ha;omega
   have hbf := xx9 (HN1.out _ HG.out) (b := w.heap.size + 1) (by omega) (.int .i64 g.pages) (.slice B 1024 cB) (.slice B2 nB cB2) (.int .i64 g.last)
   have hs1 := (HH.out.s1.aside4 (b := w.heap.size + 1) hne1 (.int .i64 g.pages) (.slice B 1024 cB) (.slice B2 nB cB2) (.int .i64 g.last)).more (B' := ((((wr.setCell ⟨w.heap.size + 1,0,none⟩ (.int .i64 g.pages)).setCell ⟨w.heap.size + 1,1,none⟩ (.slice B 1024 cB)).setCell ⟨w.heap.size + 1,2,none⟩ (.slice B2 nB cB2)).setCell ⟨w.heap.size + 1,3,none⟩ (.int .i64 g.last)).heap.size) (by simp)
   have hs2 := (RowOf.aside (RowOf.aside (RowOf.aside (RowOf.aside HH.out.s2 (p := ⟨w.heap.size + 1,0,none⟩) hne2 (.int .i64 g.pages)) (p := ⟨w.heap.size + 1,1,none⟩) hne2 (.slice B 1024 cB)) (p := ⟨w.heap.size + 1,2,none⟩) hne2 (.slice B2 nB cB2)) (p := ⟨w.heap.size + 1,3,none⟩) hne2 (.int .i64 g.last)).more (B' := ((((wr.setCell ⟨w.heap.size + 1,0,none⟩ (.int .i64 g.pages)).setCell ⟨w.heap.size + 1,1,none⟩ (.slice B 1024 cB)).setCell ⟨w.heap.size + 1,2,none⟩ (.slice B2 nB cB2)).setCell ⟨w.heap.size + 1,3,none⟩ (.int .i64 g.last)).heap.size) (by simp)
   have Pn : Hid (DropIs w P (hDrop h ids) (.returned (.tuple #[.agg #[.int .i64 g.pages,.slice B 1024 cB,.slice B2 nB cB2,.int .i64 g.last],.int .i64 0])) ((((wr.setCell ⟨w.heap.size + 1,0,none⟩ (.int .i64 g.pages)).setCell ⟨w.heap.size + 1,1,none⟩ (.slice B 1024 cB)).setCell ⟨w.heap.size + 1,2,none⟩ (.slice B2 nB cB2)).setCell ⟨w.heap.size + 1,3,none⟩ (.int .i64 g.last))) := hidb (by
    rw [HE.out]
    exact ⟨⟨_,rfl,his_of (h := g) HH.out.l1 HH.out.l2 rfl rfl HH.out.k1 HH.out.k2 (fun e => by
     obtain ⟨b,off,e2,_⟩ := HH.out.s1.2 (by omega)
     rw [e] at e2;cases e2) hs1 HH.out.k5 HH.out.k6 HH.out.k7 hs2 HH.out.p1 HH.out.p2 (fun a ha => by have := HH.out.q3 a ha;simp;omega)⟩,hbf⟩)
   clear hne1 hne2 hbf hs1 hs2
   obtain ⟨_,⟨r0,r1,r2,r3⟩,rz⟩ := HGB.out _ HG.out
   have z0 := rz 0
   have z1 := rz 1
   have z2 := rz 2
   have z3 := rz 3
   have c0 := HH.out.c0
   have c1 := HH.out.c1
   have c2x := HH.out.c2'
   have c3 := HH.out.c3
   clear rz
   go_wp2
   obtain ⟨b0,b1,b2,b3⟩ := xqy wr (w.heap.size + 1) (.int .i64 g.pages) (.slice B 1024 cB) (.slice B2 nB cB2) (.int .i64 g.last) _ _ _ _ r0 r1 r2 r3
   exact bodyPost_ret (v := .tuple #[.agg #[.int .i64 g.pages,.slice B 1024 cB,.slice B2 nB cB2,.int .i64 g.last],.int .i64 0]) (by simp [results,Tryz.results198,go_sem,b0,b1,b2,b3]) rfl Pn.out
end Go.Proofs.YtlcdgmjinhbncaaGreat
