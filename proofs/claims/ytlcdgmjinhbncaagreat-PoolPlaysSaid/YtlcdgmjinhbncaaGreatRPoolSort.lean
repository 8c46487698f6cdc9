import Derived.Test.YtlcdgmjinhbncaaGreatRHeapMain
import Derived.Test.YtlcdgmjinhbncaaGreatRRunsMain
import Derived.Test.YtlcdgmjinhbncaaGreatRPlain7
import Derived.Test.YtlcdgmjinhbncaaGreatRHeapRefA
import Derived.Shelf.AbstractIn
import Derived.RangeFuncMany
import Derived.RangeFuncLeaves
import Derived.RangeFuncNested
import Derived.Sort.MapsRangeIn
import Derived.WalkKit
import Derived.OwnWalkIn
import Derived.TacticsInMore
import Derived.RegionIn
import Derived.LoopNIn
import Derived.LoopIn
import Derived.Shelf.Abstract
import Derived.RangeFuncBox
import Derived.RangeFuncCalls
import Derived.Maps.AppendAt
import Derived.Shelf.RegionOpen
import Derived.Shelf.SlGeneric
import Derived.Ground.SlsfProg
import Derived.Shelf.SlSortCmp.Whole1
import Derived.Test.YtlcdgmjinhbncaaGreatProg
namespace Go.Proofs.YtlcdgmjinhbncaaGreat
open Go.RowKit Go.Maps Go.Shelf
set_option linter.unusedVariables false
structure Came (l : List (Int × Int × Int × Int)) (left : Lit -> Bool) (ss : List (Int × Int × Int × Int)) : Prop where
 nodup : (ss.map (·.1)).Nodup
 mem : ∀ s,s ∈ ss ↔ s ∈ l /\ left (.int .i64 s.1) = false
def AllOf (l ss : List (Int × Int × Int × Int)) : Prop := (ss.map (·.1)).Nodup /\ ∀ s,s ∈ ss ↔ s ∈ l
theorem Came.start {D : DataW Unit} {l : List (Int × Int × Int × Int)} (h : MIs D l) : Came l (Maps.has D) [] := by
 refine ⟨List.nodup_nil,fun s => ⟨fun hs => (by cases hs),fun ⟨hs,hn⟩ => ?_⟩⟩
 rw [h.has,(MIs.any_iff s.1).2 ⟨s,hs,rfl⟩] at hn
 cases hn
theorem Came.step {D : DataW Unit} {l ss : List (Int × Int × Int × Int)} {left : Lit -> Bool} (h : Came l left ss) (hm : MIs D l) (hd : (l.map (·.1)).Nodup) {x : Int} {c : Int × Int × Int × Int} (hx : left (.int .i64 x) = true) (hat : ∀ zd,D.atKey (.int .i64 x) zd = encS c) :
  Came l (fun z => left z && !z.sameKey (.int .i64 x)) (ss ++ [c]) /\ x = c.1 /\ c ∈ l := by
 have hhas := Maps.has_true_of_atKey hat
 rw [hm.has] at hhas
 obtain ⟨t,ht,rfl⟩ := (MIs.any_iff x).1 hhas
 have e := (hm.at_ t ht (encS spanNone)).symm.trans (hat _)
 obtain rfl := yqe e
 refine ⟨⟨?_,fun s => ?_⟩,rfl,ht⟩
 ·rw [List.map_append]
  refine List.nodup_append.2 ⟨h.nodup,by simp,fun a ha b hb e => ?_⟩
  obtain rfl : b = t.1 := by simpa using hb
  subst e
  obtain ⟨s,hs,e2⟩ := List.mem_map.1 ha
  have := ((h.mem s).1 hs).2
  rw [e2,hx] at this;cases this
 ·rw [List.mem_append,h.mem,List.mem_singleton]
  by_cases c : s.1 = t.1
  ·constructor
   ·rintro (⟨h1,h2⟩ | rfl)
    ·exact ⟨h1,by rw [h2];rfl⟩
    ·exact ⟨ht,by rw [WideAt.sameKey_self (show WideAt.IsKeyLit (.int .i64 s.1) by trivial)];simp⟩
   ·rintro ⟨h1,_⟩
    exact Or.inr (xZb hd h1 ht c)
  ·have hk : Lit.sameKey (.int .i64 s.1) (.int .i64 t.1) = false := Maps.sameKey_ne (xkp c)
   constructor
   ·rintro (⟨h1,h2⟩ | rfl)
    ·exact ⟨h1,by rw [h2];rfl⟩
    ·exact absurd rfl c
   ·rintro ⟨h1,h2⟩
    rw [hk] at h2
    exact Or.inl ⟨h1,by simpa using h2⟩
theorem Came.end_ {l ss : List (Int × Int × Int × Int)} {left : Lit -> Bool} (h : Came l left ss) (hl : ∀ k,left k = false) : AllOf l ss := ⟨h.nodup,fun s => by rw [h.mem,hl];simp⟩
abbrev encV (s : Int × Int × Int × Int) : Array Value := #[.agg #[.int .i64 s.1,.int .i64 s.2.1,.int .i64 s.2.2.1,.int .i64 s.2.2.2]]
set_option maxRecDepth 100000 in
set_option maxHeartbeats 1000000 in
theorem yxx (F : Fence) (n : Nat) (h8 : F.fn 158) (hro : F.round = none) (hn : 1 <= n) (l0 Bm b nn : Nat) (D0 : DataW Unit) (l : List (Int × Int × Int × Int)) (hmis : MIs D0 l) (hd : (l.map (·.1)).Nodup) (J Jx : List (Int × Int × Int × Int) -> World -> Prop)
  (hY : ∀ pre x W,J pre W -> pre.length < Maps.size D0 -> YieldAt F (n - 1) Tryz.prog l0 (encV x) W fun e W' =>
   (e = .returned (.bool true) /\ J (pre ++ [x]) W' /\ KeepsWalks W W') \/ (e = .returned (.bool false) /\ Jx (pre ++ [x]) W'))
  (W : World) (hJ : AbidesFrom W.heap.size J) (hm : W.cell? ⟨Bm,0,none⟩ = some (.map (some b))) (hown : W.ownsMap Tryz.prog 3 spanR b nn D0) (h0 : J [] W) :
  CallsIn F n Tryz.prog 158 #[.func (.yield l0) #[] #[],.pointer (some ⟨Bm,0,none⟩)] W fun e W' => (∃ v,e = .returned v) /\
   ((∃ ss,AllOf l ss /\ J ss W') \/ (∃ pre,True /\ Jx pre W')) := by
 refine callsIn_of_wp Tryz.func158 rfl h8 ?_ hro
 simp only [Tryz.ntmps158,List.size_toArray,List.length_cons,List.length_nil,Nat.reduceAdd,Nat.reduceSub,Array.replicate_succ,Array.replicate_zero,List.push_toArray,List.append_toArray,List.nil_append,List.cons_append]
 gi_wp2_with (first
  | (gi_at_range;refine wpListIn_range_own _ rfl _ 152 rfl 3 49 keyed Tryz.underlying152 _ b nn _ rfl hown ?_;intro w0 hrg0 hg0 hs0)
  | gi_in)
 go_frame
 gi_loopw [4] (fun _ wr => ∃ (left : Lit -> Bool) (cnt : Nat) (ss : List (Int × Int × Int × Int)),wr.ranges Tryz.prog 3 spanR b W.heap.size nn D0 left cnt /\ ss.length + cnt <= Maps.size D0 /\ Came l left ss /\ J ss wr)
  (fun _ wr => wr.rangeLeft b W.heap.size)
 case atStart =>
  exact ⟨_,_,[],hrg0,by simp,Came.start hmis,hJ [] W w0 none h0 hg0 (fun r e => by cases e)⟩
 case round =>
  obtain ⟨left,cnt,ss,hrg,hcs,hC,hJs⟩ := hrel
  gi_wp2_with (first
   | (gi_at_next;refine wpListIn_next_ranges _ rfl _ rfl 3 keyed spanR (Value.int .i64) spv (fun key kl hk => by obtain ⟨x,hx,_⟩ := Maps.keyOf_int_inv Tryz.underlying3 hk;exact ⟨x,hx⟩) (fun v y hv => by obtain ⟨s,hs,_⟩ := xQ3 hv;exact ⟨s,hs⟩) b W.heap.size nn _ _ _ rfl hrg ?_ ?_)
   | gi_in)
  ·intro hc0 hl0
   gi_wp2
   go_end0
   exact ⟨⟨_,rfl⟩,.inl ⟨ss,hC.end_ hl0,hJs⟩⟩
  ·intro x s1 s2 s3 s4 kl yd yp w2 cnt2 hkey hlk hv hat hrg2 hlt hg2 hs2 hen
   obtain ⟨x',ex,rfl,hwx⟩ := Maps.keyOf_int_inv Tryz.underlying3 hkey
   cases ex
   rw [xw7] at hv
   obtain ⟨rfl,rfl⟩ := Prod.mk.inj (Option.some.inj hv)
   have hJ2 : J ss w2 := hJ ss wr w2 (some W.heap.size) hJs hg2 (fun r e => by cases e;exact ⟨Nat.le_refl _,hrg.iter_walk⟩)
   have hJ3 : J ss (w2.alloc (.cells #[.int .i64 s1,.int .i64 s2,.int .i64 s3,.int .i64 s4] 49)) := hJ ss w2 _ none hJ2 (World.grownBy_alloc _ _ _) (fun r e => by cases e)
   obtain ⟨hC2,_,_⟩ := hC.step hmis hd hlk hat
   obtain ⟨fn,tmps,assign,body,hy,hR⟩ := hY ss (s1,s2,s3,s4) _ hJ3 (by omega)
   dsimp only [encV] at hy
   simp only [spv] at hen ⊢
   have hrgA := hrg2.alloc (.cells #[.int .i64 s1,.int .i64 s2,.int .i64 s3,.int .i64 s4] 49)
   clear hs2
   gi_wp2
   refine hR.mono ?_
   rintro e W3 (⟨rfl,hJ3,hk3⟩ | ⟨rfl,hJx3⟩)
   ·gi_wp2
    have hrg3 := hrgA.of_walks hk3
    go_roundw
    case rel => exact ⟨_,cnt2,ss ++ [(s1,s2,s3,s4)],hrg3,by simp;omega,hC2,hJ3⟩
    case measure => rw [hrg3.left_eq,hrg.left_eq];exact hlt
   ·gi_wp2
    refine bodyPost_ret (results_none rfl _ _ _) rfl ?_
    exact ⟨⟨_,rfl⟩,.inr ⟨ss ++ [(s1,s2,s3,s4)],trivial,hJx3⟩⟩
theorem xKb (F : Fence) (n : Nat) (h8 : F.fn 158) (hro : F.round = none) (hn : 1 <= n) (Bm b nn : Nat) (D0 : DataW Unit) (l : List (Int × Int × Int × Int)) (hmis : MIs D0 l) (hd : (l.map (·.1)).Nodup) (w : World) (hBm : Bm < w.heap.size)
  (hm : w.cell? ⟨Bm,0,none⟩ = some (.map (some b))) (hown : w.ownsMap Tryz.prog 3 spanR b nn D0) :
  SeqStopsK F n Tryz.prog 158 #[.pointer (some ⟨Bm,0,none⟩)] encV KeepsWalks (AllOf l) (fun _ => True) (Maps.size D0) w := fun l0 J Jx W hW hJ _ hY h0 =>
 yxx F n h8 hro hn l0 Bm b nn D0 l hmis hd J Jx hY W hJ ((hW.cell (p := ⟨Bm,0,none⟩) hBm).trans hm) (xq2 hown (hW.block b hown.lt)) h0
end Go.Proofs.YtlcdgmjinhbncaaGreat
namespace Go.Proofs.YtlcdgmjinhbncaaGreat
open Go.RowKit Go.Shelf Go.Lib Go.Sort
set_option linter.unusedVariables false
theorem xkw {E : Type} [Inhabited E] (f : E -> List Value) (s : Nat) (hs : 0 < s) (hf : ∀ y,(f y).length = s) (d : Array E) : flatK f s d = (cellsAll f d.toList).toArray := by
 apply Array.ext_getElem?
 intro t
 have hlen := xq5 hf d.toList
 simp only [Array.length_toList] at hlen
 by_cases ht : t < d.size * s
 ·have hj : t / s < d.size := Nat.div_lt_of_lt_mul (by rw [Nat.mul_comm];exact ht)
  have hm : t % s < s := Nat.mod_lt _ hs
  have h := xxy hf d.toList (t / s) d[t / s]! (by rw [getElem!_pos d _ hj];simp [hj]) (t % s) hm
  have e0 : t / s * s + t % s = t := by rw [Nat.mul_comm];exact Nat.div_add_mod t s
  rw [e0] at h
  have e1 : (flatK f s d)[t]? = some ((f d[t / s]!)[t % s]!) := by
   rw [Array.getElem?_eq_getElem (by simp;omega)]
   simp [flatK]
  rw [e1,List.getElem?_toArray,h,List.getElem?_eq_getElem (by rw [hf];exact hm),getElem!_pos _ _ (by rw [hf];exact hm)]
 ·rw [Array.getElem?_eq_none (by simp;omega),Array.getElem?_eq_none (by rw [List.size_toArray];omega)]
section
variable {E : Type} [Inhabited E] (f : E -> List Value) (s : Nat) (hs : 0 < s) (hf : ∀ y,(f y).length = s)
include hs hf
theorem yk5 {w : World} {g : Nat} {e : TypeId} {L : List Value} (h : Rw w g e L) (d : Array E) (hd : L.take (d.size * s) = cellsAll f d.toList) : HoldsK f s w g 0 d := by
 unfold HoldsK Holds
 rw [xkw f s hs hf]
 have hlen := xq5 hf d.toList
 simp only [Array.length_toList] at hlen
 intro j hj
 have hj' : j < (cellsAll f d.toList).length := by simpa using hj
 have hl : j < d.size * s := by omega
 refine ⟨?_,h.free _⟩
 rw [Nat.zero_add,h.cell,getElem!_pos _ _ (by simpa using hj'),List.getElem_toArray]
 have h2 : (L.take (d.size * s))[j]? = L[j]? := by rw [List.getElem?_take,if_pos hl]
 rw [<- h2,hd,List.getElem?_eq_getElem hj'];rfl
theorem put_rwS {w : World} {g : Nat} {e : TypeId} {L : List Value} (h : Rw w g e L) (m : Nat) (d : Array E) (os : Array Obj) (hd : d.size * s <= L.length) :
  Rw (sortWorldK f s w g 0 m d os) g e (cellsAll f d.toList ++ L.drop (d.size * s)) /\ w.grownBy (sortWorldK f s w g 0 m d os) (some g) := by
 have hlt := h.lt
 have hrl := xq5 hf d.toList
 simp only [Array.length_toList] at hrl
 unfold Rw at h
 unfold sortWorldK putRowK putRow
 rw [xkw f s hs hf]
 obtain ⟨C,hC⟩ : ∃ C,cellsAll f d.toList = C := ⟨_,rfl⟩
 rw [hC] at hrl ⊢
 have hsz : (mapBlock (Sort.ahead w m) g (putCells id 0 C.toArray)).heap.size = w.heap.size := by simp [mapBlock,Sort.ahead]
 constructor
 ·unfold Rw
  rw [heap_grow_old _ _ (by rw [hsz];exact hlt)]
  show ((w.heap.modify g (onCells (putCells id 0 C.toArray))))[g]? = _
  rw [Array.getElem?_modify,if_pos rfl,h]
  show some (Obj.cells _ e (0,0)) = _
  congr 2
  unfold putCells
  apply Array.ext_getElem?
  intro k
  rw [Array.getElem?_mapIdx]
  by_cases hk : k < d.size * s
  ·rw [List.getElem?_toArray,List.getElem?_toArray,List.getElem?_append_left (by omega),List.getElem?_eq_getElem (by omega),List.getElem?_eq_getElem (by omega)]
   simp only [Option.map_some,Nat.sub_zero]
   rw [if_pos (by simp;omega),getElem!_pos _ _ (by simp;omega),List.getElem_toArray];rfl
  ·rw [List.getElem?_toArray,List.getElem?_toArray,List.getElem?_append_right (by omega),List.getElem?_drop,hrl,show d.size * s + (k - d.size * s) = k by omega]
   cases L[k]? with
   | none => rfl
   | some u =>
    simp only [Option.map_some]
    rw [if_neg (by simp;omega)]
 ·refine ⟨rfl,rfl,rfl,?_,fun k hk hr => ?_⟩
  ·have : (grow (mapBlock (Sort.ahead w m) g (putCells id 0 C.toArray)) os).heap.size = w.heap.size + os.size := by simp [grow,hsz]
   omega
  ·rw [heap_grow_old _ _ (by rw [hsz];exact hk)]
   show ((w.heap.modify g (onCells (putCells id 0 C.toArray))))[k]? = _
   rw [Array.getElem?_modify,if_neg (fun e => hr (by rw [e]))]
end
set_option maxHeartbeats 1000000 in
theorem yk6 (x y : Int × Int × Int × Int) (W : World) : Calls Tryz.prog 88 #[.agg #[.int .i64 x.1,.int .i64 x.2.1,.int .i64 x.2.2.1,.int .i64 x.2.2.2],.agg #[.int .i64 y.1,.int .i64 y.2.1,.int .i64 y.2.2.1,.int .i64 y.2.2.2]] W fun e w' => e = .returned (.int .i64 (Lib.compareInt x.2.1 y.2.1)) /\ ∃ q os',w' = grow (W.drewN q) os' := by
 have hcon := fun W' => AnyG.cmp_Compare_int Tryz.cmpInt x.2.1 y.2.1 W'
 change ∀ W',Calls Tryz.prog 89 _ _ _ at hcon
 generalize Lib.compareInt x.2.1 y.2.1 = r at hcon ⊢
 go_enter Tryz.func88,Tryz.ntmps88
 go_wp2_with (go_at_call 89;refine (hcon _).mono ?_;rintro e w' ⟨rfl,rfl⟩)
 go_ret
 exact ⟨rfl,0,_,by rw [alloc_eq_grow,alloc_eq_grow,grow_grow];rfl⟩
theorem xkx (x y : Int × Int × Int × Int) : ltOf (fun x y : Int × Int × Int × Int => Lib.compareInt x.2.1 y.2.1) x y = decide (x.2.1 < y.2.1) := by
 unfold ltOf Lib.compareInt
 by_cases h1 : x.2.1 < y.2.1
 ·simp [h1]
 ·by_cases h2 : y.2.1 < x.2.1 <;> simp [h1,h2]
theorem yxy : SWO (ltOf fun x y : Int × Int × Int × Int => Lib.compareInt x.2.1 y.2.1) where
 irrefl x := by rw [xkx];simp
 trans x y z h1 h2 := by rw [xkx] at *;simp at *;omega
 ntrans x y z h1 h2 := by rw [xkx] at *;simp at *;omega
def SortedS (w : World) (base : Nat) (A : Option Addr) (n c : Nat) (rs : List (Int × Int × Int × Int)) (e : Ending) (w' : World) : Prop :=
 e = .returned (.tuple #[]) /\ ∃ ds : List (Int × Int × Int × Int),ds.Perm rs /\ (ds.Pairwise fun a b => a.2.1 <= b.2.1) /\ w'.ownsRow base 49 4 (.slice A n c) n (cellsAll scells ds) /\ w.grownBy w' (Value.slice A n c).ownBlock
theorem yxz (A : Option Addr) (n c : Nat) (rs : List (Int × Int × Int × Int)) (w : World) (base : Nat) (hown : w.ownsRow base 49 4 (.slice A n c) n (cellsAll scells rs)) (hl : rs.length = n) (h0 : ¬ n = 0) (hn : n <= 4611686018427387903) :
  Calls Tryz.prog 157 #[.slice A n c,.func (.func 88) #[] #[]] w (SortedS w base A n c rs) := by
 obtain ⟨g,rfl⟩ : ∃ g,A = some ⟨g,0,none⟩ := by
  rcases hown.2 with ⟨_,h⟩ | ⟨g,cap,cur,h,_⟩
  ·exact absurd h h0
  ·injection h with e1;exact ⟨g,e1⟩
 obtain ⟨L,hL,hbg,hnc,hcm,hLl,hxs⟩ := xqj hown
 have eg : ∀ args w,(callFunc 88 args).run Tryz.prog w = .ok (.enter 88 args) w := enters_of Tryz.func88 (by kernel_rfl) rfl
 have hd : rs.toArray.size = n := by simpa using hl
 have hH : HoldsK scells 4 w g 0 rs.toArray := yk5 scells 4 (by decide) xqg hL rs.toArray (by rw [hd,<- hxs])
 have h := AnyQ.slices_SortFunc Tryz.sortSpans 4 Tryz.isAgg49 Tryz.sizeOf49 scells (fun _ => rfl) (fun x v hv => by simp [scells] at hv;rcases hv with rfl | rfl | rfl | rfl <;> rfl) (fun x y => Lib.compareInt x.2.1 y.2.1) yxy 88 #[] g 0 c rs.toArray w eg
  (fun _ _ _ _ x y => yk6 x y _) hH hL.lt (by omega)
 rw [hd] at h
 change Calls Tryz.prog 157 _ _ _ at h
 refine h.mono ?_
 rintro e w' ⟨he,d',m,os,⟨hp1,_,hp3⟩,hs,rfl⟩
 have hdn : d'.size = n := by rw [hp1,hd]
 obtain ⟨r1,r2⟩ := put_rwS scells 4 (by decide) xqg hL m d' os (by rw [hdn,hLl];exact Nat.mul_le_mul_right 4 hnc)
 have hdl := xq5 xqg d'.toList
 simp only [Array.length_toList] at hdl
 refine ⟨he,d'.toList,?_,?_,?_,r2⟩
 ·have e1 : d'.extract 0 n = d' := by rw [<- hdn];exact Array.extract_size
  have e2 : rs.toArray.extract 0 n = rs.toArray := by rw [<- hd];exact Array.extract_size
  rw [e1,e2] at hp3
  exact hp3
 ·rw [List.pairwise_iff_getElem]
  intro i j hi hj hij
  have hi' : i < d'.size := by simpa using hi
  have hj' : j < d'.size := by simpa using hj
  have := hs i j (Nat.zero_le _) hij (by omega)
  rw [getElem!_pos d' j hj',getElem!_pos d' i hi',xkx] at this
  have := of_decide_eq_false this
  simp only [Array.getElem_toList]
  omega
 ·have h2 := xq8 (base := base) (s := 4) (n := n) (c := c) r1 hbg hnc hcm (by rw [List.length_append,hdl,List.length_drop,hLl,hdn];have := Nat.mul_le_mul_right 4 hnc;omega)
  rw [List.take_left' (by rw [hdl,hdn])] at h2
  exact h2
end Go.Proofs.YtlcdgmjinhbncaaGreat
namespace Go.Proofs.YtlcdgmjinhbncaaGreat
open Go.RowKit Go.Maps Go.Shelf
set_option linter.unusedVariables false
attribute [local go_sem] Oper.semAt_some
def Box4 (W : World) (B : Nat) (s : Int × Int × Int × Int) : Prop := W.heap[B]? = some (.cells #[.int .i64 s.1,.int .i64 s.2.1,.int .i64 s.2.2.1,.int .i64 s.2.2.2] 49 (0,0))
theorem box4_own (B : Nat) : Own (fun s W => Box4 W B s) := fun s X Y row hs hg hrow => by
 refine (hg.block B (Array.getElem?_eq_some_iff.1 hs).1 (fun e => ?_)).trans hs
 obtain ⟨o,ho,hc⟩ := hrow B e.symm
 rw [show X.heap[B]? = _ from hs] at ho
 cases ho;cases hc
theorem xQ7 (y : Int × Int × Int × Int) : ∀ u ∈ scells y,u.oneCell' = true := fun u hu => by
 simp only [scells,List.mem_cons,List.not_mem_nil,or_false] at hu
 rcases hu with rfl | rfl | rfl | rfl <;> rfl
def ApI (w : World) (pre : List (Int × Int × Int × Int)) (W : World) : Prop :=
 (∃ v,Boxed W w.heap.size 30 v /\ W.ownsRow w.heap.size 49 4 v pre.length (cellsAll scells pre) /\ True) /\ Below w.heap.size w W
def ApAx (w : World) (f : Nat -> (Int × Int × Int × Int) -> Act) (x : Int × Int × Int × Int) (a : Act) (W : World) : Prop := ∃ Bx,w.heap.size < Bx /\ Box4 W Bx x /\ a = f Bx x
set_option maxRecDepth 100000 in
set_option maxHeartbeats 2000000 in
theorem xKc (F : Fence) (n : Nat) (h11 : F.fn 217) (hro : F.round = none) (hn : 3 <= n) (g : Nat) (lb : Array Value) (hFg : F.fn g) (eg : ∀ args w,(callFunc g args).run Tryz.prog w = .ok (.enter g args) w)
  (S : List (Int × Int × Int × Int) -> Prop) (N : Nat) (hN : N <= 1000000000) (w : World) (hseq : SeqStopsK F (n - 1) Tryz.prog g lb encV KeepsWalks S (fun _ => True) N w) :
  CallsIn F n Tryz.prog 217 #[.slice none 0 0,.func (.func g) #[] lb] w fun e w' => ∃ (v : Value) (ss : List (Int × Int × Int × Int)),e = .returned v /\ S ss /\ w'.ownsRow w.heap.size 49 4 v ss.length (cellsAll scells ss) /\ Below w.heap.size w w' := by
 have h1 : 1 <= n := by omega
 obtain ⟨i0,hi,hz0,hz1,hz2⟩ := info_parts xjf
 refine callsIn_of_wp_marks Tryz.func217 rfl h11 ?_ hro
 simp only [Tryz.ntmps217,List.size_toArray,List.length_cons,List.length_nil,Nat.reduceAdd,Nat.reduceSub,Array.replicate_succ,Array.replicate_zero,List.push_toArray,List.append_toArray,List.nil_append,List.cons_append]
 gi_wp2
 have hb0 : Below w.heap.size w (w.alloc (.cells #[.slice none 0 0] 30)) := (Below.refl _ _).alloc (Nat.le_refl _) _
 refine wpIn_rangeFunc_ownH hro h1 (gf := g) (lb := lb) rfl hFg eg hseq walksK_t walksK_b hb0 (fun _ => rfl) (ApI w) (fun _ _ _ => False)
  (OwnFrom.and (Own.from (holdsRow_own w.heap.size w.heap.size 30 49 4 (fun pre => pre.length) (fun pre => cellsAll scells pre) (fun _ _ => True)) _) (ownFrom_below (Nat.le_refl _) (by simp)))
  (fun _ _ _ _ _ hs _ _ => hs)
  ⟨⟨_,Boxed.new w _ _,World.ownsRow_nil _ _ _ _,trivial⟩,hb0⟩
  (ApAx w (fun Bx x => { tmps := #[.slice none 0 0,.func (.func g) #[] lb,.pointer (some ⟨w.heap.size,0,none⟩),undef,.slice none 0 0,.pointer (some ⟨Bx,0,none⟩),.func (.func g) #[] lb,.agg #[.int .i64 x.1,.int .i64 x.2.1,.int .i64 x.2.2.1,.int .i64 x.2.2.2],undef,undef,undef,undef,undef],defers := [] }))
  (fun x a' => fun _ X Y row ⟨Bx,h1,h2,h3⟩ hg hr => ⟨Bx,h1,box4_own Bx x X Y row h2 hg (fun r e => (hr r e).2),h3⟩) ?assign ?body ?done ?stop
 case assign =>
  rintro l pre ⟨s1,s2,s3,s4⟩ W K ⟨⟨v,hv,hrow,_⟩,hB⟩ hK
  have hlt := hv.lt
  gi_wp2
  refine hK _ _ ((KeepsOthers.alloc _ _).from _) (KeepsWalks.alloc _ _) ⟨⟨v,hv.alloc _,hrow.alloc _,trivial⟩,hB.alloc hB.size _⟩ ⟨W.heap.size,by omega,?_,rfl⟩
  show (W.heap.push _)[W.heap.size]? = _
  simp
 case body =>
  rintro l pre ⟨s1,s2,s3,s4⟩ a' W hl ⟨r,hr⟩ ⟨⟨v,hv,hrow,_⟩,hB⟩ ⟨Bx,hlt,hbox,rfl⟩ hlen
  have hc := hv.cell
  obtain ⟨b0,b1,b2,b3,_⟩ := cells4 hbox
  have hsz := hB.size
  gi_wp2_with (first
   | (gi_at_builtin;refine wpListIn_append_own _ rfl _ _ 30 rfl w.heap.size 49 i0 (.agg #[.int .i64 0,.int .i64 0,.int .i64 0,.int .i64 0]) 4 32 Tryz.underlying30 hi hz0 hz1 hz2 rfl (by decide) _ _ _ rfl (hrow.alloc _) ⟨W.heap.size,0,none⟩ 1 1 (scells (s1,s2,s3,s4)) rfl rfl (xxz W (scells (s1,s2,s3,s4)) _ _ rfl) (xQ7 _) (by unfold maxLen;omega) (by omega) (by simp;omega) ?_;intro v' w1 hown' hgrow _;obtain ⟨g',cap',rfl⟩ := ownsRow_succ hown';obtain ⟨hv1,hv2,hr2,hk2,hb2⟩ := hv.appended (by decide) hrow hsz (Nat.le_refl _) hown' hgrow;have hc1 := hv1.cell;have hf1 := hv1.frozen)
   | gi_in)
  refine ⟨hk2.from _,hk2.walks,⟨⟨_,hv2,?_,trivial⟩,hB.trans hb2⟩⟩
  rw [List.length_append,xq7,xx6]
  exact hr2
 case done =>
  rintro D ys W hD hS ⟨⟨v,hv,hrow,_⟩,hB⟩ hK
  have hc := hv.cell
  gi_wp2
  refine ⟨by simp,.inl ⟨_,_,rfl,run_takeDeferred hK,?_⟩⟩
  refine ⟨_,results_tmp rfl _ _ _,v,ys,rfl,hS,ownsRow_putObj hrow _ hK rfl,hB.trans (belowK_b (w := w) (Nat.le_refl _) W D _ _ (by simp at hD;omega) hK rfl rfl)⟩
 case stop =>
  rintro D c pre W _ _ h _
  exact h.elim
set_option maxHeartbeats 1000000 in
theorem yz0 (F : Fence) (n : Nat) (h8 : F.fn 156) (h11 : F.fn 217) (hro : F.round = none) (hn : 4 <= n) (g : Nat) (lb : Array Value) (hFg : F.fn g) (eg : ∀ args w,(callFunc g args).run Tryz.prog w = .ok (.enter g args) w)
  (S : List (Int × Int × Int × Int) -> Prop) (N : Nat) (hN : N <= 1000000000) (w : World) (hseq : SeqStopsK F (n - 1 - 1) Tryz.prog g lb encV KeepsWalks S (fun _ => True) N w) :
  CallsIn F n Tryz.prog 156 #[.func (.func g) #[] lb] w fun e w' => ∃ (v : Value) (ss : List (Int × Int × Int × Int)),e = .returned v /\ S ss /\ w'.ownsRow w.heap.size 49 4 v ss.length (cellsAll scells ss) /\ Below w.heap.size w w' := by
 have h1 : 1 <= n := by omega
 refine callsIn_of_wp Tryz.func156 rfl h8 ?_ hro
 simp only [Tryz.ntmps156,List.size_toArray,List.length_cons,List.length_nil,Nat.reduceAdd,Nat.reduceSub,Array.replicate_succ,Array.replicate_zero,List.push_toArray,List.append_toArray,List.nil_append,List.cons_append]
 gi_wp2_with (gi_at_call 217;refine (xKc F (n - 1) h11 hro (by omega) g lb hFg eg S N hN _ hseq).mono ?_;rintro e w' ⟨v,ss,rfl,hS,hrow,hb⟩)
 go_ret
 exact ⟨v,ss,rfl,hS,hrow,hb⟩
theorem xKd (Bm b nn : Nat) (D0 : DataW Unit) (l : List (Int × Int × Int × Int)) (hmis : MIs D0 l) (hd : (l.map (·.1)).Nodup) (hnn : nn <= 1000000000) (w : World)
  (hm : w.cell? ⟨Bm,0,none⟩ = some (.map (some b))) (hown : w.ownsMap Tryz.prog 3 spanR b nn D0) :
  Calls Tryz.prog 156 #[.func (.func 158) #[] #[.pointer (some ⟨Bm,0,none⟩)]] w fun e w' => ∃ A c ss,e = .returned (.slice A (List.length ss) c) /\ AllOf l ss /\ w'.ownsRow w.heap.size 49 4 (.slice A ss.length c) ss.length (cellsAll scells ss) /\ Below w.heap.size w w' := by
 have hsz := hown.size_le
 refine ((callsIn_wide (n := 6)).1 (yz0 Fence.wide 6 trivial trivial rfl (by omega) _ _ trivial (enters_of Tryz.func158 (by kernel_rfl) rfl) (AllOf l) (Maps.size D0) (by omega) w
  (xKb Fence.wide _ trivial rfl (by omega) Bm b nn D0 l hmis hd w (xq0 hm) hm hown))).mono ?_
 rintro e w' ⟨v,ss,rfl,hS,hrow,hb⟩
 rcases hrow.2 with ⟨rfl,h0⟩ | ⟨g,cap,cur,rfl,rest⟩
 ·exact ⟨none,0,ss,by rw [h0],hS,by rw [h0] at hrow ⊢;exact hrow,hb⟩
 ·exact ⟨_,_,ss,rfl,hS,hrow,hb⟩
set_option maxHeartbeats 2000000 in
theorem yz1 (p : Option Addr) (cap : Nat) (fv : Value) (w : World) :
  Calls Tryz.prog 264 #[.slice p 0 cap,.int .i64 0,.int .i64 0,fv] w fun e w' => e = .returned (.tuple #[]) /\ w' = w := by
 go_enter Tryz.func264,Tryz.ntmps264
 go_wp2
 refine wp_loop_rounds 1 ?_
 rw [rounds_succ]
 go_wp2
 go_end0
 exact ⟨rfl,rfl⟩
set_option maxHeartbeats 2000000 in
set_option maxRecDepth 100000 in
theorem pdq_none (p : Option Addr) (cap : Nat) (lim : Int) (fv : Value) (w : World) :
  Calls Tryz.prog 218 #[.slice p 0 cap,.int .i64 0,.int .i64 0,.int .i64 lim,fv] w fun e w' => e = .returned (.tuple #[]) /\ w' = w := by
 have hi := fun W => yz1 p cap fv W
 go_enter Tryz.func218,Tryz.ntmps218
 go_wp2
 refine wp_loop_rounds 1 ?_
 rw [rounds_succ]
 go_wp2_with (go_at_call 264;(with_reducible refine (hi _).mono ?_);rintro e w' ⟨rfl,rfl⟩)
 (try simp only [Exit.inBlock,Exit.then]);refine bodyPost_ret (results_none rfl _ _ _) rfl ?_
 exact ⟨rfl,rfl⟩
set_option maxHeartbeats 2000000 in
theorem yk7 (p : Option Addr) (cap : Nat) (fv : Value) (w : World) :
  Calls Tryz.prog 157 #[.slice p 0 cap,fv] w fun e w' => e = .returned (.tuple #[]) /\ w' = w := by
 have hp := fun lim W => pdq_none p cap lim fv W
 have hl : ∀ W,Calls Tryz.prog 167 #[.int .u64 0] W fun e w' => e = .returned (.int .i64 (Lib.bitLen 0 : Nat)) /\ w' = W := fun W => by
  have h := Any.bits_Len (SlLaysF0.n15.bits (P := Tryz.prog) { Tryz.sortSpans with }) 0 W (by omega) (by omega)
  exact h
 generalize (Lib.bitLen 0 : Nat) = bl at hl
 go_enter Tryz.func157,Tryz.ntmps157
 go_wp2_with (first
  | (go_at_call 167;(with_reducible refine (hl _).mono ?_);rintro e w' ⟨rfl,rfl⟩)
  | (go_at_call 218;(with_reducible refine (hp _ _).mono ?_);rintro e w' ⟨rfl,rfl⟩))
 go_end0
 exact ⟨rfl,rfl⟩
def OwnSpansC (w : World) (l : List (Int × Int × Int × Int)) (e : Ending) (w' : World) : Prop :=
 ∃ A c,e = .returned (.slice A (List.length l) c) /\ w'.ownsRow w.heap.size 49 4 (.slice A l.length c) l.length (cellsAll scells l) /\ Below w.heap.size w w'
def InOrder (l ds : List (Int × Int × Int × Int)) : Prop := (ds.map (·.1)).Nodup /\ (∀ s,s ∈ ds ↔ s ∈ l) /\ ds.Pairwise fun a b => a.2.1 <= b.2.1
theorem xKe (l : List (Int × Int × Int × Int)) (hlen : ∀ ss,AllOf l ss -> ss.length <= 1000000000) (B : Nat) (w : World) (hc : Calls Tryz.prog 156 #[.func (.func 158) #[] #[.pointer (some ⟨B,0,none⟩)]] w fun e w' => ∃ A c ss,e = .returned (.slice A (List.length ss) c) /\ AllOf l ss /\ w'.ownsRow w.heap.size 49 4 (.slice A ss.length c) ss.length (cellsAll scells ss) /\ Below w.heap.size w w') :
  Calls Tryz.prog 85 #[.func (.func 158) #[] #[.pointer (some ⟨B,0,none⟩)],.func (.func 88) #[] #[]] w fun e w' => ∃ ds,InOrder l ds /\ OwnSpansC w ds e w' := by
 have HS : Hid (∀ W A c (ss : List (Int × Int × Int × Int)) n,ss.length = n -> AllOf l ss -> W.ownsRow w.heap.size 49 4 (.slice A n c) n (cellsAll scells ss) -> ¬ n = 0 -> Calls Tryz.prog 157 #[.slice A n c,.func (.func 88) #[] #[]] W (SortedS W w.heap.size A n c ss)) := hidb (fun W A c ss n hn hS hrow h0 => by
  have := hlen ss hS
  exact yxz A n c ss W w.heap.size hrow hn h0 (by omega))
 have HSn : Hid (∀ A c W,Calls Tryz.prog 157 #[.slice A 0 c,.func (.func 88) #[] #[]] W fun e w' => e = .returned (.tuple #[]) /\ W = w') := hidb (fun A c W => (yk7 A c _ W).mono fun e w' ⟨h1,h2⟩ => ⟨h1,h2.symm⟩)
 clear hlen
 go_enter Tryz.func85,Tryz.ntmps85
 go_wp2_with (first
  | (go_at_call 156;(with_reducible refine hc.mono ?_);rintro e w1 ⟨A,c,ss,rfl,hS,hrow,hb1⟩))
 obtain ⟨n,hn⟩ : ∃ n,ss.length = n := ⟨_,rfl⟩
 rw [hn] at hrow ⊢
 by_cases h0 : n = 0
 ·subst h0
  obtain rfl : ss = [] := List.eq_nil_of_length_eq_zero hn
  have hsn := HSn.out A c w1
  clear hn
  go_wp2_with (first
   | (go_at_call 157;(with_reducible refine hsn.mono ?_);rintro e w2 ⟨rfl,rfl⟩))
  go_ret
  exact ⟨[],⟨List.nodup_nil,hS.2,List.Pairwise.nil⟩,A,c,rfl,hrow,hb1⟩
 ·have cs := HS.out w1 A c ss n hn hS hrow h0
  have HN := hidb hn
  have HS2 := hidb hS
  have hne : ∀ b,(Value.slice A n c).ownBlock = some b -> w.heap.size <= b := fun b hb => (hrow.lt b hb).1
  have HNE := hidb hne
  clear hn hS h0 hrow hne
  unfold SortedS at cs
  go_wp2_with (first
   | (go_at_call 157;(with_reducible refine cs.mono ?_);rintro e w2 ⟨rfl,ds,hp,hr,hrow2,hg2⟩))
  have hl : ds.length = n := by rw [hp.length_eq];exact HN.out
  go_ret
  refine ⟨ds,⟨(hp.map _).nodup_iff.2 HS2.out.1,fun s => (hp.mem_iff).trans (HS2.out.2 s),hr⟩,A,c,(by rw [hl];rfl),(by rw [hl];exact hrow2),hb1.grown hg2 hb1.size (fun b hb => HNE.out b hb)⟩
theorem xW3 (mb : Option Nat) (w : World) :
  Calls Tryz.prog 86 #[.map mb] w fun e w' => e = .returned (.func (.func 158) #[] #[.pointer (some ⟨w.heap.size,0,none⟩)]) /\ w' = w.alloc (.cells #[.map mb] 152) := by
 go_enter Tryz.func86,Tryz.ntmps86
 go_wp2
 go_ret
 exact ⟨rfl,rfl⟩
theorem xxk : ∀ (n : Nat) (l : List Int),l.Nodup -> (∀ x ∈ l,1 <= x /\ x <= (n : Int)) -> l.length <= n
 | 0,l,_,h => by
  cases l with
  | nil => exact Nat.le_refl _
  | cons x l => have := h x (List.mem_cons_self ..);omega
 | n + 1,l,hn,h => by
  by_cases c : ((n + 1 : Nat) : Int) ∈ l
  ·have h1 := List.length_erase_of_mem c
   have h2 := xxk n (l.erase ((n + 1 : Nat) : Int)) (hn.erase _) fun x hx => by
    have h3 := h x (List.mem_of_mem_erase hx)
    have h4 : x ≠ ((n + 1 : Nat) : Int) := fun e => by subst e;exact hn.not_mem_erase hx
    omega
   omega
  ·have h2 := xxk n l hn fun x hx => by
    have h3 := h x hx
    have h4 : x ≠ ((n + 1 : Nat) : Int) := fun e => c (e ▸ hx)
    omega
   omega
theorem yk8 {h : HeapV} (k : HOk h) (hlb : h.last <= 1000000000) : ∀ ss,AllOf h.l ss -> ss.length <= 1000000000 := fun ss hS => by
 have h1 := xxk h.last.toNat (ss.map (·.1)) hS.1 fun x hx => by
  obtain ⟨s,hs,rfl⟩ := List.mem_map.1 hx
  have := k.idr s ((hS.2 s).1 hs)
  omega
 rw [List.length_map] at h1
 omega
theorem xZt {h : HeapV} (k : HOk h) {ds : List (Int × Int × Int × Int)} (hd : InOrder h.l ds) : ds = hSpans h := by
 refine (yja k ?_ hd.2.1).symm
 unfold Rises
 refine (List.Pairwise.imp_of_mem (R := fun a b => a.2.1 <= b.2.1 /\ a.1 ≠ b.1) ?_ (hd.2.2.and (List.pairwise_map.1 hd.1)))
 intro a b ha hb ⟨h1,h2⟩
 have k1 := k.start ((hd.2.1 a).1 ha)
 have k2 := k.start ((hd.2.1 b).1 hb)
 have := k.side ((hd.2.1 a).1 ha) ((hd.2.1 b).1 hb) (fun e => h2 (by rw [e]))
 omega
theorem xQp (a : Option Addr) (w : World) (l : List (Int × Int × Int × Int)) (v : Value) (mb : Option Nat) (hp : Calls Tryz.prog 87 #[.pointer a] w fun e w' => e = .returned v /\ Below w.heap.size w w')
  (hv : ∀ w,(Instr.field 156 v 2).run Tryz.prog w = .ok (.map mb) w) (hlen : ∀ ss,AllOf l ss -> ss.length <= 1000000000)
  (hc : ∀ W B,Below w.heap.size w W -> W.cell? ⟨B,0,none⟩ = some (.map mb) -> Calls Tryz.prog 156 #[.func (.func 158) #[] #[.pointer (some ⟨B,0,none⟩)]] W fun e w' => ∃ A c ss,e = .returned (.slice A (List.length ss) c) /\ AllOf l ss /\ w'.ownsRow W.heap.size 49 4 (.slice A ss.length c) ss.length (cellsAll scells ss) /\ Below W.heap.size W w') :
  Calls Tryz.prog 25 #[.pointer a] w fun e w' => ∃ ds,InOrder l ds /\ OwnSpansC w ds e w' := by
 have cv := fun W => xW3 mb W
 have cs : ∀ w1,Below w.heap.size w w1 -> Calls Tryz.prog 85 #[.func (.func 158) #[] #[.pointer (some ⟨w1.heap.size,0,none⟩)],.func (.func 88) #[] #[]] (w1.alloc (.cells #[.map mb] 152)) fun e w' => ∃ ds A c,e = .returned (.slice A (List.length ds) c) /\ InOrder l ds /\ w'.ownsRow w.heap.size 49 4 (.slice A ds.length c) ds.length (cellsAll scells ds) /\ Below w.heap.size w w' := fun w1 hb1 => by
  have hb2 : Below w.heap.size w (w1.alloc (.cells #[.map mb] 152)) := hb1.alloc hb1.size _
  refine (xKe l hlen w1.heap.size _ (hc _ _ hb2 (World.cell?_alloc_at _ _ _ 0 (by simp)))).mono ?_
  rintro e w' ⟨ds,hd,A,c,rfl,hrow,hb⟩
  exact ⟨ds,A,c,rfl,hd,xxb hrow hb2.size,hb2.trans (hb.mono hb2.size)⟩
 clear hc hlen
 go_enter Tryz.func25,Tryz.ntmps25
 go_wp2_with (first
  | (go_at_call 87;(with_reducible refine hp.mono ?_);rintro e w1 ⟨rfl,hb1⟩)
  | (go_at_call 86;(with_reducible refine (cv _).mono ?_);rintro e w2 ⟨rfl,rfl⟩)
  | (go_at_call 85;(with_reducible refine (cs _ hb1).mono ?_);rintro e w3 ⟨ds,A,c,rfl,hd,hrow,hb3⟩))
 go_ret
 exact ⟨ds,hd,A,c,rfl,hrow,hb3⟩
theorem xW4 {w : World} {S : Nat -> Prop} {p : Nat} {h : HeapV} (k : Hp w S p h) :
  Calls Tryz.prog 25 #[.pointer (some ⟨p,0,none⟩)] w (OwnSpansC w (hSpans h)) := by
 obtain ⟨ip,ig,fp,mb,n,m,ids,D,Sf,k1,k2,k3,k4,k5,k6,k7⟩ := k
 refine (xQp _ w h.l _ (some mb) (xqv p _ _ _ _ w k1.c0 k1.c1 k1.c2 k1.c3) (fun w => yqg _ _ _ _ w) (yk8 k1.ok k1.lb)
  (fun W B hb hB => xKd B mb m D h.l k1.mis k1.ok.ids (by have := k1.la;have := k1.lb;omega) W hB (xq2 k1.mp (hb.block _ k1.mp.lt)))).mono ?_
 rintro e w' ⟨ds,hd,hO⟩
 rw [<- xZt k1.ok hd]
 exact hO
end Go.Proofs.YtlcdgmjinhbncaaGreat
namespace Go.Proofs.YtlcdgmjinhbncaaGreat
set_option linter.unusedVariables false
structure PoolV where
 heap : HeapV
 l : List ((Int × Int × Int × Int) × List Int)
 held : Bool
def pSize (order : Int) : Nat := 16 * 2 ^ order.toNat
def pMany (len order : Int) : Nat := ((64 * len.toNat) + (pSize order - 1)) / pSize order
def pBlocks (s : Int × Int × Int × Int) : List Int := (List.range (pMany s.2.2.1 s.2.2.2)).map fun i => 64 * s.2.1 + ((i * pSize s.2.2.2 : Nat) : Int)
def pFits (order from' : Int) (some' : Bool) (c : (Int × Int × Int × Int) × List Int) : Bool := decide (c.1.2.2.2 = order /\ from' <= c.1.2.1) && (!some' || decide (0 < c.2.length))
def pStep (order from' : Int) (some' : Bool) (l : List ((Int × Int × Int × Int) × List Int)) (o : Option Nat) (i : Nat) : Option Nat :=
 match l[i]? with
 | none => o
 | some c => if pFits order from' some' c then (match o with
  | none => some i
  | some b => match l[b]? with
   | none => some b
   | some d => if c.1.2.1 < d.1.2.1 then some i else some b) else o
def pFirst (l : List ((Int × Int × Int × Int) × List Int)) (order from' : Int) (some' : Bool) : Option Nat := (List.range l.length).foldl (pStep order from' some' l) none
def pOf (l : List ((Int × Int × Int × Int) × List Int)) (at' : Int) : Option Nat := l.findIdx? (fun c => decide (at' ∈ pBlocks c.1))
theorem xzq (o : Int) : 0 < pSize o := Nat.mul_pos (by omega) (Nat.pow_pos (by omega))
theorem xKf (len order : Int) (i : Nat) : i < pMany len order ↔ i * pSize order < 64 * len.toNat := by
 unfold pMany
 have h := xzq order
 obtain ⟨s,hs⟩ : ∃ s,pSize order = s := ⟨_,rfl⟩
 rw [hs] at h ⊢
 constructor
 ·intro hi
  have h1 : (i + 1) * s <= 64 * len.toNat + (s - 1) := (Nat.le_div_iff_mul_le h).1 hi
  rw [Nat.add_mul] at h1
  omega
 ·intro hi
  refine (Nat.le_div_iff_mul_le h).2 ?_
  rw [Nat.succ_mul]
  omega
theorem yqi (len order : Int) (h : len <= 1024) : pMany len order <= 4096 := by
 refine Nat.not_lt.1 fun c => ?_
 have h1 := (xKf len order 4096).1 c
 have h2 : 16 <= pSize order := by
  unfold pSize
  have := Nat.pow_pos (n := order.toNat) (show 0 < 2 by omega)
  omega
 have h3 : 4096 * 16 <= 4096 * pSize order := Nat.mul_le_mul_left _ h2
 omega
theorem xq9 (s : Int × Int × Int × Int) : (pBlocks s).length = pMany s.2.2.1 s.2.2.2 := by unfold pBlocks;rw [List.length_map,List.length_range]
theorem xKg (s : Int × Int × Int × Int) (i : Nat) (h : i < pMany s.2.2.1 s.2.2.2) : (pBlocks s).take (i + 1) = (pBlocks s).take i ++ [64 * s.2.1 + ((i * pSize s.2.2.2 : Nat) : Int)] := by
 rw [List.take_add_one]
 congr 1
 unfold pBlocks
 rw [List.getElem?_map,List.getElem?_range h];rfl
end Go.Proofs.YtlcdgmjinhbncaaGreat
namespace Go.Proofs.YtlcdgmjinhbncaaGreat
open Go.RowKit Go.Maps
set_option linter.unusedVariables false
structure CutV where
 b : Nat
 s : Int × Int × Int × Int
 c : Int × Int
 l : List Int
def CutV.plain (k : CutV) : (Int × Int × Int × Int) × List Int := (k.s,k.l)
def ptrv (o : Option Nat) : Value := .pointer (o.map fun b => ⟨b,0,none⟩)
theorem ptrv_inj {a b : Option Nat} (h : ptrv a = ptrv b) : a = b := by
 cases a <;> cases b <;> simp [ptrv] at h ⊢
 exact h
def encP (o : Option Nat) : DataW Unit := .lit (.int .i64 (match o with | none => -1 | some b => (b : Int)))
theorem yqj {a b : Option Nat} (h : encP a = encP b) : a = b := by
 simp only [encP,DataW.lit.injEq,Lit.int.injEq,true_and] at h
 cases a <;> cases b <;> simp at h ⊢ <;> omega
open Classical in
noncomputable def ptrR (v : Value) : Option (DataW Unit × List MemPlace) := if h : ∃ o,v = ptrv o then some (encP h.choose,[]) else none
theorem xW5 (o : Option Nat) : ptrR (ptrv o) = some (encP o,[]) := by
 unfold ptrR
 have h : ∃ t,ptrv o = ptrv t := ⟨o,rfl⟩
 rw [dif_pos h]
 rw [<- ptrv_inj h.choose_spec]
theorem yqk {v : Value} {z : DataW Unit × List MemPlace} (h : ptrR v = some z) : ∃ o,v = ptrv o /\ z = (encP o,[]) := by
 unfold ptrR at h
 split at h
 ·next hs => exact ⟨hs.choose,hs.choose_spec,by injection h with h;exact h.symm⟩
 ·cases h
theorem zero_ptr (w : World) : (zeroValue 135).run Tryz.prog w = .ok (ptrv none) w := by kernel_rfl
structure PIs (D : DataW Unit) (ks : List CutV) : Prop where
 has : ∀ id,Maps.has D (.int .i64 id) = ks.any (fun k => k.s.1 == id)
 at_ : ∀ k ∈ ks,∀ z,D.atKey (.int .i64 k.s.1) z = encP (some k.b)
theorem pis_nil : PIs (.map []) [] := ⟨fun _ => rfl,fun s hs => by cases hs⟩
theorem PIs.any_iff {ks : List CutV} (id : Int) : (ks.any (fun k => k.s.1 == id) = true) ↔ ∃ k ∈ ks,k.s.1 = id := by
 rw [List.any_eq_true]
 simp
theorem PIs.put {D : DataW Unit} {ks : List CutV} (h : PIs D ks) (hD : Maps.IsMap D) {k : CutV} (hs : ∀ t ∈ ks,t.s.1 ≠ k.s.1) (hi : in64 k.s.1) : PIs (D.put (.int .i64 k.s.1) (encP (some k.b))) (ks ++ [k]) := by
 have hk := keyed.key (xzp hi)
 refine ⟨fun id => ?_,fun t ht z => ?_⟩
 ·rw [List.any_append]
  by_cases c : id = k.s.1
  ·subst c
   rw [Maps.has_put_same hD hk]
   simp
  ·rw [Maps.has_put_other (xkp c),h.has]
   simp [Ne.symm c]
 ·rcases List.mem_append.1 ht with ht | ht
  ·rw [Maps.atKey_put_other (xkp (hs t ht)),h.at_ t ht]
  ·obtain rfl := List.mem_singleton.1 ht
   exact Maps.atKey_put_same hD hk _ _
def cutOf (ks : List CutV) (id : Int) : Option CutV := ks.find? (fun k => k.s.1 == id)
theorem xky {ks : List CutV} {id : Int} {k : CutV} (h : cutOf ks id = some k) : k ∈ ks /\ k.s.1 = id := ⟨List.mem_of_find?_eq_some h,by have := List.find?_some h;simpa using this⟩
theorem PIs.get {D : DataW Unit} {ks : List CutV} (h : PIs D ks) (id : Int) : D.atKey (.int .i64 id) (encP none) = encP ((cutOf ks id).map (·.b)) := by
 cases c : cutOf ks id with
 | none =>
  refine Maps.atKey_of_not_has ?_ _
  rw [h.has]
  cases e : ks.any (fun k => k.s.1 == id) with
  | false => rfl
  | true =>
   obtain ⟨k,hk,e2⟩ := (PIs.any_iff id).1 e
   have := List.find?_eq_none.1 c k hk
   simp [e2] at this
 | some k =>
  obtain ⟨h1,h2⟩ := xky c
  rw [<- h2]
  exact h.at_ k h1 _
theorem PIs.same {D : DataW Unit} {ks ks' : List CutV} (h : PIs D ks) (e : ks'.map (fun k => (k.s.1,k.b)) = ks.map (fun k => (k.s.1,k.b))) : PIs D ks' := by
 have m : ∀ k ∈ ks',∃ t ∈ ks,t.s.1 = k.s.1 /\ t.b = k.b := fun k hk => by
  have h1 : (k.s.1,k.b) ∈ ks.map (fun k => (k.s.1,k.b)) := e ▸ List.mem_map.2 ⟨k,hk,rfl⟩
  obtain ⟨t,ht,e2⟩ := List.mem_map.1 h1
  injection e2 with e3 e4
  exact ⟨t,ht,e3,e4⟩
 refine ⟨fun id => ?_,fun k hk z => ?_⟩
 ·rw [h.has]
  have : ∀ ls : List CutV,ls.any (fun k => k.s.1 == id) = (ls.map (fun k => (k.s.1,k.b))).any (fun p => p.1 == id) := fun ls => by rw [List.any_map];rfl
  rw [this,this,e]
 ·obtain ⟨t,ht,e1,e2⟩ := m k hk
  rw [<- e1,<- e2]
  exact h.at_ t ht z
structure CutAt (w : World) (k : CutV) : Prop where
 c0 : w.cell? ⟨k.b,0,none⟩ = some (.int .i64 k.s.1)
 c1 : w.cell? ⟨k.b,1,none⟩ = some (.int .i64 k.s.2.1)
 c2 : w.cell? ⟨k.b,2,none⟩ = some (.int .i64 k.s.2.2.1)
 c3 : w.cell? ⟨k.b,3,none⟩ = some (.int .i64 k.s.2.2.2)
 c4 : w.cell? ⟨k.b,4,none⟩ = some (.int .i64 k.c.1)
 c5 : w.cell? ⟨k.b,5,none⟩ = some (.int .i64 k.c.2)
 fz : ∀ j,w.frozen? ⟨k.b,j,none⟩ = false
theorem CutAt.lt {w : World} {k : CutV} (h : CutAt w k) : k.b < w.heap.size := xq0 h.c0
theorem CutAt.keep {w w' : World} {k : CutV} (h : CutAt w k) (hb : w'.heap[k.b]? = w.heap[k.b]?) : CutAt w' k := by
 have hc : ∀ j,w'.cell? ⟨k.b,j,none⟩ = w.cell? ⟨k.b,j,none⟩ := fun j => World.cell?_of_block (w := w) (a := ⟨k.b,j,none⟩) hb
 exact ⟨(hc 0).trans h.c0,(hc 1).trans h.c1,(hc 2).trans h.c2,(hc 3).trans h.c3,(hc 4).trans h.c4,(hc 5).trans h.c5,fun j => (World.frozen?_of_block (w := w) (a := ⟨k.b,j,none⟩) hb).trans (h.fz j)⟩
theorem CutAt.below {w w' : World} {k : CutV} (h : CutAt w k) (hb : Below w.heap.size w w') : CutAt w' k := h.keep (hb.block _ h.lt)
end Go.Proofs.YtlcdgmjinhbncaaGreat
namespace Go.Proofs.YtlcdgmjinhbncaaGreat
open Go.RowKit Go.Maps Go.Shelf
set_option linter.unusedVariables false
theorem xj0 : ∀ {l : List CutV} {a b : CutV},(l.map (·.s.1)).Nodup -> a ∈ l -> b ∈ l -> a.s.1 = b.s.1 -> a = b
 | [],_,_,_,h,_,_ => by cases h
 | x :: l,a,b,hd,ha,hb,e => by
  rw [List.map_cons,List.nodup_cons] at hd
  rcases List.mem_cons.1 ha with ea | ha2
  ·rcases List.mem_cons.1 hb with eb | hb2
   ·rw [ea,eb]
   ·exact absurd (show x.s.1 ∈ l.map (·.s.1) from List.mem_map.2 ⟨b,hb2,by rw [<- e,ea]⟩) hd.1
  ·rcases List.mem_cons.1 hb with eb | hb2
   ·exact absurd (show x.s.1 ∈ l.map (·.s.1) from List.mem_map.2 ⟨a,ha2,by rw [e,eb]⟩) hd.1
   ·exact xj0 hd.2 ha2 hb2 e
structure CameP (l : List CutV) (left : Lit -> Bool) (ss : List CutV) : Prop where
 nodup : (ss.map (·.s.1)).Nodup
 mem : ∀ s,s ∈ ss ↔ s ∈ l /\ left (.int .i64 s.s.1) = false
def AllP (l ss : List CutV) : Prop := (ss.map (·.s.1)).Nodup /\ ∀ s,s ∈ ss ↔ s ∈ l
theorem CameP.start {D : DataW Unit} {l : List CutV} (h : PIs D l) : CameP l (Maps.has D) [] := by
 refine ⟨List.nodup_nil,fun s => ⟨fun hs => (by cases hs),fun ⟨hs,hn⟩ => ?_⟩⟩
 rw [h.has,(PIs.any_iff s.s.1).2 ⟨s,hs,rfl⟩] at hn
 cases hn
theorem CameP.step {D : DataW Unit} {l ss : List CutV} {left : Lit -> Bool} (h : CameP l left ss) (hm : PIs D l) (hd : (l.map (·.s.1)).Nodup) {x : Int} {o : Option Nat} (hx : left (.int .i64 x) = true) (hat : ∀ zd,D.atKey (.int .i64 x) zd = encP o) :
  ∃ t,o = some t.b /\ CameP l (fun z => left z && !z.sameKey (.int .i64 x)) (ss ++ [t]) /\ x = t.s.1 /\ t ∈ l := by
 have hhas := Maps.has_true_of_atKey hat
 rw [hm.has] at hhas
 obtain ⟨t,ht,rfl⟩ := (PIs.any_iff x).1 hhas
 have e := (hm.at_ t ht (encP none)).symm.trans (hat _)
 obtain rfl := yqj e
 refine ⟨t,rfl,⟨?_,fun s => ?_⟩,rfl,ht⟩
 ·rw [List.map_append]
  refine List.nodup_append.2 ⟨h.nodup,by simp,fun a ha b hb e => ?_⟩
  obtain rfl : b = t.s.1 := by simpa using hb
  subst e
  obtain ⟨s,hs,e2⟩ := List.mem_map.1 ha
  have := ((h.mem s).1 hs).2
  rw [e2,hx] at this;cases this
 ·rw [List.mem_append,h.mem,List.mem_singleton]
  by_cases c : s.s.1 = t.s.1
  ·constructor
   ·rintro (⟨h1,h2⟩ | rfl)
    ·exact ⟨h1,by rw [h2];rfl⟩
    ·exact ⟨ht,by rw [WideAt.sameKey_self (show WideAt.IsKeyLit (.int .i64 s.s.1) by trivial)];simp⟩
   ·rintro ⟨h1,_⟩
    exact Or.inr (xj0 hd h1 ht c)
  ·have hk : Lit.sameKey (.int .i64 s.s.1) (.int .i64 t.s.1) = false := Maps.sameKey_ne (xkp c)
   constructor
   ·rintro (⟨h1,h2⟩ | rfl)
    ·exact ⟨h1,by rw [h2];rfl⟩
    ·exact absurd rfl c
   ·rintro ⟨h1,h2⟩
    rw [hk] at h2
    exact Or.inl ⟨h1,by simpa using h2⟩
theorem CameP.end_ {l ss : List CutV} {left : Lit -> Bool} (h : CameP l left ss) (hl : ∀ k,left k = false) : AllP l ss := ⟨h.nodup,fun s => by rw [h.mem,hl];simp⟩
abbrev encK (k : CutV) : Array Value := #[.pointer (some ⟨k.b,0,none⟩)]
set_option maxRecDepth 100000 in
set_option maxHeartbeats 1000000 in
theorem xW6 (F : Fence) (n : Nat) (h8 : F.fn 215) (hro : F.round = none) (hn : 1 <= n) (l0 Bm b nn : Nat) (D0 : DataW Unit) (l : List CutV) (hmis : PIs D0 l) (hd : (l.map (·.s.1)).Nodup) (J Jx : List CutV -> World -> Prop)
  (hY : ∀ pre x W,J pre W -> pre.length < Maps.size D0 -> YieldAt F (n - 1) Tryz.prog l0 (encK x) W fun e W' =>
   (e = .returned (.bool true) /\ J (pre ++ [x]) W' /\ KeepsWalks W W') \/ (e = .returned (.bool false) /\ Jx (pre ++ [x]) W'))
  (W : World) (hJ : AbidesFrom W.heap.size J) (hm : W.cell? ⟨Bm,0,none⟩ = some (.map (some b))) (hown : W.ownsMap Tryz.prog 3 ptrR b nn D0) (h0 : J [] W) :
  CallsIn F n Tryz.prog 215 #[.func (.yield l0) #[] #[],.pointer (some ⟨Bm,0,none⟩)] W fun e W' => (∃ v,e = .returned v) /\
   ((∃ ss,AllP l ss /\ J ss W') \/ (∃ pre,True /\ Jx pre W')) := by
 refine callsIn_of_wp Tryz.func215 rfl h8 ?_ hro
 simp only [Tryz.ntmps215,List.size_toArray,List.length_cons,List.length_nil,Nat.reduceAdd,Nat.reduceSub,Array.replicate_succ,Array.replicate_zero,List.push_toArray,List.append_toArray,List.nil_append,List.cons_append]
 gi_wp2_with (first
  | (gi_at_range;refine wpListIn_range_own _ rfl _ 143 rfl 3 135 keyed Tryz.underlying143 _ b nn _ rfl hown ?_;intro w0 hrg0 hg0 hs0)
  | gi_in)
 go_frame
 gi_loopw [4] (fun _ wr => ∃ (left : Lit -> Bool) (cnt : Nat) (ss : List CutV),wr.ranges Tryz.prog 3 ptrR b W.heap.size nn D0 left cnt /\ ss.length + cnt <= Maps.size D0 /\ CameP l left ss /\ J ss wr)
  (fun _ wr => wr.rangeLeft b W.heap.size)
 case atStart =>
  exact ⟨_,_,[],hrg0,by simp,CameP.start hmis,hJ [] W w0 none h0 hg0 (fun r e => by cases e)⟩
 case round =>
  obtain ⟨left,cnt,ss,hrg,hcs,hC,hJs⟩ := hrel
  gi_wp2_with (first
   | (gi_at_next;refine wpListIn_next_ranges _ rfl _ rfl 3 keyed ptrR (Value.int .i64) ptrv (fun key kl hk => by obtain ⟨x,hx,_⟩ := Maps.keyOf_int_inv Tryz.underlying3 hk;exact ⟨x,hx⟩) (fun v y hv => by obtain ⟨s,hs,_⟩ := yqk hv;exact ⟨s,hs⟩) b W.heap.size nn _ _ _ rfl hrg ?_ ?_)
   | gi_in)
  ·intro hc0 hl0
   gi_wp2
   go_end0
   exact ⟨⟨_,rfl⟩,.inl ⟨ss,hC.end_ hl0,hJs⟩⟩
  ·intro x o kl yd yp w2 cnt2 hkey hlk hv hat hrg2 hlt hg2 hs2 hen
   obtain ⟨x',ex,rfl,hwx⟩ := Maps.keyOf_int_inv Tryz.underlying3 hkey
   cases ex
   rw [xW5] at hv
   obtain ⟨rfl,rfl⟩ := Prod.mk.inj (Option.some.inj hv)
   have hJ2 : J ss w2 := hJ ss wr w2 (some W.heap.size) hJs hg2 (fun r e => by cases e;exact ⟨Nat.le_refl _,hrg.iter_walk⟩)
   obtain ⟨t,rfl,hC2,_,_⟩ := hC.step hmis hd hlk hat
   obtain ⟨fn,tmps,assign,body,hy,hR⟩ := hY ss t _ hJ2 (by omega)
   dsimp only [encK] at hy
   simp only [ptrv,Option.map_some] at hen ⊢
   clear hs2
   gi_wp2
   refine hR.mono ?_
   rintro e W3 (⟨rfl,hJ3,hk3⟩ | ⟨rfl,hJx3⟩)
   ·gi_wp2
    have hrg3 := hrg2.of_walks hk3
    go_roundw
    case rel => exact ⟨_,cnt2,ss ++ [t],hrg3,by simp;omega,hC2,hJ3⟩
    case measure => rw [hrg3.left_eq,hrg.left_eq];exact hlt
   ·gi_wp2
    refine bodyPost_ret (results_none rfl _ _ _) rfl ?_
    exact ⟨⟨_,rfl⟩,.inr ⟨ss ++ [t],trivial,hJx3⟩⟩
theorem xZu (F : Fence) (n : Nat) (h8 : F.fn 215) (hro : F.round = none) (hn : 1 <= n) (Bm b nn : Nat) (D0 : DataW Unit) (l : List CutV) (hmis : PIs D0 l) (hd : (l.map (·.s.1)).Nodup) (w : World) (hBm : Bm < w.heap.size)
  (hm : w.cell? ⟨Bm,0,none⟩ = some (.map (some b))) (hown : w.ownsMap Tryz.prog 3 ptrR b nn D0) :
  SeqStopsK F n Tryz.prog 215 #[.pointer (some ⟨Bm,0,none⟩)] encK KeepsWalks (AllP l) (fun _ => True) (Maps.size D0) w := fun l0 J Jx W hW hJ _ hY h0 =>
 xW6 F n h8 hro hn l0 Bm b nn D0 l hmis hd J Jx hY W hJ ((hW.cell (p := ⟨Bm,0,none⟩) hBm).trans hm) (xq2 hown (hW.block b hown.lt)) h0
attribute [local go_sem] Oper.semAt_some
def pcell (k : CutV) : List Value := [.pointer (some ⟨k.b,0,none⟩)]
theorem yk9 (y : CutV) : ∀ u ∈ pcell y,u.oneCell' = true := fun u hu => by
 simp only [pcell,List.mem_cons,List.not_mem_nil,or_false] at hu
 subst hu;rfl
theorem yql : (Tryz.prog.info? 135).map (fun i => (i.zero,i.size,i.bytes)) = some (some (.pointer none),1,8) := by kernel_rfl
def ApIP (w : World) (pre : List CutV) (W : World) : Prop :=
 (∃ v,Boxed W w.heap.size 133 v /\ W.ownsRow w.heap.size 135 1 v pre.length (cellsAll pcell pre) /\ True) /\ Below w.heap.size w W
def ApAxP (f : CutV -> Act) (x : CutV) (a : Act) (_ : World) : Prop := a = f x
set_option maxRecDepth 100000 in
set_option maxHeartbeats 2000000 in
theorem xZv (F : Fence) (n : Nat) (h11 : F.fn 262) (hro : F.round = none) (hn : 3 <= n) (g : Nat) (lb : Array Value) (hFg : F.fn g) (eg : ∀ args w,(callFunc g args).run Tryz.prog w = .ok (.enter g args) w)
  (S : List CutV -> Prop) (N : Nat) (hN : N <= 1000000000) (w : World) (hseq : SeqStopsK F (n - 1) Tryz.prog g lb encK KeepsWalks S (fun _ => True) N w) :
  CallsIn F n Tryz.prog 262 #[.slice none 0 0,.func (.func g) #[] lb] w fun e w' => ∃ (v : Value) (ss : List CutV),e = .returned v /\ S ss /\ w'.ownsRow w.heap.size 135 1 v ss.length (cellsAll pcell ss) /\ Below w.heap.size w w' := by
 have h1 : 1 <= n := by omega
 obtain ⟨i0,hi,hz0,hz1,hz2⟩ := info_parts yql
 refine callsIn_of_wp_marks Tryz.func262 rfl h11 ?_ hro
 simp only [Tryz.ntmps262,List.size_toArray,List.length_cons,List.length_nil,Nat.reduceAdd,Nat.reduceSub,Array.replicate_succ,Array.replicate_zero,List.push_toArray,List.append_toArray,List.nil_append,List.cons_append]
 gi_wp2
 have hb0 : Below w.heap.size w (w.alloc (.cells #[.slice none 0 0] 133)) := (Below.refl _ _).alloc (Nat.le_refl _) _
 refine wpIn_rangeFunc_ownH hro h1 (gf := g) (lb := lb) rfl hFg eg hseq walksK_t walksK_b hb0 (fun _ => rfl) (ApIP w) (fun _ _ _ => False)
  (OwnFrom.and (Own.from (holdsRow_own w.heap.size w.heap.size 133 135 1 (fun pre => pre.length) (fun pre => cellsAll pcell pre) (fun _ _ => True)) _) (ownFrom_below (Nat.le_refl _) (by simp)))
  (fun _ _ _ _ _ hs _ _ => hs)
  ⟨⟨_,Boxed.new w _ _,World.ownsRow_nil _ _ _ _,trivial⟩,hb0⟩
  (ApAxP (fun x => { tmps := #[.slice none 0 0,.func (.func g) #[] lb,.pointer (some ⟨w.heap.size,0,none⟩),undef,.slice none 0 0,.pointer (some ⟨x.b,0,none⟩),.func (.func g) #[] lb,.pointer (some ⟨x.b,0,none⟩),undef,undef,undef,undef,undef],defers := [] }))
  (fun x a' => fun _ X Y row h hg hr => h) ?assign ?body ?done ?stop
 case assign =>
  rintro l pre x W K ⟨⟨v,hv,hrow,_⟩,hB⟩ hK
  have hlt := hv.lt
  gi_wp2
  exact hK _ _ ((KeepsOthers.refl _).from _) (KeepsWalks.refl _) ⟨⟨v,hv,hrow,trivial⟩,hB⟩ rfl
 case body =>
  rintro l pre x a' W hl ⟨r,hr⟩ ⟨⟨v,hv,hrow,_⟩,hB⟩ rfl hlen
  have hc := hv.cell
  have hsz := hB.size
  gi_wp2_with (first
   | (gi_at_builtin;refine wpListIn_append_own _ rfl _ _ 133 rfl w.heap.size 135 i0 (.pointer none) 1 8 Tryz.underlying133 hi hz0 hz1 hz2 rfl (by decide) _ _ _ rfl (hrow.alloc _) ⟨W.heap.size,0,none⟩ 1 1 (pcell x) rfl rfl (xxz W (pcell x) _ _ rfl) (yk9 _) (by unfold maxLen;omega) (by omega) (by simp;omega) ?_;intro v' w1 hown' hgrow _;obtain ⟨g',cap',rfl⟩ := ownsRow_succ hown';obtain ⟨hv1,hv2,hr2,hk2,hb2⟩ := hv.appended (by decide) hrow hsz (Nat.le_refl _) hown' hgrow;have hc1 := hv1.cell;have hf1 := hv1.frozen)
   | gi_in)
  refine ⟨hk2.from _,hk2.walks,⟨⟨_,hv2,?_,trivial⟩,hB.trans hb2⟩⟩
  rw [List.length_append,xq7,xx6]
  exact hr2
 case done =>
  rintro D ys W hD hS ⟨⟨v,hv,hrow,_⟩,hB⟩ hK
  have hc := hv.cell
  gi_wp2
  refine ⟨by simp,.inl ⟨_,_,rfl,run_takeDeferred hK,?_⟩⟩
  refine ⟨_,results_tmp rfl _ _ _,v,ys,rfl,hS,ownsRow_putObj hrow _ hK rfl,hB.trans (belowK_b (w := w) (Nat.le_refl _) W D _ _ (by simp at hD;omega) hK rfl rfl)⟩
 case stop =>
  rintro D c pre W _ _ h _
  exact h.elim
set_option maxHeartbeats 1000000 in
theorem xW7 (F : Fence) (n : Nat) (h8 : F.fn 213) (h11 : F.fn 262) (hro : F.round = none) (hn : 4 <= n) (g : Nat) (lb : Array Value) (hFg : F.fn g) (eg : ∀ args w,(callFunc g args).run Tryz.prog w = .ok (.enter g args) w)
  (S : List CutV -> Prop) (N : Nat) (hN : N <= 1000000000) (w : World) (hseq : SeqStopsK F (n - 1 - 1) Tryz.prog g lb encK KeepsWalks S (fun _ => True) N w) :
  CallsIn F n Tryz.prog 213 #[.func (.func g) #[] lb] w fun e w' => ∃ (v : Value) (ss : List CutV),e = .returned v /\ S ss /\ w'.ownsRow w.heap.size 135 1 v ss.length (cellsAll pcell ss) /\ Below w.heap.size w w' := by
 have h1 : 1 <= n := by omega
 refine callsIn_of_wp Tryz.func213 rfl h8 ?_ hro
 simp only [Tryz.ntmps213,List.size_toArray,List.length_cons,List.length_nil,Nat.reduceAdd,Nat.reduceSub,Array.replicate_succ,Array.replicate_zero,List.push_toArray,List.append_toArray,List.nil_append,List.cons_append]
 gi_wp2_with (gi_at_call 262;refine (xZv F (n - 1) h11 hro (by omega) g lb hFg eg S N hN _ hseq).mono ?_;rintro e w' ⟨v,ss,rfl,hS,hrow,hb⟩)
 go_ret
 exact ⟨v,ss,rfl,hS,hrow,hb⟩
theorem xZw (Bm b nn : Nat) (D0 : DataW Unit) (l : List CutV) (hmis : PIs D0 l) (hd : (l.map (·.s.1)).Nodup) (hnn : nn <= 1000000000) (w : World)
  (hm : w.cell? ⟨Bm,0,none⟩ = some (.map (some b))) (hown : w.ownsMap Tryz.prog 3 ptrR b nn D0) :
  Calls Tryz.prog 213 #[.func (.func 215) #[] #[.pointer (some ⟨Bm,0,none⟩)]] w fun e w' => ∃ A c ss,e = .returned (.slice A (List.length ss) c) /\ AllP l ss /\ w'.ownsRow w.heap.size 135 1 (.slice A ss.length c) ss.length (cellsAll pcell ss) /\ Below w.heap.size w w' := by
 have hsz := hown.size_le
 refine ((callsIn_wide (n := 6)).1 (xW7 Fence.wide 6 trivial trivial rfl (by omega) _ _ trivial (enters_of Tryz.func215 (by kernel_rfl) rfl) (AllP l) (Maps.size D0) (by omega) w
  (xZu Fence.wide _ trivial rfl (by omega) Bm b nn D0 l hmis hd w (xq0 hm) hm hown))).mono ?_
 rintro e w' ⟨v,ss,rfl,hS,hrow,hb⟩
 rcases hrow.2 with ⟨rfl,h0⟩ | ⟨g,cap,cur,rfl,rest⟩
 ·exact ⟨none,0,ss,by rw [h0],hS,by rw [h0] at hrow ⊢;exact hrow,hb⟩
 ·exact ⟨_,_,ss,rfl,hS,hrow,hb⟩
end Go.Proofs.YtlcdgmjinhbncaaGreat
namespace Go.Proofs
open Go.Shelf
set_option linter.unusedVariables false
def Tryz.sortCuts_ren : Go.Shelf.Ren := ⟨fun | 6 => 214 | 15 => 167 | 14 => 263 | 28 => 229 | 29 => 230 | 20 => 295 | 21 => 296 | 22 => 297 | 23 => 298 | 24 => 299 | 25 => 300 | 26 => 301 | 27 => 302 | 46 => 316 | 47 => 274 | 48 => 275 | 49 => 317 | 50 => 318 | 57 => 324 | n => n,fun | 22 => 133 | 24 => 135 | 25 => 225 | 3 => 3 | 39 => 241 | 0 => 0 | 53 => 296 | 55 => 273 | 4 => 4 | 46 => 289 | 45 => 288 | 50 => 293 | 5 => 5 | 9 => 9 | 66 => 324 | 70 => 328 | 76 => 347 | 77 => 348 | n => n,fun | n => n⟩
theorem Tryz.sortCuts : Go.Proofs.SlLaysF.n6 Tryz.prog Tryz.sortCuts_ren := {
 mixed := by kernel_rfl
 f6 := ⟨Tryz.f214.name,by decide,Tryz.func214.trans (congrArg some (by kernel_rfl))⟩
 f14 := ⟨Tryz.f263.name,by decide,Tryz.func263.trans (congrArg some (by kernel_rfl))⟩
 f15 := Tryz.func167.trans (congrArg some (by kernel_rfl))
 f20 := ⟨Tryz.f295.name,by decide,Tryz.func295.trans (congrArg some (by kernel_rfl))⟩
 f21 := ⟨Tryz.f296.name,by decide,Tryz.func296.trans (congrArg some (by kernel_rfl))⟩
 f22 := ⟨Tryz.f297.name,by decide,Tryz.func297.trans (congrArg some (by kernel_rfl))⟩
 f23 := ⟨Tryz.f298.name,by decide,Tryz.func298.trans (congrArg some (by kernel_rfl))⟩
 f24 := ⟨Tryz.f299.name,by decide,Tryz.func299.trans (congrArg some (by kernel_rfl))⟩
 f25 := ⟨Tryz.f300.name,by decide,Tryz.func300.trans (congrArg some (by kernel_rfl))⟩
 f26 := ⟨Tryz.f301.name,by decide,Tryz.func301.trans (congrArg some (by kernel_rfl))⟩
 f27 := ⟨Tryz.f302.name,by decide,Tryz.func302.trans (congrArg some (by kernel_rfl))⟩
 f28 := Tryz.func229.trans (congrArg some (by kernel_rfl))
 f29 := Tryz.func230.trans (congrArg some (by kernel_rfl))
 f46 := ⟨Tryz.f316.name,by decide,Tryz.func316.trans (congrArg some (by kernel_rfl))⟩
 f47 := Tryz.func274.trans (congrArg some (by kernel_rfl))
 f48 := Tryz.func275.trans (congrArg some (by kernel_rfl))
 f49 := ⟨Tryz.f317.name,by decide,Tryz.func317.trans (congrArg some (by kernel_rfl))⟩
 f50 := ⟨Tryz.f318.name,by decide,Tryz.func318.trans (congrArg some (by kernel_rfl))⟩
 f57 := ⟨Tryz.f324.name,by decide,Tryz.func324.trans (congrArg some (by kernel_rfl))⟩
 t0 := Tryz.underlying0
 a0 := Tryz.isAgg0
 z0 := Tryz.sizeOf0
 v0 := Tryz.zeroValue0
 t3 := Tryz.underlying3
 a3 := Tryz.isAgg3
 z3 := Tryz.sizeOf3
 v3 := Tryz.zeroValue3
 t4 := Tryz.underlying4
 a4 := Tryz.isAgg4
 z4 := Tryz.sizeOf4
 v4 := Tryz.zeroValue4
 t5 := Tryz.underlying5
 a5 := Tryz.isAgg5
 z5 := Tryz.sizeOf5
 v5 := Tryz.zeroValue5
 t9 := Tryz.underlying9
 a9 := Tryz.isAgg9
 z9 := Tryz.sizeOf9
 v9 := Tryz.zeroValue9
 t22 := Tryz.underlying133
 a22 := Tryz.isAgg133
 z22 := Tryz.sizeOf133
 v22 := Tryz.zeroValue133
 a24 := Tryz.isAgg135
 z24 := Tryz.sizeOf135
 t25 := Tryz.underlying225
 a25 := Tryz.isAgg225
 z25 := Tryz.sizeOf225
 v25 := Tryz.zeroValue225
 t39 := Tryz.underlying241
 a39 := Tryz.isAgg241
 z39 := Tryz.sizeOf241
 v39 := Tryz.zeroValue241
 t45 := Tryz.underlying288
 a45 := Tryz.isAgg288
 z45 := Tryz.sizeOf288
 v45 := Tryz.zeroValue288
 t46 := Tryz.underlying289
 a46 := Tryz.isAgg289
 z46 := Tryz.sizeOf289
 v46 := Tryz.zeroValue289
 t50 := Tryz.underlying293
 a50 := Tryz.isAgg293
 z50 := Tryz.sizeOf293
 v50 := Tryz.zeroValue293
 t53 := Tryz.underlying296
 a53 := Tryz.isAgg296
 z53 := Tryz.sizeOf296
 v53 := Tryz.zeroValue296
 t55 := Tryz.underlying273
 a55 := Tryz.isAgg273
 z55 := Tryz.sizeOf273
 v55 := Tryz.zeroValue273
 t66 := Tryz.underlying324
 a66 := Tryz.isAgg324
 z66 := Tryz.sizeOf324
 v66 := Tryz.zeroValue324
 t70 := Tryz.underlying328
 a70 := Tryz.isAgg328
 z70 := Tryz.sizeOf328
 v70 := Tryz.zeroValue328
 t76 := Tryz.underlying347
 a76 := Tryz.isAgg347
 z76 := Tryz.sizeOf347
 v76 := Tryz.zeroValue347
 t77 := Tryz.underlying348
 a77 := Tryz.isAgg348
 z77 := Tryz.sizeOf348
 v77 := Tryz.zeroValue348 }
end Go.Proofs
namespace Go.Proofs.YtlcdgmjinhbncaaGreat
open Go.RowKit Go.Shelf Go.Lib Go.Sort Go.Maps
set_option linter.unusedVariables false
attribute [local go_sem] Oper.semAt_some
theorem xW8 {E : Type} [Inhabited E] (f : E -> Value) {w : World} {g : Nat} {e : TypeId} {L : List Value} (h : Rw w g e L) (m : Nat) (d : Array E) (os : Array Obj) (hd : d.size <= L.length) :
  Rw (sortWorld f w g 0 m d os) g e (d.toList.map f ++ L.drop d.size) /\ w.grownBy (sortWorld f w g 0 m d os) (some g) := by
 have hlt := h.lt
 unfold Rw at h
 unfold sortWorld putRow
 have hsz : (mapBlock (Sort.ahead w m) g (putCells f 0 d)).heap.size = w.heap.size := by simp [mapBlock,Sort.ahead]
 constructor
 ·unfold Rw
  rw [heap_grow_old _ _ (by rw [hsz];exact hlt)]
  show ((w.heap.modify g (onCells (putCells f 0 d))))[g]? = _
  rw [Array.getElem?_modify,if_pos rfl,h]
  show some (Obj.cells _ e (0,0)) = _
  congr 2
  unfold putCells
  apply Array.ext_getElem?
  intro k
  rw [Array.getElem?_mapIdx]
  by_cases hk : k < d.size
  ·have hkL : k < L.length := by omega
   have hkd : k < d.toList.length := by simpa using hk
   rw [List.getElem?_toArray,List.getElem?_toArray,List.getElem?_append_left (by simpa using hk),List.getElem?_eq_getElem hkL,List.getElem?_map,List.getElem?_eq_getElem hkd]
   simp only [Option.map_some,Nat.sub_zero]
   rw [if_pos (by simp;omega),getElem!_pos d _ hk,Array.getElem_toList]
  ·rw [List.getElem?_toArray,List.getElem?_toArray,List.getElem?_append_right (by rw [List.length_map,Array.length_toList];omega),List.getElem?_drop,List.length_map,Array.length_toList,show d.size + (k - d.size) = k by omega]
   cases L[k]? with
   | none => rfl
   | some u =>
    simp only [Option.map_some]
    rw [if_neg (by simp;omega)]
 ·refine ⟨rfl,rfl,rfl,?_,fun k hk hr => ?_⟩
  ·have : (grow (mapBlock (Sort.ahead w m) g (putCells f 0 d)) os).heap.size = w.heap.size + os.size := by simp [grow,hsz]
   omega
  ·rw [heap_grow_old _ _ (by rw [hsz];exact hk)]
   show ((w.heap.modify g (onCells (putCells f 0 d))))[k]? = _
   rw [Array.getElem?_modify,if_neg (fun e => hr (by rw [e]))]
theorem xKh {E : Type} [Inhabited E] (f : E -> Value) {w : World} {g : Nat} {e : TypeId} {L : List Value} (h : Rw w g e L) (d : Array E) (hd : L.take d.size = d.toList.map f) : Holds f w g 0 d := by
 intro j hj
 have hl : j < L.length := by
  have h1 : (L.take d.size).length = d.size := by rw [hd];simp
  have h2 := List.length_take_le' d.size L
  omega
 refine ⟨?_,h.free _⟩
 rw [Nat.zero_add,h.cell]
 have h2 : (L.take d.size)[j]? = L[j]? := by rw [List.getElem?_take,if_pos hj]
 rw [<- h2,hd,List.getElem?_map,getElem!_pos d j hj]
 simp [hj]
set_option maxHeartbeats 1000000 in
theorem yka (xb yb : Nat) (xs ys : Int) (W : World) (h0 : W.cell? ⟨xb,1,none⟩ = some (.int .i64 xs)) (h1 : W.cell? ⟨yb,1,none⟩ = some (.int .i64 ys)) :
  Calls Tryz.prog 151 #[.pointer (some ⟨xb,0,none⟩),.pointer (some ⟨yb,0,none⟩)] W fun e w' => e = .returned (.int .i64 (Lib.compareInt xs ys)) /\ ∃ q,w' = W.drewN q := by
 have hcon : ∀ q,Calls Tryz.prog 89 #[.int .i64 xs,.int .i64 ys] (W.drewN q) fun e w' => e = .returned (.int .i64 (Lib.compareInt xs ys)) /\ ∃ m,w' = W.drewN m := fun q => (AnyG.cmp_Compare_int Tryz.cmpInt xs ys (W.drewN q)).mono fun e w' h => ⟨h.1,q,h.2⟩
 generalize Lib.compareInt xs ys = r at hcon ⊢
 go_enter Tryz.func151,Tryz.ntmps151
 go_wp2
 go_quiet (first | (go_at_call 89;(with_reducible exact hcon _)))
 go_wp2
 go_ret
 exact ⟨rfl,_,rfl⟩
theorem xxs (x y : Int) : ltOf Lib.compareInt x y = decide (x < y) := by
 unfold ltOf Lib.compareInt
 by_cases h1 : x < y
 ·simp [h1]
 ·by_cases h2 : y < x <;> simp [h1,h2]
theorem yz2 {E : Type} (f : E -> Int) : SWO (ltOf fun x y : E => Lib.compareInt (f x) (f y)) where
 irrefl x := by have := xxs (f x) (f x);unfold ltOf at *;rw [this];simp
 trans x y z h1 h2 := by have a := xxs (f x) (f y);have b := xxs (f y) (f z);have c := xxs (f x) (f z);unfold ltOf at *;rw [a] at h1;rw [b] at h2;rw [c];simp at *;omega
 ntrans x y z h1 h2 := by have a := xxs (f x) (f y);have b := xxs (f y) (f z);have c := xxs (f x) (f z);unfold ltOf at *;rw [a] at h1;rw [b] at h2;rw [c];simp at *;omega
def SortedP (w : World) (base : Nat) (A : Option Addr) (n c : Nat) (rs : List CutV) (e : Ending) (w' : World) : Prop :=
 e = .returned (.tuple #[]) /\ ∃ ds : List CutV,ds.Perm rs /\ (ds.Pairwise fun a b => a.s.2.1 <= b.s.2.1) /\ w'.ownsRow base 135 1 (.slice A n c) n (cellsAll pcell ds) /\ w.grownBy w' (Value.slice A n c).ownBlock
theorem xxw (ds : List CutV) : cellsAll pcell ds = ds.map fun k => Value.pointer (some ⟨k.b,0,none⟩) := by
 induction ds with
 | nil => rfl
 | cons k ds ih => show pcell k ++ cellsAll pcell ds = _;rw [ih];rfl
theorem yz3 (A : Option Addr) (n c : Nat) (rs : List CutV) (w : World) (base : Nat) (hown : w.ownsRow base 135 1 (.slice A n c) n (cellsAll pcell rs)) (hl : rs.length = n) (h0 : ¬ n = 0) (hn : n <= 4611686018427387903)
  (hc : ∀ k ∈ rs,CutAt w k /\ k.b < base) :
  Calls Tryz.prog 214 #[.slice A n c,.func (.func 151) #[] #[]] w (SortedP w base A n c rs) := by
 obtain ⟨g,rfl⟩ : ∃ g,A = some ⟨g,0,none⟩ := by
  rcases hown.2 with ⟨_,h⟩ | ⟨g,cap,cur,h,_⟩
  ·exact absurd h h0
  ·injection h with e1;exact ⟨g,e1⟩
 obtain ⟨L,hL,hbg,hnc,hcm,hLl,hxs⟩ := xqj hown
 rw [Nat.mul_one] at hLl hxs
 have eg : ∀ args w,(callFunc 151 args).run Tryz.prog w = .ok (.enter 151 args) w := enters_of Tryz.func151 (by kernel_rfl) rfl
 have hne : rs ≠ [] := fun e => h0 (by rw [<- hl,e];rfl)
 obtain ⟨k0,hk0⟩ := List.exists_mem_of_ne_nil rs hne
 let E := { k : CutV // k ∈ rs }
 haveI : Inhabited E := ⟨⟨k0,hk0⟩⟩
 let enc : E -> Value := fun k => .pointer (some ⟨k.1.b,0,none⟩)
 let d : Array E := rs.attach.toArray
 have hd : d.size = n := by show rs.attach.toArray.size = n;simpa using hl
 have hmap : ∀ l : List E,l.map enc = cellsAll pcell (l.map (·.1)) := fun l => by rw [xxw,List.map_map];rfl
 have hdl : d.toList.map (·.1) = rs := by show (rs.attach.toArray.toList).map (·.1) = rs;simp
 have hH : Holds enc w g 0 d := xKh enc hL d (by rw [hd,<- hxs,hmap,hdl])
 have hcmp : CmpLays1 Tryz.prog 151 #[] enc (fun x y => Lib.compareInt x.1.s.2.1 y.1.s.2.1) g 0 d.size w := fun m os dk hs x y => by
  have hg := (xW8 enc hL m dk os (by rw [hs,hd,hLl];exact hnc)).2
  have q : ∀ z : E,(sortWorld enc w g 0 m dk os).cell? ⟨z.1.b,1,none⟩ = some (.int .i64 z.1.s.2.1) := fun z => by
   obtain ⟨h1,h2⟩ := hc z.1 z.2
   exact (World.cell?_of_block (w := w) (a := ⟨z.1.b,1,none⟩) (hg.block _ h1.lt (fun e => by have e2 := Option.some.inj e;simp only at e2;omega))).trans h1.c1
  refine (yka x.1.b y.1.b _ _ _ (q x) (q y)).mono ?_
  rintro e w' ⟨h1,q,h2⟩
  exact ⟨h1,q,#[],by rw [h2,grow_empty]⟩
 have h := Any.slices_SortFunc Tryz.sortCuts enc (fun _ => rfl) (fun x y => Lib.compareInt x.1.s.2.1 y.1.s.2.1) (yz2 fun x : E => x.1.s.2.1) 151 #[] g 0 c d w eg hcmp hH hL.lt (by omega)
 rw [hd] at h
 change Calls Tryz.prog 214 _ _ _ at h
 refine h.mono ?_
 rintro e w' ⟨he,d',m,os,⟨hp1,_,hp3⟩,hs,rfl⟩
 have hdn : d'.size = n := by rw [hp1,hd]
 obtain ⟨r1,r2⟩ := xW8 enc hL m d' os (by rw [hdn,hLl];exact hnc)
 refine ⟨he,d'.toList.map (·.1),?_,?_,?_,r2⟩
 ·have e1 : d'.extract 0 n = d' := by rw [<- hdn];exact Array.extract_size
  have e2 : d.extract 0 n = d := by rw [<- hd];exact Array.extract_size
  rw [e1,e2] at hp3
  have := hp3.map (fun k : E => k.1)
  rw [hdl] at this
  exact this
 ·rw [List.pairwise_map,List.pairwise_iff_getElem]
  intro i j hi hj hij
  have hi' : i < d'.size := by simpa using hi
  have hj' : j < d'.size := by simpa using hj
  have := hs i j (Nat.zero_le _) hij (by omega)
  have lt := xxs (d'[j]).1.s.2.1 (d'[i]).1.s.2.1
  rw [getElem!_pos d' j hj',getElem!_pos d' i hi'] at this
  unfold ltOf at this lt
  rw [lt] at this
  have := of_decide_eq_false this
  simp only [Array.getElem_toList]
  omega
 ·have h2 := xq8 (base := base) (s := 1) (n := n) (c := c) r1 hbg hnc hcm (by simp [hLl,hdn];omega)
  rw [Nat.mul_one,List.take_left' (by simp [hdn]),hmap] at h2
  exact h2
set_option maxHeartbeats 2000000 in
theorem xW9 (p : Option Addr) (cap : Nat) (fv : Value) (w : World) :
  Calls Tryz.prog 295 #[.slice p 0 cap,.int .i64 0,.int .i64 0,fv] w fun e w' => e = .returned (.tuple #[]) /\ w' = w := by
 go_enter Tryz.func295,Tryz.ntmps295
 go_wp2
 refine wp_loop_rounds 1 ?_
 rw [rounds_succ]
 go_wp2
 go_end0
 exact ⟨rfl,rfl⟩
set_option maxHeartbeats 2000000 in
set_option maxRecDepth 100000 in
theorem ykb (p : Option Addr) (cap : Nat) (lim : Int) (fv : Value) (w : World) :
  Calls Tryz.prog 263 #[.slice p 0 cap,.int .i64 0,.int .i64 0,.int .i64 lim,fv] w fun e w' => e = .returned (.tuple #[]) /\ w' = w := by
 have hi := fun W => xW9 p cap fv W
 go_enter Tryz.func263,Tryz.ntmps263
 go_wp2
 refine wp_loop_rounds 1 ?_
 rw [rounds_succ]
 go_wp2_with (go_at_call 295;(with_reducible refine (hi _).mono ?_);rintro e w' ⟨rfl,rfl⟩)
 (try simp only [Exit.inBlock,Exit.then]);refine bodyPost_ret (results_none rfl _ _ _) rfl ?_
 exact ⟨rfl,rfl⟩
set_option maxHeartbeats 2000000 in
theorem yz4 (p : Option Addr) (cap : Nat) (fv : Value) (w : World) :
  Calls Tryz.prog 214 #[.slice p 0 cap,fv] w fun e w' => e = .returned (.tuple #[]) /\ w' = w := by
 have hp := fun lim W => ykb p cap lim fv W
 have hl : ∀ W,Calls Tryz.prog 167 #[.int .u64 0] W fun e w' => e = .returned (.int .i64 (Lib.bitLen 0 : Nat)) /\ w' = W := fun W => by
  have h := Any.bits_Len (SlLaysF0.n15.bits (P := Tryz.prog) { Tryz.sortSpans with }) 0 W (by omega) (by omega)
  exact h
 generalize (Lib.bitLen 0 : Nat) = bl at hl
 go_enter Tryz.func214,Tryz.ntmps214
 go_wp2_with (first
  | (go_at_call 167;(with_reducible refine (hl _).mono ?_);rintro e w' ⟨rfl,rfl⟩)
  | (go_at_call 263;(with_reducible refine (hp _ _).mono ?_);rintro e w' ⟨rfl,rfl⟩))
 go_end0
 exact ⟨rfl,rfl⟩
def OwnCuts (w : World) (l : List CutV) (e : Ending) (w' : World) : Prop :=
 ∃ A c,e = .returned (.slice A (List.length l) c) /\ w'.ownsRow w.heap.size 135 1 (.slice A l.length c) l.length (cellsAll pcell l) /\ Below w.heap.size w w'
def InOrderP (l ds : List CutV) : Prop := (ds.map (·.s.1)).Nodup /\ (∀ s,s ∈ ds ↔ s ∈ l) /\ ds.Pairwise fun a b => a.s.2.1 <= b.s.2.1
theorem xZx (l : List CutV) (hlen : ∀ ss,AllP l ss -> ss.length <= 1000000000) (B : Nat) (w : World) (hk : ∀ k ∈ l,CutAt w k) (hc : Calls Tryz.prog 213 #[.func (.func 215) #[] #[.pointer (some ⟨B,0,none⟩)]] w fun e w' => ∃ A c ss,e = .returned (.slice A (List.length ss) c) /\ AllP l ss /\ w'.ownsRow w.heap.size 135 1 (.slice A ss.length c) ss.length (cellsAll pcell ss) /\ Below w.heap.size w w') :
  Calls Tryz.prog 148 #[.func (.func 215) #[] #[.pointer (some ⟨B,0,none⟩)],.func (.func 151) #[] #[]] w fun e w' => ∃ ds,InOrderP l ds /\ OwnCuts w ds e w' := by
 have HS : Hid (∀ W A c (ss : List CutV) n,ss.length = n -> AllP l ss -> Below w.heap.size w W -> W.ownsRow w.heap.size 135 1 (.slice A n c) n (cellsAll pcell ss) -> ¬ n = 0 -> Calls Tryz.prog 214 #[.slice A n c,.func (.func 151) #[] #[]] W (SortedP W w.heap.size A n c ss)) := hidb (fun W A c ss n hn hS hb hrow h0 => by
  have := hlen ss hS
  exact yz3 A n c ss W w.heap.size hrow hn h0 (by omega) fun k h => by
   have := hk k ((hS.2 k).1 h)
   exact ⟨this.below hb,this.lt⟩)
 have HSn : Hid (∀ A c W,Calls Tryz.prog 214 #[.slice A 0 c,.func (.func 151) #[] #[]] W fun e w' => e = .returned (.tuple #[]) /\ W = w') := hidb (fun A c W => (yz4 A c _ W).mono fun e w' ⟨h1,h2⟩ => ⟨h1,h2.symm⟩)
 clear hlen hk
 go_enter Tryz.func148,Tryz.ntmps148
 go_wp2_with (first
  | (go_at_call 213;(with_reducible refine hc.mono ?_);rintro e w1 ⟨A,c,ss,rfl,hS,hrow,hb1⟩))
 obtain ⟨n,hn⟩ : ∃ n,ss.length = n := ⟨_,rfl⟩
 rw [hn] at hrow ⊢
 by_cases h0 : n = 0
 ·subst h0
  obtain rfl : ss = [] := List.eq_nil_of_length_eq_zero hn
  have hsn := HSn.out A c w1
  clear hn
  go_wp2_with (first
   | (go_at_call 214;(with_reducible refine hsn.mono ?_);rintro e w2 ⟨rfl,rfl⟩))
  go_ret
  exact ⟨[],⟨List.nodup_nil,hS.2,List.Pairwise.nil⟩,A,c,rfl,hrow,hb1⟩
 ·have cs := HS.out w1 A c ss n hn hS hb1 hrow h0
  have HN := hidb hn
  have HS2 := hidb hS
  have hne : ∀ b,(Value.slice A n c).ownBlock = some b -> w.heap.size <= b := fun b hb => (hrow.lt b hb).1
  have HNE := hidb hne
  clear hn hS h0 hrow hne
  unfold SortedP at cs
  go_wp2_with (first
   | (go_at_call 214;(with_reducible refine cs.mono ?_);rintro e w2 ⟨rfl,ds,hp,hr,hrow2,hg2⟩))
  have hl : ds.length = n := by rw [hp.length_eq];exact HN.out
  go_ret
  refine ⟨ds,⟨(hp.map _).nodup_iff.2 HS2.out.1,fun s => (hp.mem_iff).trans (HS2.out.2 s),hr⟩,A,c,(by rw [hl];rfl),(by rw [hl];exact hrow2),hb1.grown hg2 hb1.size (fun b hb => HNE.out b hb)⟩
theorem xKi (mb : Option Nat) (w : World) :
  Calls Tryz.prog 149 #[.map mb] w fun e w' => e = .returned (.func (.func 215) #[] #[.pointer (some ⟨w.heap.size,0,none⟩)]) /\ w' = w.alloc (.cells #[.map mb] 143) := by
 go_enter Tryz.func149,Tryz.ntmps149
 go_wp2
 go_ret
 exact ⟨rfl,rfl⟩
end Go.Proofs.YtlcdgmjinhbncaaGreat
