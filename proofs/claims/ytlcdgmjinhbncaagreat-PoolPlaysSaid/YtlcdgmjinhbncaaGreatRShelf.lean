import Derived.Test.YtlcdgmjinhbncaaGreatRRunsBase
import Derived.Test.YtlcdgmjinhbncaaGreatRNamedMap
import Derived.Test.YtlcdgmjinhbncaaGreatRIndexAll
import Derived.Test.YtlcdgmjinhbncaaGreatRPlain7
import Derived.Test.YtlcdgmjinhbncaaGreatRHeapRefA
import Derived.Maps.OwnSet
import Derived.Maps.RangeWalk
import Derived.Maps.OwnOps
import Derived.Maps.Ext
import Derived.Shelf.SlGeneric
import Derived.Ground.SlsfProg
import Derived.Shelf.SlSortCmp.WholeK
import Derived.Ground.SlgcProg
import Derived.Shelf.SlicesG.Cmp
import Derived.Ground.SlgfProg
import Derived.Shelf.SlicesQ.IndexFunc
import Derived.Test.YtlcdgmjinhbncaaGreatProg
namespace Go.Proofs.YtlcdgmjinhbncaaGreat
open Go.RowKit Go.Maps
set_option linter.unusedVariables false
def spv (s : Int × Int × Int × Int) : Value := .agg #[.int .i64 s.1,.int .i64 s.2.1,.int .i64 s.2.2.1,.int .i64 s.2.2.2]
theorem spv_inj {s t : Int × Int × Int × Int} (h : spv s = spv t) : s = t := by
 obtain ⟨a,b,c,d⟩ := s
 obtain ⟨a',b',c',d'⟩ := t
 simp only [spv,Value.agg.injEq] at h
 have h2 := congrArg Array.toList h
 simp only [List.cons.injEq,Value.int.injEq,true_and,and_true] at h2
 obtain ⟨rfl,rfl,rfl,rfl⟩ := h2
 rfl
def encS (s : Int × Int × Int × Int) : DataW Unit := .agg [.lit (.int .i64 s.1),.lit (.int .i64 s.2.1),.lit (.int .i64 s.2.2.1),.lit (.int .i64 s.2.2.2)]
theorem yqe {s t : Int × Int × Int × Int} (h : encS s = encS t) : s = t := by
 obtain ⟨a,b,c,d⟩ := s
 obtain ⟨a',b',c',d'⟩ := t
 simp only [encS,DataW.agg.injEq,List.cons.injEq,DataW.lit.injEq,Lit.int.injEq,true_and,and_true] at h
 obtain ⟨rfl,rfl,rfl,rfl⟩ := h
 rfl
open Classical in
noncomputable def spanR (v : Value) : Option (DataW Unit × List MemPlace) := if h : ∃ s,v = spv s then some (encS h.choose,[]) else none
theorem xw7 (s : Int × Int × Int × Int) : spanR (spv s) = some (encS s,[]) := by
 unfold spanR
 have h : ∃ t,spv s = spv t := ⟨s,rfl⟩
 rw [dif_pos h]
 rw [<- spv_inj h.choose_spec]
theorem xQ3 {v : Value} {z : DataW Unit × List MemPlace} (h : spanR v = some z) : ∃ s,v = spv s /\ z = (encS s,[]) := by
 unfold spanR at h
 split at h
 ·next hs => exact ⟨hs.choose,hs.choose_spec,by injection h with h;exact h.symm⟩
 ·cases h
theorem yjy (w : World) : (zeroValue 49).run Tryz.prog w = .ok (spv spanNone) w := by kernel_rfl
structure MIs (D : DataW Unit) (l : List (Int × Int × Int × Int)) : Prop where
 has : ∀ id,Maps.has D (.int .i64 id) = l.any (fun s => s.1 == id)
 at_ : ∀ s ∈ l,∀ z,D.atKey (.int .i64 s.1) z = encS s
theorem mis_nil : MIs (.map []) [] := ⟨fun _ => rfl,fun s hs => by cases hs⟩
theorem MIs.put {D : DataW Unit} {l : List (Int × Int × Int × Int)} (h : MIs D l) (hD : Maps.IsMap D) {s : Int × Int × Int × Int} (hs : ∀ t ∈ l,t.1 ≠ s.1) (hi : in64 s.1) : MIs (D.put (.int .i64 s.1) (encS s)) (l ++ [s]) := by
 have hk := keyed.key (xzp hi)
 refine ⟨fun id => ?_,fun t ht z => ?_⟩
 ·rw [List.any_append]
  by_cases c : id = s.1
  ·subst c
   rw [Maps.has_put_same hD hk]
   simp
  ·rw [Maps.has_put_other (xkp c),h.has]
   simp [Ne.symm c]
 ·rcases List.mem_append.1 ht with ht | ht
  ·rw [Maps.atKey_put_other (xkp (hs t ht)),h.at_ t ht]
  ·obtain rfl := List.mem_singleton.1 ht
   exact Maps.atKey_put_same hD hk _ _
theorem MIs.any_iff {l : List (Int × Int × Int × Int)} (id : Int) : (l.any (fun s => s.1 == id) = true) ↔ ∃ s ∈ l,s.1 = id := by
 rw [List.any_eq_true]
 simp
theorem MIs.get {D : DataW Unit} {l : List (Int × Int × Int × Int)} (h : MIs D l) (id : Int) : D.atKey (.int .i64 id) (encS spanNone) = encS (spanOf l id) := by
 by_cases c : ∃ s ∈ l,s.1 = id
 ·obtain ⟨h1,h2⟩ := xzm c
  have := h.at_ _ h1 (encS spanNone)
  rwa [h2] at this
 ·rw [xwt c]
  refine Maps.atKey_of_not_has ?_ _
  rw [h.has]
  cases e : l.any (fun s => s.1 == id) with
  | false => rfl
  | true => exact absurd ((MIs.any_iff id).1 e) c
theorem xzz (w : World) (b : Nat) (u0 u1 u2 u3 x0 x1 x2 x3 : Value) (h0 : w.cell? ⟨b,0,none⟩ = some x0) (h1 : w.cell? ⟨b,1,none⟩ = some x1) (h2 : w.cell? ⟨b,2,none⟩ = some x2) (h3 : w.cell? ⟨b,3,none⟩ = some x3) :
  ((((w.setCell ⟨b,0,none⟩ u0).setCell ⟨b,1,none⟩ u1).setCell ⟨b,2,none⟩ u2).setCell ⟨b,3,none⟩ u3).cell? ⟨b,0,none⟩ = some u0 /\ ((((w.setCell ⟨b,0,none⟩ u0).setCell ⟨b,1,none⟩ u1).setCell ⟨b,2,none⟩ u2).setCell ⟨b,3,none⟩ u3).cell? ⟨b,1,none⟩ = some u1 /\
  ((((w.setCell ⟨b,0,none⟩ u0).setCell ⟨b,1,none⟩ u1).setCell ⟨b,2,none⟩ u2).setCell ⟨b,3,none⟩ u3).cell? ⟨b,2,none⟩ = some u2 /\ ((((w.setCell ⟨b,0,none⟩ u0).setCell ⟨b,1,none⟩ u1).setCell ⟨b,2,none⟩ u2).setCell ⟨b,3,none⟩ u3).cell? ⟨b,3,none⟩ = some u3 := by
 have o : ∀ (w : World) (i j : Nat) (v : Value),i ≠ j -> (w.setCell ⟨b,i,none⟩ v).cell? ⟨b,j,none⟩ = w.cell? ⟨b,j,none⟩ := fun w i j v h => World.cell?_setCell_other w _ _ _ (fun e => h (by injection e))
 have s : ∀ (w : World) (i : Nat) (v x : Value),w.cell? ⟨b,i,none⟩ = some x -> (w.setCell ⟨b,i,none⟩ v).cell? ⟨b,i,none⟩ = some v := fun w i v x h => World.cell?_setCell_same w _ _ h
 refine ⟨?_,?_,?_,?_⟩
 ·rw [o _ 3 0 _ (by decide),o _ 2 0 _ (by decide),o _ 1 0 _ (by decide),s _ 0 _ x0 h0]
 ·rw [o _ 3 1 _ (by decide),o _ 2 1 _ (by decide),s _ 1 _ x1 (by rw [o _ 0 1 _ (by decide)];exact h1)]
 ·rw [o _ 3 2 _ (by decide),s _ 2 _ x2 (by rw [o _ 1 2 _ (by decide),o _ 0 2 _ (by decide)];exact h2)]
 ·rw [s _ 3 _ x3 (by rw [o _ 2 3 _ (by decide),o _ 1 3 _ (by decide),o _ 0 3 _ (by decide)];exact h3)]
theorem xQ4 {B : Nat} {w w' : World} (h : Below B w w') {b : Nat} (hb : B <= b) (u0 u1 u2 u3 : Value) : Below B w ((((w'.setCell ⟨b,0,none⟩ u0).setCell ⟨b,1,none⟩ u1).setCell ⟨b,2,none⟩ u2).setCell ⟨b,3,none⟩ u3) :=
 (((h.setCell (p := ⟨b,0,none⟩) hb u0).setCell (p := ⟨b,1,none⟩) hb u1).setCell (p := ⟨b,2,none⟩) hb u2).setCell (p := ⟨b,3,none⟩) hb u3
structure HpM (w : World) (p ip ig fp mb n m : Nat) (ids : List Int) (D : DataW Unit) (last : Int) : Prop where
 c0 : w.cell? ⟨p,0,none⟩ = some (.pointer (some ⟨ip,0,none⟩))
 c1 : w.cell? ⟨p,1,none⟩ = some (.pointer (some ⟨fp,0,none⟩))
 c2 : w.cell? ⟨p,2,none⟩ = some (.map (some mb))
 c3 : w.cell? ⟨p,3,none⟩ = some (.int .i64 last)
 fz : ∀ j,w.frozen? ⟨p,j,none⟩ = false
 ix : Ix w 0 ip ig n ids
 mp : w.ownsMap Tryz.prog 3 spanR mb m D
structure HpK (m : Nat) (ids : List Int) (D : DataW Unit) (h : HeapV) : Prop where
 mis : MIs D h.l
 pt : Paint ids h
 ok : HOk h
 la : (m : Int) <= h.last
 lb : h.last <= 1000000000
structure HpAt (w : World) (p ip ig fp mb n m : Nat) (ids : List Int) (D : DataW Unit) (h : HeapV) : Prop extends HpM w p ip ig fp mb n m ids D h.last,HpK m ids D h
def Hp (w : World) (S : Nat -> Prop) (p : Nat) (h : HeapV) : Prop :=
 ∃ ip ig fp mb n m ids D Sf,HpAt w p ip ig fp mb n m ids D h /\ Fr w Sf fp h.free /\ (S p /\ S ip /\ S ig /\ S mb) /\ (∀ b,Sf b -> S b) /\ (∀ b,S b -> b < w.heap.size) /\
  (¬ Sf p /\ ¬ Sf ip /\ ¬ Sf ig /\ ¬ Sf mb) /\ (p ≠ ip /\ p ≠ ig /\ p ≠ mb /\ mb ≠ ip /\ mb ≠ ig)
section
variable {w w' : World} {S S' : Nat -> Prop} {p ip ig fp mb n m : Nat} {ids : List Int} {D : DataW Unit} {h : HeapV}
theorem HpAt.nlen (k : HpAt w p ip ig fp mb n m ids D h) : (n : Int) = h.pages := by
 have h1 := k.ix.hlen
 have h2 := k.pt.len
 omega
theorem HpM.keep {last : Int} (k : HpM w p ip ig fp mb n m ids D last) (hb : ∀ b,b = p \/ b = ip \/ b = ig \/ b = mb -> w'.heap[b]? = w.heap[b]?) : HpM w' p ip ig fp mb n m ids D last := by
 have hp := hb p (Or.inl rfl)
 have hc : ∀ j,w'.cell? ⟨p,j,none⟩ = w.cell? ⟨p,j,none⟩ := fun j => World.cell?_of_block (w := w) (a := ⟨p,j,none⟩) hp
 refine ⟨(hc 0).trans k.c0,(hc 1).trans k.c1,(hc 2).trans k.c2,(hc 3).trans k.c3,fun j => (World.frozen?_of_block (w := w) (a := ⟨p,j,none⟩) hp).trans (k.fz j),?_,xq2 k.mp (hb mb (Or.inr (Or.inr (Or.inr rfl))))⟩
 exact ⟨(World.cell?_of_block (w := w) (a := ⟨ip,0,none⟩) (hb ip (Or.inr (Or.inl rfl)))).trans k.ix.cell,(hb ig (Or.inr (Or.inr (Or.inl rfl)))).trans k.ix.heap,k.ix.hlen,k.ix.ge,k.ix.geg,k.ix.ne,k.ix.small⟩
theorem HpM.lts {last : Int} (k : HpM w p ip ig fp mb n m ids D last) : p < w.heap.size /\ ip < w.heap.size /\ ig < w.heap.size /\ mb < w.heap.size := ⟨xq0 k.c0,k.ix.ltp,k.ix.lt,k.mp.lt⟩
theorem HpM.below {last : Int} (k : HpM w p ip ig fp mb n m ids D last) (hb : Below w.heap.size w w') : HpM w' p ip ig fp mb n m ids D last := by
 obtain ⟨l1,l2,l3,l4⟩ := k.lts
 exact k.keep fun b h => hb.block b (by rcases h with rfl | rfl | rfl | rfl <;> omega)
theorem HpAt.keep (k : HpAt w p ip ig fp mb n m ids D h) (hb : ∀ b,b = p \/ b = ip \/ b = ig \/ b = mb -> w'.heap[b]? = w.heap[b]?) : HpAt w' p ip ig fp mb n m ids D h := ⟨k.toHpM.keep hb,k.toHpK⟩
theorem Hp.lt (k : Hp w S p h) : ∀ b,S b -> b < w.heap.size := by obtain ⟨_,_,_,_,_,_,_,_,_,_,_,_,_,k,_⟩ := k;exact k
theorem Hp.ok (k : Hp w S p h) : HOk h := by obtain ⟨_,_,_,_,_,_,_,_,_,k,_⟩ := k;exact k.ok
theorem Hp.keep (k : Hp w S p h) (hk : Kept S' w w') (hn : ∀ b,S b -> ¬ S' b) : Hp w' S p h := by
 obtain ⟨ip,ig,fp,mb,n,m,ids,D,Sf,k1,k2,k3,k4,k5,k6,k7⟩ := k
 refine ⟨ip,ig,fp,mb,n,m,ids,D,Sf,k1.keep fun b hb => hk.block b ?_ ?_,k2.keep hk (fun b hb => hn b (k4 b hb)),k3,k4,fun b hb => Nat.lt_of_lt_of_le (k5 b hb) hk.size,k6,k7⟩
 ·rcases hb with rfl | rfl | rfl | rfl
  ·exact k5 _ k3.1
  ·exact k5 _ k3.2.1
  ·exact k5 _ k3.2.2.1
  ·exact k5 _ k3.2.2.2
 ·rcases hb with rfl | rfl | rfl | rfl
  ·exact hn _ k3.1
  ·exact hn _ k3.2.1
  ·exact hn _ k3.2.2.1
  ·exact hn _ k3.2.2.2
theorem Hp.below (k : Hp w S p h) (hb : Below w.heap.size w w') : Hp w' S p h := k.keep (Kept.of_below hb (fun _ => False)) (fun _ _ => id)
end
theorem xqv (p : Nat) (ix fr : Option Addr) (mb : Option Nat) (k : Int) (w : World) (h0 : w.cell? ⟨p,0,none⟩ = some (.pointer ix)) (h1 : w.cell? ⟨p,1,none⟩ = some (.pointer fr)) (h2 : w.cell? ⟨p,2,none⟩ = some (.map mb)) (h3 : w.cell? ⟨p,3,none⟩ = some (.int .i64 k)) :
  Calls Tryz.prog 87 #[.pointer (some ⟨p,0,none⟩)] w fun e w' => e = .returned (.agg #[.pointer ix,.pointer fr,.map mb,.int .i64 k]) /\ Below w.heap.size w w' := by
 replace h0 := xq1 (.cells #[.pointer none,.pointer none,.map none,.int .i64 0] 156) h0
 replace h1 := xq1 (.cells #[.pointer none,.pointer none,.map none,.int .i64 0] 156) h1
 replace h2 := xq1 (.cells #[.pointer none,.pointer none,.map none,.int .i64 0] 156) h2
 replace h3 := xq1 (.cells #[.pointer none,.pointer none,.map none,.int .i64 0] 156) h3
 go_enter Tryz.func87,Tryz.ntmps87
 go_wp2
 refine bodyPost_ret (v := .agg #[.pointer ix,.pointer fr,.map mb,.int .i64 k]) (by simp [results,Tryz.results87,go_sem]) rfl ?_
 exact ⟨rfl,(Below.refl _ _).alloc (Nat.le_refl _) _⟩
theorem xw0 (w : World) {ops : Array Oper} {rest : List Oper} {o : Oper} {a : Act} {Q : Exit -> Act -> World -> Prop} (hg : o.guard = none) (m x : Operand) (hop : o.op = Op.lookup 152 m x true)
  (b n : Nat) (D : DataW Unit) (l : List (Int × Int × Int × Int)) (hm : a.eval m = .map (some b)) (hown : w.ownsMap Tryz.prog 3 spanR b n D) (hmis : MIs D l) (id : Int) (hx : a.eval x = .int .i64 id) (hid : in64 id)
  (s1 s2 s3 s4 : Int) (ok : Bool) (hs : spanOf l id = (s1,s2,s3,s4)) (hok : l.any (fun s => s.1 == id) = ok)
  (hK : wpList Tryz.prog ops Q rest (a.put o.dst (.tuple #[.agg #[.int .i64 s1,.int .i64 s2,.int .i64 s3,.int .i64 s4],.bool ok])) w) : wpList Tryz.prog ops Q (o :: rest) a w := by
 refine wpList_lookup_own_ok w hg m x 152 hop 3 49 keyed Tryz.underlying152 spanR (yjy w) (encS spanNone) [] (xw7 _) b n D hm hown _ _ hx (xzp hid) ?_
 intro v ps hv
 obtain ⟨s,rfl,e⟩ := xQ3 hv
 have e1 := congrArg Prod.fst e
 rw [hmis.get] at e1
 have e2 := yqe e1
 rw [hs] at e2
 subst e2
 rw [hmis.has,hok]
 exact hK
theorem yqf (ix fr : Option Addr) (mb : Option Nat) (k : Int) (w : World) : (Instr.field 156 (.agg #[.pointer ix,.pointer fr,.map mb,.int .i64 k]) 0).run Tryz.prog w = .ok (.pointer ix) w := by kernel_rfl
theorem xZs (ix fr : Option Addr) (mb : Option Nat) (k : Int) (w : World) : (Instr.field 156 (.agg #[.pointer ix,.pointer fr,.map mb,.int .i64 k]) 1).run Tryz.prog w = .ok (.pointer fr) w := by kernel_rfl
theorem yqg (ix fr : Option Addr) (mb : Option Nat) (k : Int) (w : World) : (Instr.field 156 (.agg #[.pointer ix,.pointer fr,.map mb,.int .i64 k]) 2).run Tryz.prog w = .ok (.map mb) w := by kernel_rfl
theorem yxu {w : World} {S : Nat -> Prop} {p : Nat} {h : HeapV} (k : Hp w S p h) :
  Calls Tryz.prog 136 #[.pointer (some ⟨p,0,none⟩)] w fun e w' => e = .returned (.int .i64 h.pages) /\ Below w.heap.size w w' := by
 obtain ⟨ip,ig,fp,mb,n,m,ids,D,Sf,k1,k2,k3,k4,k5,k6,k7⟩ := k
 have cp := xqv p _ _ _ _ w k1.c0 k1.c1 k1.c2 k1.c3
 have cx : ∀ W,Below w.heap.size w W -> Calls Tryz.prog 197 #[.pointer (some ⟨ip,0,none⟩)] W fun e w' => e = .returned (.int .i64 h.pages) /\ Below w.heap.size w w' := fun W hb => by
  have := xk9 ip _ n n W (k1.ix.below hb (Nat.le_refl _)).cell
  rw [k1.nlen] at this
  exact this.mono fun e w' ⟨e1,e2⟩ => ⟨e1,e2 ▸ hb⟩
 clear k1 k2 k3 k4 k5 k6 k7
 have ff := yqf
 go_enter Tryz.func136,Tryz.ntmps136
 go_wp2_with (first
  | (go_at_call 87;(with_reducible refine cp.mono ?_);rintro e w1 ⟨rfl,hb1⟩)
  | (go_at_call 197;(with_reducible refine (cx _ hb1).mono ?_);rintro e w2 ⟨rfl,hb2⟩))
 go_ret
 exact ⟨rfl,hb2⟩
theorem yxv {w : World} {S : Nat -> Prop} {p : Nat} {h : HeapV} (k : Hp w S p h) :
  Calls Tryz.prog 28 #[.pointer (some ⟨p,0,none⟩)] w (OwnRuns w (fList h.free)) := by
 obtain ⟨ip,ig,fp,mb,n,m,ids,D,Sf,k1,k2,k3,k4,k5,k6,k7⟩ := k
 have cp := xqv p _ _ _ _ w k1.c0 k1.c1 k1.c2 k1.c3
 have cx : ∀ W,Below w.heap.size w W -> Calls Tryz.prog 90 #[.pointer (some ⟨fp,0,none⟩)] W (OwnRuns w (fList h.free)) := fun W hb => (yxa (k2.below hb)).mono fun e w' ⟨A,c,e1,e2,e3⟩ => ⟨A,c,e1,xxb e2 hb.size,hb.trans (e3.mono hb.size)⟩
 clear k1 k2 k3 k4 k5 k6 k7
 have ff := xZs
 go_enter Tryz.func28,Tryz.ntmps28
 go_wp2_with (first
  | (go_at_call 87;(with_reducible refine cp.mono ?_);rintro e w1 ⟨rfl,hb1⟩)
  | (go_at_call 90;(with_reducible refine (cx _ hb1).mono ?_);rintro e w2 ⟨A,c,rfl,h2,h3⟩))
 go_ret
 exact ⟨A,c,rfl,h2,h3⟩
theorem cells4 {w : World} {b : Nat} {t : TypeId} {v0 v1 v2 v3 : Value} (h : w.heap[b]? = some (.cells #[v0,v1,v2,v3] t (0,0))) :
  w.cell? ⟨b,0,none⟩ = some v0 /\ w.cell? ⟨b,1,none⟩ = some v1 /\ w.cell? ⟨b,2,none⟩ = some v2 /\ w.cell? ⟨b,3,none⟩ = some v3 /\ w.frozen? ⟨b,0,none⟩ = false /\ w.frozen? ⟨b,1,none⟩ = false /\ w.frozen? ⟨b,2,none⟩ = false /\ w.frozen? ⟨b,3,none⟩ = false := by
 refine ⟨?_,?_,?_,?_,?_,?_,?_,?_⟩ <;> simp [World.cell?,World.frozen?,h]
def SpanIs (w : World) (s : Int × Int × Int × Int) (ok : Bool) (e : Ending) (w' : World) : Prop := e = .returned (.tuple #[spv s,.bool ok]) /\ Below w.heap.size w w'
theorem xXd {w : World} {S : Nat -> Prop} {p : Nat} {h : HeapV} (k : Hp w S p h) (id : Int) (hid : in64 id) :
  Calls Tryz.prog 183 #[.pointer (some ⟨p,0,none⟩),.int .i64 id] w (SpanIs w (spanOf h.l id) (h.l.any fun s => s.1 == id)) := by
 obtain ⟨ip,ig,fp,mb,n,m,ids,D,Sf,k1,k2,k3,k4,k5,k6,k7⟩ := k
 have hb0 : Below w.heap.size w (w.alloc (.cells #[.int .i64 0,.int .i64 0,.int .i64 0,.int .i64 0] 49)) := (Below.refl _ _).alloc (Nat.le_refl _) _
 have cp := xqv p _ _ _ _ _ (xq1 (.cells #[.int .i64 0,.int .i64 0,.int .i64 0,.int .i64 0] 49) k1.c0) (xq1 _ k1.c1) (xq1 _ k1.c2) (xq1 _ k1.c3)
 have HM : Hid (∀ W,Below w.heap.size w W -> W.ownsMap Tryz.prog 3 spanR mb m D) := hidb (fun W hb => xq2 k1.mp (hb.block mb (k5 _ k3.2.2.2)))
 have HI := hidb k1.mis
 obtain ⟨⟨s1,s2,s3,s4⟩,hs⟩ : ∃ s,spanOf h.l id = s := ⟨_,rfl⟩
 obtain ⟨ok,hok⟩ : ∃ ok,(h.l.any fun s => s.1 == id) = ok := ⟨_,rfl⟩
 rw [hs,hok]
 have HS := hidb hs
 have HOK := hidb hok
 have HB0 := hidb hb0
 have hzz : w.heap.size < (w.alloc (.cells #[.int .i64 0,.int .i64 0,.int .i64 0,.int .i64 0] 49)).heap.size := by simp
 have HC : Hid (∀ W,Below (w.alloc (.cells #[.int .i64 0,.int .i64 0,.int .i64 0,.int .i64 0] 49)).heap.size (w.alloc (.cells #[.int .i64 0,.int .i64 0,.int .i64 0,.int .i64 0] 49)) W ->
   W.heap[w.heap.size]? = some (.cells #[.int .i64 0,.int .i64 0,.int .i64 0,.int .i64 0] 49 (0,0))) := hidb (fun W hb => (hb.block _ hzz).trans (by show (w.heap.push _)[w.heap.size]? = _;simp))
 clear k1 k2 k3 k4 k5 k6 k7 hs hok hb0
 have ff := yqg
 go_enter Tryz.func183,Tryz.ntmps183
 go_wp2_with (first
  | (go_at_call 87;(with_reducible refine cp.mono ?_);rintro e w1 ⟨rfl,hb1⟩;have hb2 := HB0.out.trans (hb1.mono (Nat.le_of_lt hzz));have HO := hidb (HM.out _ hb2);obtain ⟨q0,q1,q2,q3,z0,z1,z2,z3⟩ := cells4 (HC.out _ hb1);have hlt1 : w.heap.size < w1.heap.size := xq0 q0)
  | (at_lookup;refine xw0 _ rfl _ _ rfl mb m D h.l rfl HO.out HI.out id rfl hid s1 s2 s3 s4 ok HS.out HOK.out ?_)
  | go_in)
 obtain ⟨y0,y1,y2,y3⟩ := xzz w1 w.heap.size (.int .i64 s1) (.int .i64 s2) (.int .i64 s3) (.int .i64 s4) _ _ _ _ q0 q1 q2 q3
 have x0 := xq1 (.cells #[.int .i64 s1,.int .i64 s2,.int .i64 s3,.int .i64 s4] 49) y0
 have x1 := xq1 (.cells #[.int .i64 s1,.int .i64 s2,.int .i64 s3,.int .i64 s4] 49) y1
 have x2 := xq1 (.cells #[.int .i64 s1,.int .i64 s2,.int .i64 s3,.int .i64 s4] 49) y2
 have x3 := xq1 (.cells #[.int .i64 s1,.int .i64 s2,.int .i64 s3,.int .i64 s4] 49) y3
 refine bodyPost_ret (v := .tuple #[.agg #[.int .i64 s1,.int .i64 s2,.int .i64 s3,.int .i64 s4],.bool ok]) (by simp [results,Tryz.results183,go_sem,x0,x1,x2,x3]) rfl ?_
 have hb3 := xQ4 hb2 (Nat.le_refl _) (.int .i64 s1) (.int .i64 s2) (.int .i64 s3) (.int .i64 s4)
 exact ⟨rfl,hb3.alloc hb3.size _⟩
def atOf (l : List (Int × Int × Int × Int)) (a : Int) : Option (Int × Int × Int × Int) := if a < 0 then none else l.find? (inSpan a)
theorem at_plain {h : HeapV} {ids : List Int} (k : HOk h) (hp : Paint ids h) (a : Int) :
  spanOf h.l (xOf ids (if a < 0 then -1 else a / 64)) = (atOf h.l a).getD spanNone /\ (h.l.any fun s => s.1 == xOf ids (if a < 0 then -1 else a / 64)) = (atOf h.l a).isSome := by
 have hno : ∀ i : Int,i = 0 -> spanOf h.l i = spanNone /\ (h.l.any fun s => s.1 == i) = false := fun i hi => by
  have hn : ¬ ∃ s ∈ h.l,s.1 = i := fun ⟨s,hs,e⟩ => by have := k.idr s hs;omega
  refine ⟨xwt hn,?_⟩
  cases e : h.l.any (fun s => s.1 == i) with
  | false => rfl
  | true => exact absurd ((MIs.any_iff i).1 e) hn
 unfold atOf
 by_cases c : a < 0
 ·rw [if_pos c,if_pos c]
  have e : xOf ids (-1) = 0 := by unfold xOf;rw [if_neg (by omega)]
  rw [e]
  exact hno 0 rfl
 ·rw [if_neg c,if_neg c]
  rcases yq4 k hp (a / 64) (by omega) with ⟨s,hs,e,h1,h2⟩ | ⟨e,h1⟩
  ·rw [e,xJu k hs]
   have hf : h.l.find? (inSpan a) = some s := by
    cases e2 : h.l.find? (inSpan a) with
    | none =>
     have := List.find?_eq_none.1 e2 s hs
     exact absurd (decide_eq_true (show s.2.1 <= a / 64 /\ a / 64 < s.2.1 + s.2.2.1 from ⟨h1,h2⟩)) this
    | some t =>
     have ht0 : inSpan a t = true := List.find?_some e2
     have ht := of_decide_eq_true ht0
     rw [k.apart hs (List.mem_of_find?_eq_some e2) ⟨h1,h2⟩ ht]
   rw [hf]
   exact ⟨rfl,(MIs.any_iff s.1).2 ⟨s,hs,rfl⟩⟩
  ·have hf : h.l.find? (inSpan a) = none := List.find?_eq_none.2 fun s hs c2 => h1 s hs (of_decide_eq_true c2)
   rw [hf]
   exact hno _ e
theorem code_hat {w : World} {S : Nat -> Prop} {p : Nat} {h : HeapV} (k : Hp w S p h) (a : Int) (ha : in64 a) :
  Calls Tryz.prog 121 #[.pointer (some ⟨p,0,none⟩),.int .i64 a] w (SpanIs w ((atOf h.l a).getD spanNone) (atOf h.l a).isSome) := by
 have K := hidb k
 obtain ⟨ip,ig,fp,mb,n,m,ids,D,Sf,k1,k2,k3,k4,k5,k6,k7⟩ := k
 have hb0 : Below w.heap.size w (w.alloc (.cells #[.int .i64 0,.int .i64 0,.int .i64 0,.int .i64 0] 49)) := (Below.refl _ _).alloc (Nat.le_refl _) _
 have cp := xqv p _ _ _ _ _ (xq1 (.cells #[.int .i64 0,.int .i64 0,.int .i64 0,.int .i64 0] 49) k1.c0) (xq1 _ k1.c1) (xq1 _ k1.c2) (xq1 _ k1.c3)
 have HB0 := hidb hb0
 have hzz : w.heap.size < (w.alloc (.cells #[.int .i64 0,.int .i64 0,.int .i64 0,.int .i64 0] 49)).heap.size := by simp
 have HC : Hid (∀ W,Below (w.alloc (.cells #[.int .i64 0,.int .i64 0,.int .i64 0,.int .i64 0] 49)).heap.size (w.alloc (.cells #[.int .i64 0,.int .i64 0,.int .i64 0,.int .i64 0] 49)) W ->
   W.heap[w.heap.size]? = some (.cells #[.int .i64 0,.int .i64 0,.int .i64 0,.int .i64 0] 49 (0,0))) := hidb (fun W hb => (hb.block _ hzz).trans (by show (w.heap.push _)[w.heap.size]? = _;simp))
 obtain ⟨e1,e2⟩ := at_plain k1.ok k1.pt a
 obtain ⟨i,hi⟩ : ∃ i,xOf ids (if a < 0 then -1 else a / 64) = i := ⟨_,rfl⟩
 have hin : in64 i := by
  have hlb := k1.lb
  have h0 : ∀ q : Int,0 <= q -> in64 (xOf ids q) := fun q hq => by
   rcases yq4 k1.ok k1.pt q hq with ⟨s,hs,e,_⟩ | ⟨e,_⟩
   ·rw [e];have := k1.ok.idr s hs;exact ⟨by omega,by omega⟩
   ·rw [e];exact ⟨by omega,by omega⟩
  rw [<- hi]
  by_cases c : a < 0
  ·rw [if_pos c]
   have e : xOf ids (-1) = 0 := by unfold xOf;rw [if_neg (by omega)]
   rw [e];exact ⟨by omega,by omega⟩
  ·rw [if_neg c];exact h0 _ (by omega)
 have cx : ∀ W,Below w.heap.size w W -> Calls Tryz.prog 184 #[.pointer (some ⟨ip,0,none⟩),.int .i64 a] W fun e w' => e = .returned (.int .i64 i) /\ W = w' := fun W hb => by
  have := code_xat (k1.ix.below hb (Nat.le_refl _)) a ha
  unfold pageOf at this
  rw [hi] at this
  exact this
 have cs : ∀ W,Below w.heap.size w W -> Calls Tryz.prog 183 #[.pointer (some ⟨p,0,none⟩),.int .i64 i] W (SpanIs W ((atOf h.l a).getD spanNone) (atOf h.l a).isSome) := fun W hb => by
  have := xXd (K.out.below hb) i hin
  rw [<- hi,e1,e2] at this
  rw [<- hi]
  exact this
 obtain ⟨⟨s1,s2,s3,s4⟩,hs⟩ : ∃ s,(atOf h.l a).getD spanNone = s := ⟨_,rfl⟩
 obtain ⟨ok,hok⟩ : ∃ ok,(atOf h.l a).isSome = ok := ⟨_,rfl⟩
 rw [hs,hok] at cs ⊢
 replace cs : ∀ W,Below w.heap.size w W -> Calls Tryz.prog 183 #[.pointer (some ⟨p,0,none⟩),.int .i64 i] W fun e w' => e = .returned (.tuple #[.agg #[.int .i64 s1,.int .i64 s2,.int .i64 s3,.int .i64 s4],.bool ok]) /\ Below W.heap.size W w' := cs
 clear hb0 k1 k2 k3 k4 k5 k6 k7 e1 e2 hi hs hok K hin
 have ff := yqf
 go_enter Tryz.func121,Tryz.ntmps121
 go_wp2_with (first
  | (go_at_call 87;(with_reducible refine cp.mono ?_);rintro e w1 ⟨rfl,hb1⟩;have hb2 := HB0.out.trans (hb1.mono (Nat.le_of_lt hzz)))
  | (go_at_call 184;(with_reducible refine (cx _ hb2).mono ?_);rintro e w2 ⟨rfl,rfl⟩)
  | (go_at_call 183;(with_reducible refine (cs _ hb2).mono ?_);rintro e w3 ⟨rfl,hb3⟩;obtain ⟨q0,q1,q2,q3,z0,z1,z2,z3⟩ := cells4 (HC.out _ (hb1.trans (hb3.mono hb1.size)));have hlt1 : w.heap.size < w3.heap.size := xq0 q0))
 obtain ⟨y0,y1,y2,y3⟩ := xzz w3 w.heap.size (.int .i64 s1) (.int .i64 s2) (.int .i64 s3) (.int .i64 s4) _ _ _ _ q0 q1 q2 q3
 refine bodyPost_ret (v := .tuple #[.agg #[.int .i64 s1,.int .i64 s2,.int .i64 s3,.int .i64 s4],.bool ok]) (by simp [results,Tryz.results121,go_sem,y0,y1,y2,y3]) rfl ?_
 exact ⟨rfl,xQ4 (hb2.trans (hb3.mono hb2.size)) (Nat.le_refl _) _ _ _ _⟩
end Go.Proofs.YtlcdgmjinhbncaaGreat
namespace Go.Proofs
open Go.Shelf
set_option linter.unusedVariables false
def Tryz.sortRuns_ren : Go.Shelf.Ren := ⟨fun | 6 => 245 | 15 => 167 | 14 => 283 | 28 => 229 | 29 => 230 | 20 => 307 | 21 => 308 | 22 => 309 | 23 => 310 | 24 => 311 | 25 => 312 | 26 => 313 | 27 => 314 | 46 => 320 | 47 => 274 | 48 => 275 | 49 => 321 | 50 => 322 | 57 => 325 | n => n,fun | 22 => 57 | 24 => 47 | 25 => 306 | 3 => 3 | 39 => 241 | 0 => 0 | 53 => 296 | 55 => 273 | 4 => 4 | 46 => 289 | 45 => 288 | 50 => 293 | 5 => 5 | 9 => 9 | 66 => 324 | 70 => 328 | 76 => 347 | 77 => 348 | n => n,fun | n => n⟩
theorem Tryz.sortRuns : Go.Proofs.SlLaysF0.n6 Tryz.prog Tryz.sortRuns_ren := {
 mixed := by kernel_rfl
 f6 := ⟨Tryz.f245.name,by decide,Tryz.func245.trans (congrArg some (by kernel_rfl))⟩
 f14 := ⟨Tryz.f283.name,by decide,Tryz.func283.trans (congrArg some (by kernel_rfl))⟩
 f15 := Tryz.func167.trans (congrArg some (by kernel_rfl))
 f20 := ⟨Tryz.f307.name,by decide,Tryz.func307.trans (congrArg some (by kernel_rfl))⟩
 f21 := ⟨Tryz.f308.name,by decide,Tryz.func308.trans (congrArg some (by kernel_rfl))⟩
 f22 := ⟨Tryz.f309.name,by decide,Tryz.func309.trans (congrArg some (by kernel_rfl))⟩
 f23 := ⟨Tryz.f310.name,by decide,Tryz.func310.trans (congrArg some (by kernel_rfl))⟩
 f24 := ⟨Tryz.f311.name,by decide,Tryz.func311.trans (congrArg some (by kernel_rfl))⟩
 f25 := ⟨Tryz.f312.name,by decide,Tryz.func312.trans (congrArg some (by kernel_rfl))⟩
 f26 := ⟨Tryz.f313.name,by decide,Tryz.func313.trans (congrArg some (by kernel_rfl))⟩
 f27 := ⟨Tryz.f314.name,by decide,Tryz.func314.trans (congrArg some (by kernel_rfl))⟩
 f28 := Tryz.func229.trans (congrArg some (by kernel_rfl))
 f29 := Tryz.func230.trans (congrArg some (by kernel_rfl))
 f46 := ⟨Tryz.f320.name,by decide,Tryz.func320.trans (congrArg some (by kernel_rfl))⟩
 f47 := Tryz.func274.trans (congrArg some (by kernel_rfl))
 f48 := Tryz.func275.trans (congrArg some (by kernel_rfl))
 f49 := ⟨Tryz.f321.name,by decide,Tryz.func321.trans (congrArg some (by kernel_rfl))⟩
 f50 := ⟨Tryz.f322.name,by decide,Tryz.func322.trans (congrArg some (by kernel_rfl))⟩
 f57 := ⟨Tryz.f325.name,by decide,Tryz.func325.trans (congrArg some (by kernel_rfl))⟩
 t0 := Tryz.underlying0
 a0 := Tryz.isAgg0
 z0 := Tryz.sizeOf0
 v0 := Tryz.zeroValue0
 t3 := Tryz.underlying3
 a3 := Tryz.isAgg3
 z3 := Tryz.sizeOf3
 v3 := Tryz.zeroValue3
 t4 := Tryz.underlying4
 a4 := Tryz.isAgg4
 z4 := Tryz.sizeOf4
 v4 := Tryz.zeroValue4
 t5 := Tryz.underlying5
 a5 := Tryz.isAgg5
 z5 := Tryz.sizeOf5
 v5 := Tryz.zeroValue5
 t9 := Tryz.underlying9
 a9 := Tryz.isAgg9
 z9 := Tryz.sizeOf9
 v9 := Tryz.zeroValue9
 t22 := Tryz.underlying57
 a22 := Tryz.isAgg57
 z22 := Tryz.sizeOf57
 v22 := Tryz.zeroValue57
 t25 := Tryz.underlying306
 a25 := Tryz.isAgg306
 z25 := Tryz.sizeOf306
 v25 := Tryz.zeroValue306
 t39 := Tryz.underlying241
 a39 := Tryz.isAgg241
 z39 := Tryz.sizeOf241
 v39 := Tryz.zeroValue241
 t45 := Tryz.underlying288
 a45 := Tryz.isAgg288
 z45 := Tryz.sizeOf288
 v45 := Tryz.zeroValue288
 t46 := Tryz.underlying289
 a46 := Tryz.isAgg289
 z46 := Tryz.sizeOf289
 v46 := Tryz.zeroValue289
 t50 := Tryz.underlying293
 a50 := Tryz.isAgg293
 z50 := Tryz.sizeOf293
 v50 := Tryz.zeroValue293
 t53 := Tryz.underlying296
 a53 := Tryz.isAgg296
 z53 := Tryz.sizeOf296
 v53 := Tryz.zeroValue296
 t55 := Tryz.underlying273
 a55 := Tryz.isAgg273
 z55 := Tryz.sizeOf273
 v55 := Tryz.zeroValue273
 t66 := Tryz.underlying324
 a66 := Tryz.isAgg324
 z66 := Tryz.sizeOf324
 v66 := Tryz.zeroValue324
 t70 := Tryz.underlying328
 a70 := Tryz.isAgg328
 z70 := Tryz.sizeOf328
 v70 := Tryz.zeroValue328
 t76 := Tryz.underlying347
 a76 := Tryz.isAgg347
 z76 := Tryz.sizeOf347
 v76 := Tryz.zeroValue347
 t77 := Tryz.underlying348
 a77 := Tryz.isAgg348
 z77 := Tryz.sizeOf348
 v77 := Tryz.zeroValue348 }
def Tryz.sortSpans_ren : Go.Shelf.Ren := ⟨fun | 6 => 157 | 15 => 167 | 14 => 218 | 28 => 229 | 29 => 230 | 20 => 264 | 21 => 265 | 22 => 266 | 23 => 267 | 24 => 268 | 25 => 269 | 26 => 270 | 27 => 271 | 46 => 303 | 47 => 274 | 48 => 275 | 49 => 304 | 50 => 305 | 57 => 319 | n => n,fun | 22 => 30 | 24 => 49 | 25 => 159 | 3 => 3 | 39 => 241 | 0 => 0 | 53 => 296 | 55 => 273 | 4 => 4 | 46 => 289 | 45 => 288 | 50 => 293 | 5 => 5 | 9 => 9 | 66 => 324 | 70 => 328 | 76 => 347 | 77 => 348 | n => n,fun | n => n⟩
theorem Tryz.sortSpans : Go.Proofs.SlLaysF0.n6 Tryz.prog Tryz.sortSpans_ren := {
 mixed := by kernel_rfl
 f6 := ⟨Tryz.f157.name,by decide,Tryz.func157.trans (congrArg some (by kernel_rfl))⟩
 f14 := ⟨Tryz.f218.name,by decide,Tryz.func218.trans (congrArg some (by kernel_rfl))⟩
 f15 := Tryz.func167.trans (congrArg some (by kernel_rfl))
 f20 := ⟨Tryz.f264.name,by decide,Tryz.func264.trans (congrArg some (by kernel_rfl))⟩
 f21 := ⟨Tryz.f265.name,by decide,Tryz.func265.trans (congrArg some (by kernel_rfl))⟩
 f22 := ⟨Tryz.f266.name,by decide,Tryz.func266.trans (congrArg some (by kernel_rfl))⟩
 f23 := ⟨Tryz.f267.name,by decide,Tryz.func267.trans (congrArg some (by kernel_rfl))⟩
 f24 := ⟨Tryz.f268.name,by decide,Tryz.func268.trans (congrArg some (by kernel_rfl))⟩
 f25 := ⟨Tryz.f269.name,by decide,Tryz.func269.trans (congrArg some (by kernel_rfl))⟩
 f26 := ⟨Tryz.f270.name,by decide,Tryz.func270.trans (congrArg some (by kernel_rfl))⟩
 f27 := ⟨Tryz.f271.name,by decide,Tryz.func271.trans (congrArg some (by kernel_rfl))⟩
 f28 := Tryz.func229.trans (congrArg some (by kernel_rfl))
 f29 := Tryz.func230.trans (congrArg some (by kernel_rfl))
 f46 := ⟨Tryz.f303.name,by decide,Tryz.func303.trans (congrArg some (by kernel_rfl))⟩
 f47 := Tryz.func274.trans (congrArg some (by kernel_rfl))
 f48 := Tryz.func275.trans (congrArg some (by kernel_rfl))
 f49 := ⟨Tryz.f304.name,by decide,Tryz.func304.trans (congrArg some (by kernel_rfl))⟩
 f50 := ⟨Tryz.f305.name,by decide,Tryz.func305.trans (congrArg some (by kernel_rfl))⟩
 f57 := ⟨Tryz.f319.name,by decide,Tryz.func319.trans (congrArg some (by kernel_rfl))⟩
 t0 := Tryz.underlying0
 a0 := Tryz.isAgg0
 z0 := Tryz.sizeOf0
 v0 := Tryz.zeroValue0
 t3 := Tryz.underlying3
 a3 := Tryz.isAgg3
 z3 := Tryz.sizeOf3
 v3 := Tryz.zeroValue3
 t4 := Tryz.underlying4
 a4 := Tryz.isAgg4
 z4 := Tryz.sizeOf4
 v4 := Tryz.zeroValue4
 t5 := Tryz.underlying5
 a5 := Tryz.isAgg5
 z5 := Tryz.sizeOf5
 v5 := Tryz.zeroValue5
 t9 := Tryz.underlying9
 a9 := Tryz.isAgg9
 z9 := Tryz.sizeOf9
 v9 := Tryz.zeroValue9
 t22 := Tryz.underlying30
 a22 := Tryz.isAgg30
 z22 := Tryz.sizeOf30
 v22 := Tryz.zeroValue30
 t25 := Tryz.underlying159
 a25 := Tryz.isAgg159
 z25 := Tryz.sizeOf159
 v25 := Tryz.zeroValue159
 t39 := Tryz.underlying241
 a39 := Tryz.isAgg241
 z39 := Tryz.sizeOf241
 v39 := Tryz.zeroValue241
 t45 := Tryz.underlying288
 a45 := Tryz.isAgg288
 z45 := Tryz.sizeOf288
 v45 := Tryz.zeroValue288
 t46 := Tryz.underlying289
 a46 := Tryz.isAgg289
 z46 := Tryz.sizeOf289
 v46 := Tryz.zeroValue289
 t50 := Tryz.underlying293
 a50 := Tryz.isAgg293
 z50 := Tryz.sizeOf293
 v50 := Tryz.zeroValue293
 t53 := Tryz.underlying296
 a53 := Tryz.isAgg296
 z53 := Tryz.sizeOf296
 v53 := Tryz.zeroValue296
 t55 := Tryz.underlying273
 a55 := Tryz.isAgg273
 z55 := Tryz.sizeOf273
 v55 := Tryz.zeroValue273
 t66 := Tryz.underlying324
 a66 := Tryz.isAgg324
 z66 := Tryz.sizeOf324
 v66 := Tryz.zeroValue324
 t70 := Tryz.underlying328
 a70 := Tryz.isAgg328
 z70 := Tryz.sizeOf328
 v70 := Tryz.zeroValue328
 t76 := Tryz.underlying347
 a76 := Tryz.isAgg347
 z76 := Tryz.sizeOf347
 v76 := Tryz.zeroValue347
 t77 := Tryz.underlying348
 a77 := Tryz.isAgg348
 z77 := Tryz.sizeOf348
 v77 := Tryz.zeroValue348 }
def Tryz.cmpInt_ren : Go.Shelf.Ren := ⟨fun | 5 => 89 | 7 => 159 | n => n,fun | 22 => 3 | 3 => 3 | 4 => 4 | n => n,fun | n => n⟩
theorem Tryz.cmpInt : Go.Proofs.SlLaysC2.n5 Tryz.prog Tryz.cmpInt_ren := {
 mixed := by kernel_rfl
 f5 := ⟨Tryz.f89.name,by decide,Tryz.func89.trans (congrArg some (by kernel_rfl))⟩
 f7 := ⟨Tryz.f159.name,by decide,Tryz.func159.trans (congrArg some (by kernel_rfl))⟩
 t3 := Tryz.underlying3
 a3 := Tryz.isAgg3
 z3 := Tryz.sizeOf3
 v3 := Tryz.zeroValue3
 t4 := Tryz.underlying4
 a4 := Tryz.isAgg4
 z4 := Tryz.sizeOf4
 v4 := Tryz.zeroValue4
 t22 := Tryz.underlying3
 a22 := Tryz.isAgg3
 z22 := Tryz.sizeOf3
 v22 := Tryz.zeroValue3 }
end Go.Proofs
