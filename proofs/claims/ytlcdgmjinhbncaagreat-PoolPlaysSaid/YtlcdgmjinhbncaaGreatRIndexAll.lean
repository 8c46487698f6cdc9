import Derived.Test.YtlcdgmjinhbncaaGreatRRowWords
import Derived.Test.YtlcdgmjinhbncaaGreatRPlain7
import Derived.Defers
import Derived.Recover
import Derived.Laws.Pointers
import Derived.Lib.SliceRun
import Derived.RegionTactic
import Derived.ChangeAlike
namespace Go.Proofs.YtlcdgmjinhbncaaGreat
open Go.RowKit
set_option linter.unusedVariables false
structure Ix (w : World) (B p g n : Nat) (ids : List Int) : Prop where
 cell : w.cell? ⟨p,0,none⟩ = some (.slice (some ⟨g,0,none⟩) n n)
 heap : w.heap[g]? = some (.cells (ids.map iv).toArray 3 (0,0))
 hlen : ids.length = n
 ge : B <= p
 geg : B <= g
 ne : p ≠ g
 small : n <= 1024
section
variable {w w' w'' : World} {B p g n : Nat} {ids ys : List Int}
theorem Ix.lt (h : Ix w B p g n ids) : g < w.heap.size := (Array.getElem?_eq_some_iff.1 h.heap).1
theorem Ix.ltp (h : Ix w B p g n ids) : p < w.heap.size := xq0 h.cell
theorem Ix.at_ (h : Ix w B p g n ids) (j : Nat) : w.cell? ⟨g,j,none⟩ = (ids.map iv)[j]? := by simp [World.cell?,h.heap]
theorem Ix.int_ (h : Ix w B p g n ids) {j : Nat} (hj : j < n) : w.cell? ⟨g,j,none⟩ = some (.int .i64 (ids.getD j 0)) := by
 have hl := h.hlen
 rw [h.at_,List.getElem?_map,List.getElem?_eq_getElem (by omega),List.getD_eq_getElem?_getD,List.getElem?_eq_getElem (by omega)];rfl
theorem Ix.free (h : Ix w B p g n ids) (j : Nat) : w.frozen? ⟨g,j,none⟩ = false := by simp [World.frozen?,h.heap]
theorem Ix.kept (h : Ix w B p g n ids) (hk : ∀ k,k < w.heap.size -> w'.heap[k]? = w.heap[k]?) : Ix w' B p g n ids :=
 ⟨(World.cell?_of_block (w := w) (a := ⟨p,0,none⟩) (hk p h.ltp)).trans h.cell,(hk g h.lt).trans h.heap,h.hlen,h.ge,h.geg,h.ne,h.small⟩
theorem Ix.below {B' : Nat} (h : Ix w B p g n ids) (hb : Below B' w w') (hB : w.heap.size <= B') : Ix w' B p g n ids := h.kept (fun k hk => hb.block k (by omega))
theorem Ix.alloc (h : Ix w B p g n ids) (o : Obj) : Ix (w.alloc o) B p g n ids := h.below ((Below.refl _ _).alloc (Nat.le_refl _) o) (Nat.le_refl _)
theorem Ix.more {B' : Nat} (h : Ix w B p g n ids) (hB : B' <= B) : Ix w B' p g n ids := ⟨h.cell,h.heap,h.hlen,by have := h.ge;omega,by have := h.geg;omega,h.ne,h.small⟩
theorem Ix.grown (h : Ix w B p g n ids) {k : Nat} (hg : w.grownBy w' (some k)) (hp : p ≠ k) (hk : g ≠ k) : Ix w' B p g n ids :=
 ⟨(World.cell?_of_block (w := w) (a := ⟨p,0,none⟩) (hg.block p h.ltp (fun e => hp (by injection e)))).trans h.cell,(hg.block g h.lt (fun e => hk (by injection e))).trans h.heap,h.hlen,h.ge,h.geg,h.ne,h.small⟩
theorem Ix.set (h : Ix w B p g n ids) (j : Nat) (v : Int) : Ix (w.setCell ⟨g,j,none⟩ (.int .i64 v)) B p g n (ids.set j v) := by
 refine ⟨(World.cell?_setCell_other w _ _ _ (fun e => h.ne (by simp at e;exact e.1.symm))).trans h.cell,?_,by rw [List.length_set];exact h.hlen,h.ge,h.geg,h.ne,h.small⟩
 rw [heap_setCell_same w g j (ids.map iv).toArray 3 _ h.heap,List.map_set]
 simp [iv]
theorem xq4 {r : Option Nat} (h : w.grownBy w' r) (k : w'.grownBy w'' r) : w.grownBy w'' r :=
 ⟨k.os.trans h.os,k.tape.trans h.tape,k.output.trans h.output,Nat.le_trans h.size k.size,fun i hi hr => (k.block i (by have := h.size;omega) hr).trans (h.block i hi hr)⟩
theorem xvd {r : Option Nat} (w : World) : w.grownBy w r := ⟨rfl,rfl,rfl,Nat.le_refl _,fun _ _ _ => rfl⟩
theorem xk7 {r : Option Nat} (h : w.grownBy w' r) (o : Obj) : w.grownBy (w'.alloc o) r := xq4 h (World.grownBy_alloc w' o r)
theorem xX8 {r : Option Nat} (h : w.grownBy w' r) : w.grownBy w'.drew r := ⟨h.os,h.tape,h.output,h.size,h.block⟩
theorem xz6 {g : Nat} (h : w.grownBy w' (some g)) (j : Nat) (u : Value) : w.grownBy (w'.setCell ⟨g,j,none⟩ u) (some g) :=
 ⟨h.os,h.tape,h.output,by simpa using h.size,fun k hk hr => (heap_setCell_other w' ⟨g,j,none⟩ k u (fun e => hr (by rw [e]))).trans (h.block k hk hr)⟩
theorem xK3 {r : Option Nat} (h : w.grownBy w' r) {a : Addr} (ha : w.heap.size <= a.block) (u : Value) : w.grownBy (w'.setCell a u) r :=
 ⟨h.os,h.tape,h.output,by simpa using h.size,fun k hk hr => (heap_setCell_other w' a k u (by omega)).trans (h.block k hk hr)⟩
theorem xq3 (h : Below w.heap.size w w') (r : Option Nat) : w.grownBy w' r := ⟨h.os,h.tape,h.output,h.size,fun k hk _ => h.block k hk⟩
end
theorem xk9 (p : Nat) (A : Option Addr) (n c : Nat) (w : World) (hc : w.cell? ⟨p,0,none⟩ = some (.slice A n c)) :
  Calls Tryz.prog 197 #[.pointer (some ⟨p,0,none⟩)] w fun e w' => e = .returned (.int .i64 (n : Int)) /\ w = w' := by
 go_enter Tryz.func197,Tryz.ntmps197
 go_wp2
 go_ret
 exact ⟨rfl,rfl⟩
theorem xwz (w : World) :
  Calls Tryz.prog 197 #[.pointer none] w fun e w' => e = .returned (.int .i64 0) /\ w = w' := by
 go_enter Tryz.func197,Tryz.ntmps197
 go_wp2
 go_ret
 exact ⟨rfl,rfl⟩
def PagesAt (w : World) (v : Value) (n : Nat) : Prop := ∀ w',Below w.heap.size w w' -> Calls Tryz.prog 197 #[v] w' fun e w'' => e = .returned (.int .i64 (n : Int)) /\ w' = w''
theorem PagesAt.below {w w' : World} {v : Value} {n : Nat} (h : PagesAt w v n) (hb : Below w.heap.size w w') : PagesAt w' v n := fun w2 h2 => h w2 (hb.trans (h2.mono hb.size))
theorem Ix.pages {w : World} {B p g n : Nat} {ids : List Int} (h : Ix w B p g n ids) : PagesAt w (.pointer (some ⟨p,0,none⟩)) n := fun w' hb => xk9 p _ n n w' (h.below hb (Nat.le_refl _)).cell
theorem PagesAt.quiet {w : World} {v : Value} {n : Nat} (h : PagesAt w v n) (q : Nat) : Calls Tryz.prog 197 #[v] (w.drewN q) fun e w' => e = .returned (.int .i64 (n : Int)) /\ ∃ m,w' = w.drewN m :=
 (h _ (belowN (Below.refl _ _) q)).mono fun _ _ ⟨x,y⟩ => ⟨x,q,y.symm⟩
def ResIx (w : World) (n : Nat) (ids : List Int) (e : Ending) (w' : World) : Prop := ∃ p g,e = .returned (.pointer (some ⟨p,0,none⟩)) /\ Ix w' w.heap.size p g n ids /\ Below w.heap.size w w'
theorem noughts (n : Nat) : (madeCells (Value.int .i64 0).cells (n * 1)).toList = (List.replicate n 0).map iv := by
 rw [Nat.mul_one]
 exact (toList_madeCells_one _ n).trans (by simp [iv])
theorem xK4 {w : World} {base : Nat} {g n : Nat} {xs : List Int} (h : w.ownsRow base 3 1 (.slice (some ⟨g,0,none⟩) n n) n (xs.map iv)) : w.heap[g]? = some (.cells (xs.map iv).toArray 3 (0,0)) := by
 rcases h.2 with ⟨h1,_⟩ | ⟨g',cap,cur,h1,_,hh,_,_,hs,ht⟩
 ·cases h1
 ·injection h1 with h2 h3 h4
  injection h2 with h2
  injection h2 with h2
  subst h2 h4
  rw [hh,<- ht,List.take_of_length_le (by simp [hs])]
theorem xK5 (pages : Int) (n : Nat) (w : World) (hw : (pages < 0 /\ n = 0) \/ (1024 < pages /\ n = 1024) \/ (0 <= pages /\ pages <= 1024 /\ pages = n)) (h0 : -9223372036854775808 <= pages) (h1 : pages <= 9223372036854775807) :
  Calls Tryz.prog 134 #[.int .i64 pages] w (ResIx w n (List.replicate n 0)) := by
 obtain ⟨i0,hi,hz0,hz1,hz2⟩ := info_parts xqw
 have fin : ∀ w1,w1.ownsRow w.heap.size 3 1 (.slice (some ⟨w.heap.size,0,none⟩) n n) n (madeCells (Value.int .i64 0).cells (n * 1)).toList -> w.grownBy w1 none -> n <= 1024 ->
   ResIx w n (List.replicate n 0) (.returned (.pointer (some ⟨w1.heap.size,0,none⟩))) (w1.alloc (.cells #[.slice (some ⟨w.heap.size,0,none⟩) n n] 267)) := fun w1 hown hgrow hn => by
  rw [noughts] at hown
  have hlt : w.heap.size < w1.heap.size := (hown.lt w.heap.size rfl).2
  refine ⟨w1.heap.size,w.heap.size,rfl,⟨by simp,?_,by simp,by omega,by omega,by omega,hn⟩,?_⟩
  ·rw [Below.heap_alloc _ _ _ hlt];exact xK4 hown
  ·exact ((Below.refl _ _).grown hgrow (Nat.le_refl _) (fun k hk => by cases hk)).alloc (by omega) _
 have FIN := hidb fin
 clear fin
 rcases hw with ⟨h2,rfl⟩ | ⟨h2,h3⟩ | ⟨h2,h3,rfl⟩
 ·go_enter Tryz.func134,Tryz.ntmps134
  go_wp2_with (at_make;refine wpList_make_full w rfl _ _ 38 rfl w.heap.size 3 i0 (.int .i64 0) 1 Tryz.underlying38 hi hz0 hz1 .i64 .i64 _ _ 0 rfl rfl (by omega) (by omega) (by rw [hz2];omega) (by unfold maxLen;omega) (Nat.le_refl _) ?_;intro w1 hown hgrow)
  go_ret
  exact FIN.out w1 hown hgrow (by omega)
 ·have H3 := hidb h3
  clear h3
  have h4 : ¬ pages < 0 := by omega
  go_enter Tryz.func134,Tryz.ntmps134
  go_wp2_with (at_make;refine wpList_make_full w rfl _ _ 38 rfl w.heap.size 3 i0 (.int .i64 0) 1 Tryz.underlying38 hi hz0 hz1 .i64 .i64 _ _ n rfl rfl (by have := H3.out;omega) (by have := H3.out;omega) (by have := H3.out;rw [hz2];omega) (by have := H3.out;unfold maxLen;omega) (Nat.le_refl _) ?_;intro w1 hown hgrow)
  go_ret
  exact FIN.out w1 hown hgrow (by have := H3.out;omega)
 ·have h4 : ¬ (1024 : Int) < n := by omega
  go_enter Tryz.func134,Tryz.ntmps134
  go_wp2_with (at_make;refine wpList_make_full w rfl _ _ 38 rfl w.heap.size 3 i0 (.int .i64 0) 1 Tryz.underlying38 hi hz0 hz1 .i64 .i64 _ _ n rfl rfl (by omega) (by omega) (by rw [hz2];omega) (by unfold maxLen;omega) (Nat.le_refl _) ?_;intro w1 hown hgrow)
  go_ret
  exact FIN.out w1 hown hgrow (by omega)
theorem yjq (pages : Int) (w : World) (h0 : in64 pages) :
  Calls Tryz.prog 134 #[.int .i64 pages] w (ResIx w (max 0 (min pages 1024)).toNat (xNew pages)) :=
 xK5 pages _ w (by omega) h0.1 h0.2
theorem code_xof {w : World} {B p g n : Nat} {ids : List Int} (hx : Ix w B p g n ids) (page : Int) (h0 : in64 page) :
  Calls Tryz.prog 236 #[.pointer (some ⟨p,0,none⟩),.int .i64 page] w fun e w' => e = .returned (.int .i64 (xOf ids page)) /\ w = w' := by
 obtain ⟨h00,h01⟩ := h0
 have hc := hx.cell
 have cp := xk9 p _ n n w hc
 have hl := hx.hlen
 have hsm := hx.small
 by_cases h1 : page < 0
 ·have E : xOf ids page = 0 := by unfold xOf;rw [if_neg (by omega)]
  rw [E];clear E hx cp hc hl
  go_enter Tryz.func236,Tryz.ntmps236
  go_wp2
  go_ret
  exact ⟨rfl,rfl⟩
 ·by_cases h2 : (n : Int) <= page
  ·have E : xOf ids page = 0 := by unfold xOf;rw [if_neg (by omega)]
   rw [E];clear E hx hl hc
   go_enter Tryz.func236,Tryz.ntmps236
   go_wp2_with (go_at_call 197;(with_reducible refine cp.mono ?_);rintro e w' ⟨rfl,rfl⟩)
   go_ret
   exact ⟨rfl,rfl⟩
  ·obtain ⟨k,hk⟩ : ∃ k : Nat,page = k := ⟨page.toNat,by omega⟩
   subst hk
   have E : xOf ids (k : Int) = ids.getD k 0 := by unfold xOf;rw [if_pos (by omega),Int.toNat_natCast]
   have hck := hx.int_ (j := k) (by omega)
   obtain ⟨y,hy⟩ : ∃ y,ids.getD k 0 = y := ⟨_,rfl⟩
   rw [hy] at E hck
   rw [E]
   have hk0 : (0 : Int) <= (k : Int) := by omega
   have hk1 : (k : Int) < (n : Int) := by omega
   clear E hx hl hy
   go_enter Tryz.func236,Tryz.ntmps236
   go_wp2_with (go_at_call 197;(with_reducible refine cp.mono ?_);rintro e w' ⟨rfl,rfl⟩)
   go_ret
   exact ⟨rfl,rfl⟩
theorem code_xof_nil (w : World) (page : Int) (h0 : in64 page) :
  Calls Tryz.prog 236 #[.pointer none,.int .i64 page] w fun e w' => e = .returned (.int .i64 0) /\ w = w' := by
 obtain ⟨h00,h01⟩ := h0
 have cp := xwz w
 by_cases h1 : page < 0
 ·clear cp
  go_enter Tryz.func236,Tryz.ntmps236
  go_wp2
  go_ret
  exact ⟨rfl,rfl⟩
 ·have h2 : (0 : Int) <= page := by omega
  go_enter Tryz.func236,Tryz.ntmps236
  go_wp2_with (go_at_call 197;(with_reducible refine cp.mono ?_);rintro e w' ⟨rfl,rfl⟩)
  go_ret
  exact ⟨rfl,rfl⟩
def pageOf (a : Int) : Int := if a < 0 then -1 else a / 64
theorem yxm (a : Int) (w : World) (h0 : in64 a) :
  Calls Tryz.prog 237 #[.int .i64 a] w fun e w' => e = .returned (.int .i64 (pageOf a)) /\ w = w' := by
 obtain ⟨h00,h01⟩ := h0
 unfold pageOf
 by_cases h1 : a < 0
 ·rw [if_pos h1]
  go_enter Tryz.func237,Tryz.ntmps237
  go_wp2
  go_ret
  exact ⟨rfl,rfl⟩
 ·rw [if_neg h1]
  have h2 : 0 <= a := by omega
  go_enter Tryz.func237,Tryz.ntmps237
  go_wp2
  go_ret
  exact ⟨rfl,rfl⟩
theorem xVw {a : Int} (h : in64 a) : in64 (pageOf a) := by
 unfold pageOf in64 at *
 split <;> omega
theorem code_xat {w : World} {B p g n : Nat} {ids : List Int} (hx : Ix w B p g n ids) (a : Int) (h0 : in64 a) :
  Calls Tryz.prog 184 #[.pointer (some ⟨p,0,none⟩),.int .i64 a] w fun e w' => e = .returned (.int .i64 (xOf ids (pageOf a))) /\ w = w' := by
 have c1 := yxm a w h0
 have c2 := code_xof hx (pageOf a) (xVw h0)
 clear hx
 go_enter Tryz.func184,Tryz.ntmps184
 go_wp2_with (first
  | (go_at_call 237;(with_reducible refine c1.mono ?_);rintro e w' ⟨rfl,rfl⟩)
  | (go_at_call 236;(with_reducible refine c2.mono ?_);rintro e w' ⟨rfl,rfl⟩))
 go_ret
 exact ⟨rfl,rfl⟩
def ResBool (w : World) (b : Bool) (e : Ending) (w' : World) : Prop := e = .returned (.bool b) /\ Below w.heap.size w w'
theorem code_xin {v : Value} {n : Nat} (r : Int × Int) (w : World) (hp : PagesAt w v n) (hn : n <= 1024) (hr : in64 r.1 /\ in64 r.2) :
  Calls Tryz.prog 261 #[v,.agg #[.int .i64 r.1,.int .i64 r.2]] w (ResBool w (xThere n r)) := by
 obtain ⟨s,l⟩ := r
 obtain ⟨⟨s0,s1⟩,l0,l1⟩ := hr
 simp only at s0 s1 l0 l1 ⊢
 have hb : Below w.heap.size w (w.alloc (.cells #[.int .i64 s,.int .i64 l] 47)) := (Below.refl _ _).alloc (Nat.le_refl _) _
 have cq := fun q => (hp.below hb).quiet q
 have FIN : Hid (∀ q b,b = xThere n (s,l) -> ResBool w (xThere n (s,l)) (.returned (.bool b)) ((w.alloc (.cells #[.int .i64 s,.int .i64 l] 47)).drewN q)) := hidb (fun q b h => by subst h;exact ⟨rfl,belowN hb q⟩)
 clear hb hp
 by_cases h1 : 0 <= s
 ·have d1 : decide (0 <= s) = true := decide_eq_true h1
  by_cases h2 : 1 <= l
  ·have d2 : decide (1 <= l) = true := decide_eq_true h2
   have hw : IntKind.i64.wrap ((n : Int) - s) = (n : Int) - s := IntWalk.i64_in _ (by omega)
   go_enter Tryz.func261,Tryz.ntmps261
   go_wp2
   go_quiet ((go_at_call 197;exact cq _))
   go_wp2
   go_ret
   exact FIN.out _ _ (by unfold xThere;rw [Bool.eq_iff_iff,decide_eq_true_iff,decide_eq_true_iff];simp only;omega)
  ·have d2 : decide (1 <= l) = false := decide_eq_false h2
   clear cq
   go_enter Tryz.func261,Tryz.ntmps261
   go_wp2
   go_quiet (fail)
   go_wp2
   go_ret
   exact FIN.out _ _ (by unfold xThere;exact (decide_eq_false (fun h => absurd h.1 (by simp only;omega))).symm)
 ·have d1 : decide (0 <= s) = false := decide_eq_false h1
  clear cq
  go_enter Tryz.func261,Tryz.ntmps261
  go_wp2
  go_quiet (fail)
  go_wp2
  go_ret
  exact FIN.out _ _ (by unfold xThere;exact (decide_eq_false (fun h => absurd h.2.1 (by simp only;omega))).symm)
theorem yxn {v : Value} {n t : Nat} (r : Int × Int) (w : World) (hc : w.cell? ⟨t,0,none⟩ = some v) (hp : PagesAt w v n) (hn : n <= 1024) (hr : in64 r.1 /\ in64 r.2) :
  Calls Tryz.prog 260 #[.agg #[.int .i64 r.1,.int .i64 r.2],.pointer (some ⟨t,0,none⟩)] w (ResBool w (!xThere n r)) := by
 have ht := xq0 hc
 have hb : Below w.heap.size w (w.alloc (.cells #[.int .i64 r.1,.int .i64 r.2] 47)) := (Below.refl _ _).alloc (Nat.le_refl _) _
 have hc' : (w.alloc (.cells #[.int .i64 r.1,.int .i64 r.2] 47)).cell? ⟨t,0,none⟩ = some v := by rw [World.cell?_alloc_lt _ _ _ ht];exact hc
 have c1 := code_xin r _ (hp.below hb) hn hr
 have HB := hidb hb
 obtain ⟨s,l⟩ := r
 clear hp hb hc ht
 cases hT : xThere n (s,l)
 all_goals
  rw [hT] at c1
  clear hT
  unfold ResBool at c1
  go_enter Tryz.func260,Tryz.ntmps260
  go_wp2_with (go_at_call 261;(with_reducible refine c1.mono ?_);rintro e w1 ⟨rfl,hb1⟩)
  go_ret
  exact ⟨rfl,nextB HB.out hb1⟩
def ResPlace (w : World) (b : Bool) (e : Ending) (w' : World) : Prop := (∃ r : Int,e = .returned (.int .i64 r) /\ -1 <= r /\ r <= 9223372036854775807 /\ decide (0 <= r) = b) /\ Below w.heap.size w w'
theorem yjr {v : Value} {n t : Nat} (A : Option Addr) (m c : Nat) (rs : List (Int × Int)) (w : World) (hc : w.cell? ⟨t,0,none⟩ = some v) (hp : PagesAt w v n) (hn : n <= 1024)
  (hs : Rn w w.heap.size A m rs) (hm : m <= 65536) (hr : ∀ r ∈ rs,in64 r.1 /\ in64 r.2) :
  Calls Tryz.prog 287 #[.slice A m c,.func (.func 260) #[] #[.pointer (some ⟨t,0,none⟩)]] w (ResPlace w (!rs.all (xThere n))) := by
 have HL := hidb hs.1
 have HS := hidb hs
 have HP := hidb hp
 have HR := hidb hr
 have HC := hidb hc
 have HT := hidb (xq0 hc)
 clear hs hp hr hc
 go_enter Tryz.func287,Tryz.ntmps287
 go_wp2
 go_loopw [8] (fun k wr => ∃ j : Nat,j <= m /\ Hid (∀ i r,i < j -> rs[i]? = some r -> xThere n r = true) /\ k = .int .i64 j /\ Below w.heap.size w wr) (fun k _ => (m - intOf k).toNat)
 case atStart => exact ⟨0,by omega,hidb (fun i r h => absurd h (Nat.not_lt_zero _)),rfl,Below.refl _ _⟩
 case round =>
  obtain ⟨j,hj,HA,rfl,hbel⟩ := hrel
  by_cases hlt : j < m
  ·obtain ⟨b,off,s,l,rfl,_,hx,hc1,hc2⟩ := (HS.out.below hbel).at_ hlt
   have hin := HR.out (s,l) (List.mem_of_getElem? hx)
   have c1 := yxn (t := t) (s,l) wr ((hbel.cell HT.out).trans HC.out) (HP.out.below hbel) hn hin
   have HX := hidb hx
   have HB := hidb hbel
   have hj0 : (0 : Int) <= (j : Int) := by omega
   have hj1 : (j : Int) < (m : Int) := by omega
   clear hx hin hbel
   cases hT : xThere n (s,l) with
   | true =>
    rw [hT] at c1
    unfold ResBool at c1
    have HA2 : Hid (∀ i r,i < j + 1 -> rs[i]? = some r -> xThere n r = true) := hidb (fun i r hi hir => by
     by_cases h : i = j
     ·subst h;rw [HX.out] at hir;injection hir with hir;rw [<- hir];exact hT
     ·exact HA.out i r (by omega) hir)
    clear hT
    go_wp2_with (go_at_call 260;(with_reducible refine c1.mono ?_);rintro e w1 ⟨rfl,hb1⟩)
    go_roundw
    case rel => exact ⟨j + 1,by omega,HA2,by go_num,nextB HB.out hb1⟩
    case measure => simp [intOf];omega
   | false =>
    rw [hT] at c1
    unfold ResBool at c1
    have HF : Hid (rs.all (xThere n) = false) := hidb (by
     rw [List.all_eq_false]
     exact ⟨(s,l),List.mem_of_getElem? HX.out,by rw [hT];simp⟩)
    clear hT
    go_wp2_with (go_at_call 260;(with_reducible refine c1.mono ?_);rintro e w1 ⟨rfl,hb1⟩)
    go_ret
    exact ⟨⟨j,rfl,by omega,by omega,by rw [HF.out];exact decide_eq_true (by omega)⟩,nextB HB.out hb1⟩
  ·have HF : Hid (rs.all (xThere n) = true) := hidb (List.all_eq_true.2 fun r hr => by
    obtain ⟨i,hi,rfl⟩ := List.getElem_of_mem hr
    exact HA.out i _ (by have := HL.out;omega) (List.getElem?_eq_getElem hi))
   have HB := hidb hbel
   clear hbel
   go_wp2
   go_ret
   exact ⟨⟨-1,rfl,by omega,by omega,by rw [HF.out];rfl⟩,HB.out⟩
theorem xQ0 {v : Value} {n t : Nat} (A : Option Addr) (m c : Nat) (rs : List (Int × Int)) (w : World) (hc : w.cell? ⟨t,0,none⟩ = some v) (hp : PagesAt w v n) (hn : n <= 1024)
  (hs : Rn w w.heap.size A m rs) (hm : m <= 65536) (hr : ∀ r ∈ rs,in64 r.1 /\ in64 r.2) :
  Calls Tryz.prog 259 #[.slice A m c,.func (.func 260) #[] #[.pointer (some ⟨t,0,none⟩)]] w (ResBool w (!rs.all (xThere n))) := by
 have c1 := yjr (t := t) A m c rs w hc hp hn hs hm hr
 unfold ResPlace at c1
 clear hc hp hs hr
 go_enter Tryz.func259,Tryz.ntmps259
 go_wp2_with (go_at_call 287;(with_reducible refine c1.mono ?_);rintro e w1 ⟨⟨r,rfl,h1,h2,h3⟩,hb1⟩)
 go_ret
 exact ⟨rfl,hb1⟩
def thrown (T : TypeId) : PanicEntry := { v := .iface T (.agg #[]),recovered := false }
structure Asks (k : FuncId) (caps : Array Value) (n G : Nat) (ok : List Nat -> Nat -> Bool) (I : List Nat -> World -> Prop) (W0 : World) : Prop where
 call : ∀ d p W,I d W -> p < n -> Calls Tryz.prog k (#[.int .i64 (p : Int)] ++ caps) W fun e w' => e = .returned (.bool (ok d p)) /\ W.grownBy w' (some G) /\ I (d ++ [p]) w'
 keep : ∀ d W W',I d W -> Below W.heap.size W W' -> I d W'
 base : ∀ d W,I d W -> Below W0.heap.size W0 W
def Threw (T : TypeId) (w : World) (e : Ending) (w' : World) : Prop := e = .panicked [thrown T] /\ Below w.heap.size w w'
theorem xjx {a : Option Addr} {f : Value} {n : Nat} (A : Option Addr) (m c : Nat) (rs : List (Int × Int)) (w : World) (hp : PagesAt w (.pointer a) n) (hn : n <= 1024)
  (hs : Rn w w.heap.size A m rs) (hm : m <= 65536) (hr : ∀ r ∈ rs,in64 r.1 /\ in64 r.2) (hT : rs.all (xThere n) = false) :
  Calls Tryz.prog 210 #[.pointer a,.slice A m c,f] w (Threw 314 w) := by
 have hb : Below w.heap.size w (w.alloc (.cells #[.pointer a] 153)) := (Below.refl _ _).alloc (Nat.le_refl _) _
 have c1 := xQ0 (v := .pointer a) (t := w.heap.size) A m c rs (w.alloc (.cells #[.pointer a] 153)) (by simp) (hp.below hb) hn ((hs.below hb).more hb.size) hm hr
 rw [hT] at c1
 unfold ResBool at c1
 have HB := hidb hb
 clear hp hs hr hb hT
 go_enter Tryz.func210,Tryz.ntmps210
 go_wp2_with (go_at_call 259;(with_reducible refine c1.mono ?_);rintro e w1 ⟨rfl,hb1⟩)
 exact ⟨rfl,rfl,nextB HB.out hb1⟩
def AskEnd (W0 : World) (ok : List Nat -> Nat -> Bool) (I : List Nat -> World -> Prop) (ps : List Nat) (e : Ending) (w' : World) : Prop :=
 (askAll ok [] ps = true /\ e = .returned (.tuple #[]) /\ I ps w') \/ (askAll ok [] ps = false /\ e = .panicked [thrown 315] /\ Below W0.heap.size W0 w')
theorem xX9 {w w' : World} {G : Nat} (hg : w.grownBy w' (some G)) {p : Addr} {v : Value} (hc : w.cell? p = some v) (hp : p.block ≠ G) : w'.cell? p = some v := hg.cell hc (fun e => hp (by injection e))
set_option maxHeartbeats 1000000 in
theorem yjs {a : Option Addr} {n G : Nat} {ok : List Nat -> Nat -> Bool} {I : List Nat -> World -> Prop} {caps : Array Value} (W0 : World) (A : Option Addr) (m c : Nat) (rs : List (Int × Int)) (w : World) (hp : PagesAt w (.pointer a) n) (hn : n <= 1024)
  (hs : Rn W0 W0.heap.size A m rs) (hm : m <= 65536) (hr : ∀ r ∈ rs,in64 r.1 /\ in64 r.2) (hT : rs.all (xThere n) = true)
  (hI : I [] w) (hq : Asks 286 caps n G ok I W0) (hG : G < w.heap.size) :
  Calls Tryz.prog 210 #[.pointer a,.slice A m c,.func (.func 286) #[] caps] w (AskEnd W0 ok I (pgs rs)) := by
 have hb : Below w.heap.size w (w.alloc (.cells #[.pointer a] 153)) := (Below.refl _ _).alloc (Nat.le_refl _) _
 have hB0 := hq.base _ _ hI
 have c1 := xQ0 (v := .pointer a) (t := w.heap.size) A m c rs (w.alloc (.cells #[.pointer a] 153)) (by simp) (hp.below hb) hn (((hs.below hB0).more hB0.size).below hb |>.more hb.size) hm hr
 rw [hT] at c1
 unfold ResBool at c1
 have HB := hidb hb
 have HQ := hidb hq
 have HS := hidb hs
 have HL := hidb hs.1
 have HT := hidb hT
 have HI := hidb (hq.keep _ _ _ hI hb)
 have HE0 : Hid (∀ w',askAll ok [] (pgs rs) = true -> I (pgs rs) w' -> AskEnd W0 ok I (pgs rs) (.returned (.tuple #[])) w') := hidb (fun w' h1 h2 => Or.inl ⟨h1,rfl,h2⟩)
 have HE1 : Hid (∀ d w',askAll ok [] (pgs rs) = false -> I d w' -> AskEnd W0 ok I (pgs rs) (.panicked [thrown 315]) w') := hidb (fun d w' h1 h2 => Or.inr ⟨h1,rfl,hq.base _ _ h2⟩)
 clear hp hs hr hb hT hq hI hB0
 go_enter Tryz.func210,Tryz.ntmps210
 go_wp2_with (go_at_call 259;(with_reducible refine c1.mono ?_);rintro e w1 ⟨rfl,hb1⟩)
 have I1 := hidb (HQ.out.keep _ _ _ HI.out hb1)
 have B1 := hidb (nextB HB.out hb1)
 have hG1 : G < w1.heap.size := by have := B1.out.size;omega
 clear hb1 c1
 go_loopw [16] (fun k wr => ∃ j : Nat,j <= m /\ k = .int .i64 j /\ Hid (askAll ok [] (pgs (rs.take j)) = true) /\ Hid (I (pgs (rs.take j)) wr) /\ G < wr.heap.size) (fun k _ => (m - intOf k).toNat)
 case atStart => exact ⟨0,by omega,rfl,hidb rfl,I1,hG1⟩
 case round =>
  obtain ⟨j,hj,rfl,HA,HI2,hGr⟩ := hrel
  by_cases hlt : j < m
  ·have hB := HQ.out.base _ _ HI2.out
   obtain ⟨b,off,s,l,rfl,_,hx,hc1,hc2⟩ := (HS.out.below hB).at_ hlt
   obtain ⟨t1,t2,t3,t4,t5⟩ := of_decide_eq_true (List.all_eq_true.1 HT.out (s,l) (List.mem_of_getElem? hx))
   simp only at t1 t2 t3 t4 t5
   obtain ⟨S,rfl⟩ : ∃ S : Nat,s = S := ⟨s.toNat,by omega⟩
   obtain ⟨L,rfl⟩ : ∃ L : Nat,l = L := ⟨l.toNat,by omega⟩
   have HTK : Hid (∀ i,pgs (rs.take j) ++ (List.range i).map (S + ·) ++ [S + i] = pgs (rs.take j) ++ (List.range (i + 1)).map (S + ·)) := hidb (fun i => by rw [List.range_succ,List.map_append,List.append_assoc];rfl)
   have HTJ : Hid (pgs (rs.take j) ++ (List.range L).map (S + ·) = pgs (rs.take (j + 1))) := hidb (by
    rw [List.take_add_one,hx]
    show _ = pgs (rs.take j ++ [((S : Int),(L : Int))])
    rw [xZ4];rfl)
   have HTA : Hid (∀ i,i < L -> ∃ q,pgs rs = (pgs (rs.take j) ++ (List.range (i + 1)).map (S + ·)) ++ q) := hidb (fun i hi => by
    obtain ⟨z,hz⟩ : ∃ z,L = i + 1 + z := ⟨L - (i + 1),by omega⟩
    refine ⟨(List.range z).map (fun k => S + (i + 1 + k)) ++ pgs (rs.drop (j + 1)),?_⟩
    conv => lhs;rw [<- List.take_append_drop (j + 1) rs,xQv,<- HTJ.out,hz,List.range_add]
    simp [List.append_assoc,Function.comp_def])
   have hj0 : (0 : Int) <= (j : Int) := by omega
   have hj1 : (j : Int) < (m : Int) := by omega
   have HRB : Hid (I (pgs (rs.take j)) (wr.alloc (.cells #[.int .i64 (S : Int),.int .i64 (L : Int)] 47))) := hidb (HQ.out.keep _ _ _ HI2.out ((Below.refl _ _).alloc (Nat.le_refl _) _))
   clear hB hx
   obtain ⟨wo,rfl⟩ : ∃ wo : World,wo = wr := ⟨_,rfl⟩
   go_wp2
   go_loopw [22] (fun k wr => ∃ i : Nat,i <= L /\ k = .int .i64 i /\ Hid (askAll ok [] (pgs (rs.take j) ++ (List.range i).map (S + ·)) = true) /\ Hid (I (pgs (rs.take j) ++ (List.range i).map (S + ·)) wr) /\ wo.heap.size < wr.heap.size /\ wr.cell? ⟨wo.heap.size,0,none⟩ = some (.int .i64 S)) (fun k _ => (L - intOf k).toNat)
   case atStart => exact ⟨0,by omega,rfl,by simpa using HA,by simpa using HRB,by simp,by simp⟩
   case round =>
    obtain ⟨i,hi,rfl,HA3,HI3,hsz,hcs⟩ := hrel
    by_cases hil : i < L
    ·have cq := HQ.out.call _ (S + i) wr HI3.out (by omega)
     rw [Int.natCast_add] at cq
     have hne : wo.heap.size ≠ G := by omega
     cases hok : ok (pgs (rs.take j) ++ (List.range i).map (S + ·)) (S + i) with
     | true =>
      rw [hok] at cq
      have HA4 : Hid (askAll ok [] (pgs (rs.take j) ++ (List.range (i + 1)).map (S + ·)) = true) := hidb (by
       rw [<- HTK.out,xz2,HA3.out,List.nil_append,hok];rfl)
      clear hok
      go_wp2_with (go_at_call 286;(with_reducible refine cq.mono ?_);rintro e w3 ⟨rfl,hg3,hI3⟩)
      have HI4 : Hid (I (pgs (rs.take j) ++ (List.range (i + 1)).map (S + ·)) w3) := hidb (by rw [<- HTK.out];exact hI3)
      have hsz3 := hg3.size
      have HC3 := hidb (xX9 hg3 hcs hne)
      clear hg3 hI3
      go_roundw
      case rel => exact ⟨i + 1,by omega,by go_num,HA4,HI4,by omega,HC3.out⟩
      case measure => simp [intOf];omega
     | false =>
      rw [hok] at cq
      have HF : Hid (askAll ok [] (pgs rs) = false) := hidb (by
       obtain ⟨q,hq⟩ := HTA.out i hil
       rw [hq]
       refine xzu ok q _ [] ?_
       rw [<- HTK.out,xz2,HA3.out,List.nil_append,hok];rfl)
      clear hok
      go_wp2_with (go_at_call 286;(with_reducible refine cq.mono ?_);rintro e w3 ⟨rfl,hg3,hI3⟩)
      exact ⟨rfl,HE1.out _ _ HF.out hI3⟩
    ·have hiL : Hid (i = L) := hidb (by omega)
     have HA5 : Hid (askAll ok [] (pgs (rs.take (j + 1))) = true) := hidb (by rw [<- HTJ.out,<- hiL.out];exact HA3.out)
     have HI5 : Hid (I (pgs (rs.take (j + 1))) wr) := hidb (by rw [<- HTJ.out,<- hiL.out];exact HI3.out)
     go_wp2
     go_roundw
     case rel => exact ⟨j + 1,by omega,by go_num,HA5,HI5,by omega⟩
     case measure => simp [intOf];omega
  ·have hall : Hid (rs.take j = rs) := hidb (List.take_of_length_le (by have := HL.out;omega))
   have P : Hid (AskEnd W0 ok I (pgs rs) (.returned (.tuple #[])) wr) := hidb (HE0.out wr (by have := HA.out;rwa [hall.out] at this) (by have := HI2.out;rwa [hall.out] at this))
   go_wp2
   exact bodyPost_ret (v := .tuple #[]) (by simp [results,Tryz.results210,go_sem]) rfl P.out
set_option maxHeartbeats 1000000 in
theorem xZq {a : Option Addr} {n G : Nat} {ok : List Nat -> Nat -> Bool} {I : List Nat -> World -> Prop} {caps : Array Value} (W0 : World) (A : Option Addr) (m c : Nat) (rs : List (Int × Int)) (w : World) (hp : PagesAt w (.pointer a) n) (hn : n <= 1024)
  (hs : Rn W0 W0.heap.size A m rs) (hm : m <= 65536) (hr : ∀ r ∈ rs,in64 r.1 /\ in64 r.2) (hT : rs.all (xThere n) = true)
  (hI : I [] w) (hq : Asks 211 caps n G ok I W0) (hG : G < w.heap.size) :
  Calls Tryz.prog 210 #[.pointer a,.slice A m c,.func (.func 211) #[] caps] w (AskEnd W0 ok I (pgs rs)) := by
 have hb : Below w.heap.size w (w.alloc (.cells #[.pointer a] 153)) := (Below.refl _ _).alloc (Nat.le_refl _) _
 have hB0 := hq.base _ _ hI
 have c1 := xQ0 (v := .pointer a) (t := w.heap.size) A m c rs (w.alloc (.cells #[.pointer a] 153)) (by simp) (hp.below hb) hn (((hs.below hB0).more hB0.size).below hb |>.more hb.size) hm hr
 rw [hT] at c1
 unfold ResBool at c1
 have HB := hidb hb
 have HQ := hidb hq
 have HS := hidb hs
 have HL := hidb hs.1
 have HT := hidb hT
 have HI := hidb (hq.keep _ _ _ hI hb)
 have HE0 : Hid (∀ w',askAll ok [] (pgs rs) = true -> I (pgs rs) w' -> AskEnd W0 ok I (pgs rs) (.returned (.tuple #[])) w') := hidb (fun w' h1 h2 => Or.inl ⟨h1,rfl,h2⟩)
 have HE1 : Hid (∀ d w',askAll ok [] (pgs rs) = false -> I d w' -> AskEnd W0 ok I (pgs rs) (.panicked [thrown 315]) w') := hidb (fun d w' h1 h2 => Or.inr ⟨h1,rfl,hq.base _ _ h2⟩)
 clear hp hs hr hb hT hq hI hB0
 go_enter Tryz.func210,Tryz.ntmps210
 go_wp2_with (go_at_call 259;(with_reducible refine c1.mono ?_);rintro e w1 ⟨rfl,hb1⟩)
 have I1 := hidb (HQ.out.keep _ _ _ HI.out hb1)
 have B1 := hidb (nextB HB.out hb1)
 have hG1 : G < w1.heap.size := by have := B1.out.size;omega
 clear hb1 c1
 go_loopw [16] (fun k wr => ∃ j : Nat,j <= m /\ k = .int .i64 j /\ Hid (askAll ok [] (pgs (rs.take j)) = true) /\ Hid (I (pgs (rs.take j)) wr) /\ G < wr.heap.size) (fun k _ => (m - intOf k).toNat)
 case atStart => exact ⟨0,by omega,rfl,hidb rfl,I1,hG1⟩
 case round =>
  obtain ⟨j,hj,rfl,HA,HI2,hGr⟩ := hrel
  by_cases hlt : j < m
  ·have hB := HQ.out.base _ _ HI2.out
   obtain ⟨b,off,s,l,rfl,_,hx,hc1,hc2⟩ := (HS.out.below hB).at_ hlt
   obtain ⟨t1,t2,t3,t4,t5⟩ := of_decide_eq_true (List.all_eq_true.1 HT.out (s,l) (List.mem_of_getElem? hx))
   simp only at t1 t2 t3 t4 t5
   obtain ⟨S,rfl⟩ : ∃ S : Nat,s = S := ⟨s.toNat,by omega⟩
   obtain ⟨L,rfl⟩ : ∃ L : Nat,l = L := ⟨l.toNat,by omega⟩
   have HTK : Hid (∀ i,pgs (rs.take j) ++ (List.range i).map (S + ·) ++ [S + i] = pgs (rs.take j) ++ (List.range (i + 1)).map (S + ·)) := hidb (fun i => by rw [List.range_succ,List.map_append,List.append_assoc];rfl)
   have HTJ : Hid (pgs (rs.take j) ++ (List.range L).map (S + ·) = pgs (rs.take (j + 1))) := hidb (by
    rw [List.take_add_one,hx]
    show _ = pgs (rs.take j ++ [((S : Int),(L : Int))])
    rw [xZ4];rfl)
   have HTA : Hid (∀ i,i < L -> ∃ q,pgs rs = (pgs (rs.take j) ++ (List.range (i + 1)).map (S + ·)) ++ q) := hidb (fun i hi => by
    obtain ⟨z,hz⟩ : ∃ z,L = i + 1 + z := ⟨L - (i + 1),by omega⟩
    refine ⟨(List.range z).map (fun k => S + (i + 1 + k)) ++ pgs (rs.drop (j + 1)),?_⟩
    conv => lhs;rw [<- List.take_append_drop (j + 1) rs,xQv,<- HTJ.out,hz,List.range_add]
    simp [List.append_assoc,Function.comp_def])
   have hj0 : (0 : Int) <= (j : Int) := by omega
   have hj1 : (j : Int) < (m : Int) := by omega
   have HRB : Hid (I (pgs (rs.take j)) (wr.alloc (.cells #[.int .i64 (S : Int),.int .i64 (L : Int)] 47))) := hidb (HQ.out.keep _ _ _ HI2.out ((Below.refl _ _).alloc (Nat.le_refl _) _))
   clear hB hx
   obtain ⟨wo,rfl⟩ : ∃ wo : World,wo = wr := ⟨_,rfl⟩
   go_wp2
   go_loopw [22] (fun k wr => ∃ i : Nat,i <= L /\ k = .int .i64 i /\ Hid (askAll ok [] (pgs (rs.take j) ++ (List.range i).map (S + ·)) = true) /\ Hid (I (pgs (rs.take j) ++ (List.range i).map (S + ·)) wr) /\ wo.heap.size < wr.heap.size /\ wr.cell? ⟨wo.heap.size,0,none⟩ = some (.int .i64 S)) (fun k _ => (L - intOf k).toNat)
   case atStart => exact ⟨0,by omega,rfl,by simpa using HA,by simpa using HRB,by simp,by simp⟩
   case round =>
    obtain ⟨i,hi,rfl,HA3,HI3,hsz,hcs⟩ := hrel
    by_cases hil : i < L
    ·have cq := HQ.out.call _ (S + i) wr HI3.out (by omega)
     rw [Int.natCast_add] at cq
     have hne : wo.heap.size ≠ G := by omega
     cases hok : ok (pgs (rs.take j) ++ (List.range i).map (S + ·)) (S + i) with
     | true =>
      rw [hok] at cq
      have HA4 : Hid (askAll ok [] (pgs (rs.take j) ++ (List.range (i + 1)).map (S + ·)) = true) := hidb (by
       rw [<- HTK.out,xz2,HA3.out,List.nil_append,hok];rfl)
      clear hok
      go_wp2_with (go_at_call 211;(with_reducible refine cq.mono ?_);rintro e w3 ⟨rfl,hg3,hI3⟩)
      have HI4 : Hid (I (pgs (rs.take j) ++ (List.range (i + 1)).map (S + ·)) w3) := hidb (by rw [<- HTK.out];exact hI3)
      have hsz3 := hg3.size
      have HC3 := hidb (xX9 hg3 hcs hne)
      clear hg3 hI3
      go_roundw
      case rel => exact ⟨i + 1,by omega,by go_num,HA4,HI4,by omega,HC3.out⟩
      case measure => simp [intOf];omega
     | false =>
      rw [hok] at cq
      have HF : Hid (askAll ok [] (pgs rs) = false) := hidb (by
       obtain ⟨q,hq⟩ := HTA.out i hil
       rw [hq]
       refine xzu ok q _ [] ?_
       rw [<- HTK.out,xz2,HA3.out,List.nil_append,hok];rfl)
      clear hok
      go_wp2_with (go_at_call 211;(with_reducible refine cq.mono ?_);rintro e w3 ⟨rfl,hg3,hI3⟩)
      exact ⟨rfl,HE1.out _ _ HF.out hI3⟩
    ·have hiL : Hid (i = L) := hidb (by omega)
     have HA5 : Hid (askAll ok [] (pgs (rs.take (j + 1))) = true) := hidb (by rw [<- HTJ.out,<- hiL.out];exact HA3.out)
     have HI5 : Hid (I (pgs (rs.take (j + 1))) wr) := hidb (by rw [<- HTJ.out,<- hiL.out];exact HI3.out)
     go_wp2
     go_roundw
     case rel => exact ⟨j + 1,by omega,by go_num,HA5,HI5,by omega⟩
     case measure => simp [intOf];omega
  ·have hall : Hid (rs.take j = rs) := hidb (List.take_of_length_le (by have := HL.out;omega))
   have P : Hid (AskEnd W0 ok I (pgs rs) (.returned (.tuple #[])) wr) := hidb (HE0.out wr (by have := HA.out;rwa [hall.out] at this) (by have := HI2.out;rwa [hall.out] at this))
   go_wp2
   exact bodyPost_ret (v := .tuple #[]) (by simp [results,Tryz.results210,go_sem]) rfl P.out
def Wrote (w : World) (B p g n : Nat) (ids : List Int) (e : Ending) (w' : World) : Prop := e = .returned (.tuple #[]) /\ Ix w' B p g n ids /\ w.grownBy w' (some g)
theorem Ix.drew {w : World} {B p g n : Nat} {ids : List Int} (h : Ix w B p g n ids) : Ix w.drew B p g n ids := ⟨h.cell,h.heap,h.hlen,h.ge,h.geg,h.ne,h.small⟩
theorem Rn.grown {w w' : World} {g m : Nat} {A : Option Addr} {rs : List (Int × Int)} (h : Rn w w.heap.size A m rs) (hap : ∀ b off,0 < m -> A = some ⟨b,off,none⟩ -> b ≠ g) (hg : w.grownBy w' (some g)) : Rn w' w'.heap.size A m rs :=
 ⟨h.1,fun hn => by
  obtain ⟨b,off,e,hb,hc⟩ := h.2 hn
  have hne := hap b off hn e
  refine ⟨b,off,e,Nat.lt_of_lt_of_le hb hg.size,fun j r hj => ?_⟩
  obtain ⟨h1,h2⟩ := hc j r hj
  exact ⟨hg.cell h1 (fun e => hne (by injection e)),hg.cell h2 (fun e => hne (by injection e))⟩⟩
set_option maxHeartbeats 1000000 in
theorem xQ1 {p g n B : Nat} {ids : List Int} (id : Int) (A : Option Addr) (m c : Nat) (rs : List (Int × Int)) (w : World) (hx : Ix w B p g n ids) (hap : ∀ b off,0 < m -> A = some ⟨b,off,none⟩ -> b ≠ g)
  (hs : Rn w w.heap.size A m rs) (hm : m <= 65536) (hT : rs.all (xThere n) = true) :
  Calls Tryz.prog 212 #[.pointer (some ⟨p,0,none⟩),.int .i64 id,.slice A m c] w (Wrote w B p g n (writeAll ids id (pgs rs))) := by
 have HS := hidb hs
 have HL := hidb hs.1
 have HT := hidb hT
 have HX := hidb hx
 have HAP := hidb hap
 have hne := hx.ne
 have hn := hx.small
 clear hs hT hx hap
 go_enter Tryz.func212,Tryz.ntmps212
 go_wp2
 go_loopw [11] (fun k wr => ∃ j : Nat,j <= m /\ k = .int .i64 j /\ Hid (Ix wr B p g n (writeAll ids id (pgs (rs.take j)))) /\ Hid (w.grownBy wr (some g))) (fun k _ => (m - intOf k).toNat)
 case atStart => exact ⟨0,by omega,rfl,HX,hidb (xvd _)⟩
 case round =>
  obtain ⟨j,hj,rfl,HI,HG⟩ := hrel
  by_cases hlt : j < m
  ·obtain ⟨b,off,s,l,rfl,_,hx,hc1,hc2⟩ := (HS.out.grown HAP.out HG.out).at_ hlt
   obtain ⟨t1,t2,t3,t4,t5⟩ := of_decide_eq_true (List.all_eq_true.1 HT.out (s,l) (List.mem_of_getElem? hx))
   simp only at t1 t2 t3 t4 t5
   obtain ⟨S,rfl⟩ : ∃ S : Nat,s = S := ⟨s.toNat,by omega⟩
   obtain ⟨L,rfl⟩ : ∃ L : Nat,l = L := ⟨l.toNat,by omega⟩
   have HTK : Hid (∀ i,pgs (rs.take j) ++ (List.range i).map (S + ·) ++ [S + i] = pgs (rs.take j) ++ (List.range (i + 1)).map (S + ·)) := hidb (fun i => by rw [List.range_succ,List.map_append,List.append_assoc];rfl)
   have HTJ : Hid (pgs (rs.take j) ++ (List.range L).map (S + ·) = pgs (rs.take (j + 1))) := hidb (by
    rw [List.take_add_one,hx]
    show _ = pgs (rs.take j ++ [((S : Int),(L : Int))])
    rw [xZ4];rfl)
   have hj0 : (0 : Int) <= (j : Int) := by omega
   have hj1 : (j : Int) < (m : Int) := by omega
   have hlg := HI.out.lt
   have hlp := HI.out.ltp
   have HI2 : Hid (Ix (wr.alloc (.cells #[.int .i64 (S : Int),.int .i64 (L : Int)] 47)) B p g n (writeAll ids id (pgs (rs.take j)))) := hidb (HI.out.alloc _)
   have HG2 : Hid (w.grownBy (wr.alloc (.cells #[.int .i64 (S : Int),.int .i64 (L : Int)] 47)) (some g)) := hidb (xk7 HG.out _)
   clear hx
   obtain ⟨wo,rfl⟩ : ∃ wo : World,wo = wr := ⟨_,rfl⟩
   go_wp2
   go_loopw [17] (fun k wr => ∃ i : Nat,i <= L /\ k = .int .i64 i /\ Hid (Ix wr B p g n (writeAll ids id (pgs (rs.take j) ++ (List.range i).map (S + ·)))) /\ Hid (w.grownBy wr (some g)) /\ wr.cell? ⟨wo.heap.size,0,none⟩ = some (.int .i64 S)) (fun k _ => (L - intOf k).toNat)
   case atStart => exact ⟨0,by omega,rfl,by simpa using HI2,HG2,by simp⟩
   case round =>
    obtain ⟨i,hi,rfl,HI3,HG3,hcs⟩ := hrel
    by_cases hil : i < L
    ·have hcp := HI3.out.cell
     have hf := HI3.out.free (S + i)
     have hcg := HI3.out.int_ (j := S + i) (by omega)
     obtain ⟨y,hy⟩ : ∃ y,(writeAll ids id (pgs (rs.take j) ++ (List.range i).map (S + ·))).getD (S + i) 0 = y := ⟨_,rfl⟩
     rw [hy] at hcg
     have hso0 : (0 : Int) <= (S : Int) + (i : Int) := by omega
     have hso1 : (S : Int) + (i : Int) < (n : Int) := by omega
     have hbn : ((S : Int) + (i : Int)).toNat = S + i := by omega
     have HI4 : Hid (Ix ((wr.setCell ⟨g,S + i,none⟩ (.int .i64 id)).drew) B p g n (writeAll ids id (pgs (rs.take j) ++ (List.range (i + 1)).map (S + ·)))) := hidb (by
      rw [<- HTK.out,xzt];exact (HI3.out.set (S + i) id).drew)
     have HG4 : Hid (w.grownBy ((wr.setCell ⟨g,S + i,none⟩ (.int .i64 id)).drew) (some g)) := hidb (xX8 (xz6 HG3.out (S + i) _))
     have HC4 : Hid (((wr.setCell ⟨g,S + i,none⟩ (.int .i64 id)).drew).cell? ⟨wo.heap.size,0,none⟩ = some (.int .i64 S)) := hidb (by
      show (wr.setCell _ _).cell? _ = _
      rw [World.cell?_setCell_other _ _ _ _ (fun e => by injection e with e1;omega)];exact hcs)
     clear hy
     go_wp2
     go_region
     go_wp2
     go_roundw
     case rel => exact ⟨i + 1,by omega,by go_num,HI4,HG4,HC4.out⟩
     case measure => simp [intOf];omega
    ·have hiL : Hid (i = L) := hidb (by omega)
     have HI5 : Hid (Ix wr B p g n (writeAll ids id (pgs (rs.take (j + 1))))) := hidb (by rw [<- HTJ.out,<- hiL.out];exact HI3.out)
     go_wp2
     go_roundw
     case rel => exact ⟨j + 1,by omega,by go_num,HI5,HG3⟩
     case measure => simp [intOf];omega
  ·have hall : Hid (rs.take j = rs) := hidb (List.take_of_length_le (by have := HL.out;omega))
   have P : Hid (Wrote w B p g n (writeAll ids id (pgs rs)) (.returned (.tuple #[])) wr) := hidb ⟨rfl,by have := HI.out;rwa [hall.out] at this,HG.out⟩
   go_wp2
   exact bodyPost_ret (v := .tuple #[]) (by simp [results,Tryz.results212,go_sem]) rfl P.out
theorem nl_yes (W : World) (v : Value) : (Instr.typeAssert (.iface 277 v) 20 277 true).run Tryz.prog W = .ok (.tuple #[v,.bool true]) W := by kernel_rfl
theorem nl_no2 (W : World) (v : Value) : (Instr.typeAssert (.iface 314 v) 20 277 true).run Tryz.prog W = .ok (.tuple #[.agg #[],.bool false]) W := by kernel_rfl
theorem nl_no3 (W : World) (v : Value) : (Instr.typeAssert (.iface 315 v) 20 277 true).run Tryz.prog W = .ok (.tuple #[.agg #[],.bool false]) W := by kernel_rfl
theorem ms_yes (W : World) (v : Value) : (Instr.typeAssert (.iface 314 v) 20 314 true).run Tryz.prog W = .ok (.tuple #[v,.bool true]) W := by kernel_rfl
theorem ms_no3 (W : World) (v : Value) : (Instr.typeAssert (.iface 315 v) 20 314 true).run Tryz.prog W = .ok (.tuple #[.agg #[],.bool false]) W := by kernel_rfl
theorem ow_yes (W : World) (v : Value) : (Instr.typeAssert (.iface 315 v) 20 315 true).run Tryz.prog W = .ok (.tuple #[v,.bool true]) W := by kernel_rfl
theorem xje (W : World) (T : TypeId) (v : Value) : (binOp .eql 20 (.iface T v) .nilIface).run Tryz.prog W = .ok (.bool false) W := by kernel_rfl
theorem xZr (W : World) : (binOp .eql 20 .nilIface .nilIface).run Tryz.prog W = .ok (.bool true) W := by kernel_rfl
theorem xks (w : World) :
  Calls Tryz.prog 209 #[.nilIface] w fun e w' => e = .returned (.int .i64 0) /\ w = w' := by
 have q := xZr
 go_enter Tryz.func209,Tryz.ntmps209
 go_wp2
 go_ret
 exact ⟨rfl,rfl⟩
theorem yxo (w : World) :
  Calls Tryz.prog 209 #[.iface 277 (.agg #[])] w fun e w' => e = .returned (.int .i64 1) /\ w' = w.alloc (.cells #[] 277) := by
 have q := fun W => xje W 277 (.agg #[])
 have q1 := nl_yes
 go_enter Tryz.func209,Tryz.ntmps209
 go_wp2
 go_ret
 exact ⟨rfl,rfl⟩
theorem xXa (w : World) :
  Calls Tryz.prog 209 #[.iface 314 (.agg #[])] w fun e w' => e = .returned (.int .i64 2) /\ w' = w.alloc (.cells #[] 314) := by
 have q := fun W => xje W 314 (.agg #[])
 have q1 := nl_no2
 have q2 := ms_yes
 go_enter Tryz.func209,Tryz.ntmps209
 go_wp2
 go_ret
 exact ⟨rfl,rfl⟩
theorem xXb (w : World) :
  Calls Tryz.prog 209 #[.iface 315 (.agg #[])] w fun e w' => e = .returned (.int .i64 9) /\ w' = w.alloc (.cells #[] 315) := by
 have q := fun W => xje W 315 (.agg #[])
 have q1 := nl_no3
 have q2 := ms_no3
 have q3 := ow_yes
 go_enter Tryz.func209,Tryz.ntmps209
 go_wp2
 go_ret
 exact ⟨rfl,rfl⟩
def TellsAs (T : TypeId) (no : Int) : Prop := ∀ w : World,Calls Tryz.prog 209 #[.iface T (.agg #[])] w fun e w' => e = .returned (.int .i64 no) /\ w' = w.alloc (.cells #[] T)
theorem xXc (T : TypeId) (no : Int) (ht : TellsAs T no) (p : Addr) (x : Int) (w : World) (hb : p.block < w.heap.size) (hc : w.cell? p = some (.int .i64 x)) (hz : w.frozen? p = false) :
  CallsD Tryz.prog 285 #[.pointer (some p)] (.panicking [thrown T]) w fun e u' w' =>
   e = .returned (.tuple #[]) /\ u' = .panicking [{ thrown T with recovered := true }] /\ w' = (w.alloc (.cells #[] T)).setCell p (.int .i64 no) := by
 have hz' : (w.alloc (.cells #[] T)).frozen? p = false := by rw [((Below.refl w.heap.size w).alloc (Nat.le_refl _) _).frozen hb];exact hz
 have hc' : (w.alloc (.cells #[] T)).cell? p = some (.int .i64 x) := by rw [World.cell?_alloc_lt _ _ _ hb];exact hc
 refine callsD_of_wpS Tryz.func285 rfl fun c₀ cs' hu => ?_
 change Code.wpS _ _ _ { tmps := #[.pointer (some p),undef,undef],defers := [] } _ _
 unfold thrown at hu
 apply wpS_region
 simp [wpOpsS,go_sem,recoverD,hu]
 refine (ht _).mono ?_
 rintro e w' ⟨rfl,rfl⟩
 simp [go_sem,hz',hc',bodyPostS,results,Tryz.results285,thrown]
theorem yjt (p : Addr) (x : Int) (w : World) (hc : w.cell? p = some (.int .i64 x)) (hz : w.frozen? p = false) :
  CallsD Tryz.prog 285 #[.pointer (some p)] .returning w fun e u' w' => e = .returned (.tuple #[]) /\ u' = .returning /\ w' = w.setCell p (.int .i64 0) := by
 refine callsD_of_wpS Tryz.func285 rfl fun c₀ cs' hu => ?_
 change Code.wpS _ _ _ { tmps := #[.pointer (some p),undef,undef],defers := [] } _ _
 apply wpS_region
 simp [wpOpsS,go_sem,recoverD,hu]
 refine (xks _).mono ?_
 rintro e w' ⟨rfl,rfl⟩
 simp [go_sem,hz,hc,bodyPostS,results,Tryz.results285]
 cases c₀
 simp_all
theorem xQ2 (T : TypeId) (no : Int) (ht : TellsAs T no) (p : Addr) (x : Int) (w : World) (hb : p.block < w.heap.size) (hc : w.cell? p = some (.int .i64 x)) (hz : w.frozen? p = false) :
  CallsD Tryz.prog 208 #[.pointer (some p)] (.panicking [thrown T]) w fun e u' w' =>
   e = .returned (.tuple #[]) /\ u' = .panicking [{ thrown T with recovered := true }] /\ w' = (w.alloc (.cells #[] T)).setCell p (.int .i64 no) := by
 have hz' : (w.alloc (.cells #[] T)).frozen? p = false := by rw [((Below.refl w.heap.size w).alloc (Nat.le_refl _) _).frozen hb];exact hz
 have hc' : (w.alloc (.cells #[] T)).cell? p = some (.int .i64 x) := by rw [World.cell?_alloc_lt _ _ _ hb];exact hc
 refine callsD_of_wpS Tryz.func208 rfl fun c₀ cs' hu => ?_
 change Code.wpS _ _ _ { tmps := #[.pointer (some p),undef,undef],defers := [] } _ _
 unfold thrown at hu
 apply wpS_region
 simp [wpOpsS,go_sem,recoverD,hu]
 refine (ht _).mono ?_
 rintro e w' ⟨rfl,rfl⟩
 simp [go_sem,hz',hc',bodyPostS,results,Tryz.results208,thrown]
theorem idle_set (p : Addr) (x : Int) (w : World) (hc : w.cell? p = some (.int .i64 x)) (hz : w.frozen? p = false) :
  CallsD Tryz.prog 208 #[.pointer (some p)] .returning w fun e u' w' => e = .returned (.tuple #[]) /\ u' = .returning /\ w' = w.setCell p (.int .i64 0) := by
 refine callsD_of_wpS Tryz.func208 rfl fun c₀ cs' hu => ?_
 change Code.wpS _ _ _ { tmps := #[.pointer (some p),undef,undef],defers := [] } _ _
 apply wpS_region
 simp [wpOpsS,go_sem,recoverD,hu]
 refine (xks _).mono ?_
 rintro e w' ⟨rfl,rfl⟩
 simp [go_sem,hz,hc,bodyPostS,results,Tryz.results208]
 cases c₀
 simp_all
theorem xVx {p g n : Nat} {ids : List Int} {B t : Nat} (w : World) (hx : Ix w B p g n ids) (hc : w.cell? ⟨t,0,none⟩ = some (.pointer (some ⟨p,0,none⟩))) (page : Nat) (hp : page < n) :
  Calls Tryz.prog 286 #[.int .i64 (page : Int),.pointer (some ⟨t,0,none⟩)] w fun e w' => e = .returned (.bool (ids.getD page 0 != 0)) /\ w = w' := by
 have h1 := hx.cell
 have h2 := hx.int_ hp
 have h3 := hx.small
 obtain ⟨y,hy⟩ : ∃ y,ids.getD page 0 = y := ⟨_,rfl⟩
 rw [hy] at h2 ⊢
 have hp0 : (0 : Int) <= (page : Int) := by omega
 have hp1 : (page : Int) < (n : Int) := by omega
 clear hx hy
 go_enter Tryz.func286,Tryz.ntmps286
 go_wp2
 go_ret
 exact ⟨rfl,rfl⟩
def metRow (n : Nat) (d : List Nat) : List Value := (List.range n).map fun q => .bool (d.contains q)
theorem xkt (n : Nat) (d : List Nat) (q : Nat) (hq : q < n) : (metRow n d)[q]? = some (.bool (d.contains q)) := by
 unfold metRow;rw [List.getElem?_map,List.getElem?_range hq];rfl
theorem yxp (n : Nat) (d : List Nat) (p : Nat) (hp : p < n) : (metRow n d).set p (.bool true) = metRow n (d ++ [p]) := by
 apply List.ext_getElem?
 intro q
 by_cases hq : q < n
 ·rw [List.getElem?_set,xkt n _ q hq,xkt n _ q hq]
  by_cases h : p = q
  ·subst h;simp [metRow,hp]
  ·simp [h,Ne.symm h]
 ·rw [List.getElem?_eq_none (by simp [metRow];omega),List.getElem?_eq_none (by simp [metRow];omega)]
structure SetI (W0 : World) (B p g n : Nat) (ids : List Int) (tm gm tx : Nat) (d : List Nat) (W : World) : Prop where
 ix : Ix W B p g n ids
 cm : W.cell? ⟨tm,0,none⟩ = some (.slice (some ⟨gm,0,none⟩) n n)
 cx : W.cell? ⟨tx,0,none⟩ = some (.pointer (some ⟨p,0,none⟩))
 met : W.heap[gm]? = some (.cells (metRow n d).toArray 4 (0,0))
 bel : Below W0.heap.size W0 W
 gge : W0.heap.size <= gm
 np : p ≠ gm
 ng : g ≠ gm
 nm : tm ≠ gm
 nx : tx ≠ gm
theorem SetI.keep {W0 W W' : World} {B p g n : Nat} {ids : List Int} {tm gm tx : Nat} {d : List Nat} (h : SetI W0 B p g n ids tm gm tx d W) (hb : Below W.heap.size W W') : SetI W0 B p g n ids tm gm tx d W' :=
 ⟨h.ix.below hb (Nat.le_refl _),(hb.cell (xq0 h.cm)).trans h.cm,(hb.cell (xq0 h.cx)).trans h.cx,(hb.block _ (Array.getElem?_eq_some_iff.1 h.met).1).trans h.met,h.bel.trans (hb.mono h.bel.size),h.gge,h.np,h.ng,h.nm,h.nx⟩
theorem yxq {W0 : World} {B p g n : Nat} {ids : List Int} {tm gm tx : Nat} (d : List Nat) (page : Nat) (W : World) (h : SetI W0 B p g n ids tm gm tx d W) (hp : page < n) :
  Calls Tryz.prog 211 #[.int .i64 (page : Int),.pointer (some ⟨tm,0,none⟩),.pointer (some ⟨tx,0,none⟩)] W fun e w' => e = .returned (.bool (okOne ids false d page)) /\ W.grownBy w' (some gm) /\ SetI W0 B p g n ids tm gm tx (d ++ [page]) w' := by
 have h1 := h.ix.cell
 have h2 := h.ix.int_ hp
 have h3 := h.ix.small
 have h4 := h.cm
 have h5 := h.cx
 have h6 : W.cell? ⟨gm,page,none⟩ = some (.bool (d.contains page)) := by simp [World.cell?,h.met,xkt n d page hp]
 have h7 : W.frozen? ⟨gm,page,none⟩ = false := by simp [World.frozen?,h.met]
 have HK : Hid (W.grownBy (W.setCell ⟨gm,page,none⟩ (.bool true)) (some gm) /\ SetI W0 B p g n ids tm gm tx (d ++ [page]) (W.setCell ⟨gm,page,none⟩ (.bool true))) := hidb (by
  have hg : W.grownBy (W.setCell ⟨gm,page,none⟩ (.bool true)) (some gm) := xz6 (xvd W) page _
  refine ⟨hg,h.ix.grown hg h.np h.ng,hg.cell h.cm (fun e => h.nm (by injection e)),hg.cell h.cx (fun e => h.nx (by injection e)),?_,h.bel.grown hg h.bel.size (fun k hk => by cases hk;exact h.gge),h.gge,h.np,h.ng,h.nm,h.nx⟩
  rw [heap_setCell_same W gm page _ 4 _ h.met]
  simp [<- yxp n d page hp])
 have E : okOne ids false d page = (ids.getD page 0 == 0 && !d.contains page) := by simp [okOne]
 have n1 := h.np
 have n2 := h.ng
 have n3 := h.nm
 have n4 := h.nx
 rw [E]
 obtain ⟨y,hy⟩ : ∃ y,ids.getD page 0 = y := ⟨_,rfl⟩
 obtain ⟨z,hz⟩ : ∃ z,d.contains page = z := ⟨_,rfl⟩
 rw [hy] at h2 ⊢
 rw [hz] at h6 ⊢
 have hp0 : (0 : Int) <= (page : Int) := by omega
 have hp1 : (page : Int) < (n : Int) := by omega
 have k1 : (W.setCell ⟨gm,page,none⟩ (.bool true)).cell? ⟨tx,0,none⟩ = some (.pointer (some ⟨p,0,none⟩)) := HK.out.2.cx
 have k2 : (W.setCell ⟨gm,page,none⟩ (.bool true)).cell? ⟨p,0,none⟩ = some (.slice (some ⟨g,0,none⟩) n n) := HK.out.2.ix.cell
 have k3 : (W.setCell ⟨gm,page,none⟩ (.bool true)).cell? ⟨g,page,none⟩ = some (.int .i64 y) := by rw [HK.out.2.ix.int_ hp,hy]
 clear h hy hz E h1 h2 h5
 by_cases c : y = 0
 ·have c2 : (y == 0) = true := by simpa using c
  rw [c2]
  clear c
  go_enter Tryz.func211,Tryz.ntmps211
  go_wp2
  go_ret
  exact ⟨by cases z <;> rfl,HK.out⟩
 ·have c2 : (y == 0) = false := by simpa using c
  rw [c2]
  clear c
  go_enter Tryz.func211,Tryz.ntmps211
  go_wp2
  go_ret
  exact ⟨rfl,HK.out⟩
theorem asks_set {W0 : World} {B p g n : Nat} {ids : List Int} {tm gm tx : Nat} :
  Asks 211 #[.pointer (some ⟨tm,0,none⟩),.pointer (some ⟨tx,0,none⟩)] n gm (okOne ids false) (SetI W0 B p g n ids tm gm tx) W0 :=
 ⟨fun d pg W h hp => yxq d pg W h hp,fun d W W' h hb => h.keep hb,fun d W h => h.bel⟩
def PutEnd (w : World) (B p g n : Nat) (r : List Int × Int) (e : Ending) (w' : World) : Prop := e = .returned (.int .i64 r.2) /\ Ix w' B p g n r.1 /\ w.grownBy w' (some g)
theorem xQm {a : Option Addr} (id : Int) (A : Option Addr) (m c : Nat) (w : World) (h : id < 1) (h0 : -9223372036854775808 <= id) :
  Calls Tryz.prog 147 #[.pointer a,.int .i64 id,.slice A m c] w fun e w' => e = .returned (.int .i64 1) /\ Below w.heap.size w w' := by
 go_enter_defers Tryz.func147,Tryz.ntmps147
 go_wp2
 refine leaves_cons (f := 208) (args := #[.pointer (some ⟨w.heap.size + 1,0,none⟩)]) (by simp) (by simp [go_sem]) ?_
 refine (xQ2 277 1 (fun w => yxo w) ⟨w.heap.size + 1,0,none⟩ 0 _ (by simp) (by simp) (by simp [go_sem])).mono ?_
 rintro e u' w'' ⟨rfl,rfl,rfl⟩
 simp [Leaves,settle,results,Tryz.results147,go_sem]
 exact (((Below.refl _ _).alloc (Nat.le_refl _) _).alloc (by simp) _).alloc (by simp;omega) _
theorem xkl : (Tryz.prog.info? 4).map (fun i => (i.zero,i.size,i.bytes)) = some (some (.bool false),1,1) := by kernel_rfl
theorem met_none (n : Nat) : (madeCells (Value.bool false).cells (n * 1)).toList = metRow n [] := by
 rw [Nat.mul_one]
 refine (toList_madeCells_one _ n).trans ?_
 apply List.ext_getElem?
 intro q
 by_cases hq : q < n
 ·rw [xkt n _ q hq];simp [hq]
 ·rw [List.getElem?_eq_none (by simp;omega),List.getElem?_eq_none (by simp [metRow];omega)]
theorem xVy {w : World} {base : Nat} {e : TypeId} {g n : Nat} {xs : List Value} (h : w.ownsRow base e 1 (.slice (some ⟨g,0,none⟩) n n) n xs) : w.heap[g]? = some (.cells xs.toArray e (0,0)) := by
 rcases h.2 with ⟨h1,_⟩ | ⟨g',cap,cur,h1,_,hh,_,_,hs,ht⟩
 ·cases h1
 ·injection h1 with h2 h3 h4
  injection h2 with h2
  injection h2 with h2
  subst h2 h4
  rw [hh,<- ht,List.take_of_length_le (by simp [hs])]
theorem Ix.setNew {w : World} {B p g n : Nat} {ids : List Int} (h : Ix w B p g n ids) {a : Addr} (hp : a.block ≠ p) (hg : a.block ≠ g) (u : Value) : Ix (w.setCell a u) B p g n ids :=
 ⟨(World.cell?_setCell_other w a _ _ (fun e => hp (by rw [e]))).trans h.cell,(heap_setCell_other w a g u (fun e => hg e.symm)).trans h.heap,h.hlen,h.ge,h.geg,h.ne,h.small⟩
theorem xK6 {w w5 : World} {B p g n e : Nat} {ids : List Int} (hx : Ix w5 B p g n ids) (hg : w.grownBy w5 (some g)) (he : w.heap.size <= e) (hp : p < w.heap.size) (hgl : g < w.heap.size) (no : Int) (u v : Value) :
  PutEnd w B p g n (ids,no) (.returned (.int .i64 no)) ((w5.setCell ⟨e,0,none⟩ u).setCell ⟨e,0,none⟩ v) :=
 ⟨rfl,(hx.setNew (a := ⟨e,0,none⟩) (by show e ≠ p;omega) (by show e ≠ g;omega) u).setNew (a := ⟨e,0,none⟩) (by show e ≠ p;omega) (by show e ≠ g;omega) v,
  xK3 (xK3 hg (a := ⟨e,0,none⟩) he u) (a := ⟨e,0,none⟩) he v⟩
theorem xku {w w5 : World} {B p g n e : Nat} {ids : List Int} (hx : Ix w B p g n ids) (hb : Below w.heap.size w w5) (he : w.heap.size <= e) (no : Int) (T : TypeId) (v : Value) :
  PutEnd w B p g n (ids,no) (.returned (.int .i64 no)) ((w5.alloc (.cells #[] T)).setCell ⟨e,0,none⟩ v) := by
 have h : Below w.heap.size w ((w5.alloc (.cells #[] T)).setCell ⟨e,0,none⟩ v) := (hb.alloc hb.size _).setCell he v
 exact ⟨rfl,hx.below h (Nat.le_refl _),xq3 h _⟩
theorem xkv {w : World} {e : Addr} {u : Value} (h : w.cell? e = some u) (T : TypeId) (v : Value) : ((w.alloc (.cells #[] T)).setCell e v).cell? e = some v :=
 World.cell?_setCell_same _ _ _ (by rw [World.cell?_alloc_lt _ _ _ (xq0 h)];exact h)
set_option maxHeartbeats 2000000 in
theorem yju {p g n B : Nat} {ids : List Int} (id : Int) (A : Option Addr) (m c : Nat) (rs : List (Int × Int)) (w : World) (hx : Ix w B p g n ids) (hap : ∀ b off,0 < m -> A = some ⟨b,off,none⟩ -> b ≠ g)
  (hs : Rn w w.heap.size A m rs) (hm : m <= 65536) (hr : ∀ r ∈ rs,in64 r.1 /\ in64 r.2) (h0 : in64 id) :
  Calls Tryz.prog 147 #[.pointer (some ⟨p,0,none⟩),.int .i64 id,.slice A m c] w (PutEnd w B p g n (xPut ids id rs false)) := by
 by_cases hid : id < 1
 ·refine (xQm id A m c w hid h0.1).mono ?_
  rintro e w' ⟨rfl,hb⟩
  rw [yj3 ids id rs hid]
  exact ⟨rfl,hx.below hb (Nat.le_refl _),xq3 hb _⟩
 obtain ⟨i0,hi,hz0,hz1,hz2⟩ := info_parts xkl
 have hlg := hx.lt
 have hlp := hx.ltp
 have hn := hx.small
 have cp := fun W h => hx.pages W h
 have h01 := h0.2
 have HX := hidb hx
 have HL := hidb hx.hlen
 have HAP := hidb hap
 have HS := hidb hs
 have HR := hidb hr
 have hid1 : false = false -> 1 <= id := fun _ => by omega
 obtain ⟨N,hN⟩ : ∃ N,(xPut ids id rs false) = N := ⟨_,rfl⟩
 rw [hN]
 have HN := hidb hN
 have HB1 : Hid (∀ W1,W1 = (w.alloc (.cells #[.pointer (some ⟨p,0,none⟩)] 153)).alloc (.cells #[.int .i64 0] 77) -> Below w.heap.size w W1 /\ W1.heap.size = w.heap.size + 1 + 1 /\ W1.cell? ⟨w.heap.size,0,none⟩ = some (.pointer (some ⟨p,0,none⟩)) /\ W1.cell? ⟨w.heap.size + 1,0,none⟩ = some (.int .i64 0) /\ W1.frozen? ⟨w.heap.size + 1,0,none⟩ = false) := hidb (by
  rintro W1 rfl
  exact ⟨((Below.refl _ _).alloc (Nat.le_refl _) _).alloc (by simp) _,by simp,by rw [World.cell?_alloc_lt _ _ _ (by simp)];simp,by simp,by simp [go_sem]⟩)
 have HSI : Hid (∀ W1 w1,W1 = (w.alloc (.cells #[.pointer (some ⟨p,0,none⟩)] 153)).alloc (.cells #[.int .i64 0] 77) -> w1.ownsRow w.heap.size 4 1 (.slice (some ⟨W1.heap.size,0,none⟩) n n) n (madeCells (Value.bool false).cells (n * 1)).toList -> W1.grownBy w1 none ->
   SetI W1 B p g n ids w1.heap.size (w.heap.size + 1 + 1) w.heap.size [] (w1.alloc (.cells #[.slice (some ⟨w.heap.size + 1 + 1,0,none⟩) n n] 29))) := hidb (fun W1 w1 h1 hown hgrow => by
  obtain ⟨b1,b2,b3,b4,b5⟩ := HB1.out W1 h1
  rw [b2,met_none] at hown
  have hlt := (hown.lt (w.heap.size + 1 + 1) rfl).2
  have hgz := hgrow.size
  have hb1 : Below W1.heap.size W1 w1 := (Below.refl _ _).grown hgrow (Nat.le_refl _) (fun k hk => by cases hk)
  have hb2 : Below W1.heap.size W1 (w1.alloc (.cells #[.slice (some ⟨w.heap.size + 1 + 1,0,none⟩) n n] 29)) := hb1.alloc hgz _
  refine ⟨HX.out.below (b1.trans (hb2.mono b1.size)) (Nat.le_refl _),by simp,?_,?_,hb2,by omega,by omega,by omega,by omega,by omega⟩
  ·rw [hb2.cell (by show w.heap.size < _;omega)];exact b3
  ·rw [Below.heap_alloc _ _ _ hlt];exact xVy hown)
 cases hT : rs.all (xThere n) with
 | false =>
  obtain rfl : N = (ids,2) := by rw [<- hN];exact xJj ids id rs false hid1 (by rw [hx.hlen];exact hT)
  have CA : Hid (∀ (W1 w1 : World),SetI W1 B p g n ids w1.heap.size (w.heap.size + 1 + 1) w.heap.size [] (w1.alloc (.cells #[.slice (some ⟨w.heap.size + 1 + 1,0,none⟩) n n] 29)) -> Below w.heap.size w W1 -> ∀ f,
    Calls Tryz.prog 210 #[.pointer (some ⟨p,0,none⟩),.slice A m c,f] (w1.alloc (.cells #[.slice (some ⟨w.heap.size + 1 + 1,0,none⟩) n n] 29)) fun e w' => e = .panicked [thrown 314] /\ Below W1.heap.size W1 w') := hidb (fun W1 w1 h hb f => by
   have hbw := hb.trans (h.bel.mono hb.size)
   refine (xjx A m c rs _ h.ix.pages hn ((HS.out.below hbw).more hbw.size) hm HR.out hT).mono ?_
   rintro e w' ⟨rfl,h2⟩
   exact ⟨rfl,h.bel.trans (h2.mono h.bel.size)⟩)
  clear hx hap hs hr hN hid1 hT
  go_enter_defers Tryz.func147,Tryz.ntmps147
  go_wp2_with (first
   | (go_at_call 197;(with_reducible refine (cp _ (((Below.refl _ _).alloc (Nat.le_refl _) _).alloc (by simp) _)).mono ?_);rintro e w' ⟨rfl,rfl⟩)
   | (at_make;refine wpList_make_full _ rfl _ _ 29 rfl w.heap.size 4 i0 (.bool false) 1 Tryz.underlying29 hi hz0 hz1 .i64 .i64 _ _ n rfl rfl (by omega) (by omega) (by rw [hz2];omega) (by unfold maxLen;omega) (by simp;omega) ?_;intro w1 hown hgrow;have S1 := HSI.out _ w1 rfl hown hgrow;have hcx := S1.cx;have ca := CA.out _ w1 S1 (HB1.out _ rfl).1;have HS1 := hidb S1;clear hown hgrow S1)
   | (go_at_call 210;(with_reducible refine (ca _).mono ?_);rintro e w4 ⟨rfl,hb4⟩))
  obtain ⟨b1,b2,b3,b4,b5⟩ := HB1.out _ rfl
  have hcE : w4.cell? ⟨w.heap.size + 1,0,none⟩ = some (.int .i64 0) := by rw [hb4.cell (by show w.heap.size + 1 < _;omega)];exact b4
  have hfE : w4.frozen? ⟨w.heap.size + 1,0,none⟩ = false := by rw [hb4.frozen (by show w.heap.size + 1 < _;omega)];exact b5
  refine leaves_cons (f := 208) (args := #[.pointer (some ⟨w.heap.size + 1,0,none⟩)]) (by simp) (by simp [go_sem]) ?_
  refine (xQ2 314 2 (fun w => xXa w) ⟨w.heap.size + 1,0,none⟩ 0 _ (xq0 hcE) hcE hfE).mono ?_
  rintro e u' w'' ⟨rfl,rfl,rfl⟩
  have P := xku (T := 314) HX.out (b1.trans (hb4.mono b1.size)) (e := w.heap.size + 1) (by omega) 2 (.int .i64 2)
  have hT := xkv hcE 314 (.int .i64 2)
  simp [Leaves,settle,results,Tryz.results147,go_sem,hT]
  exact P
 | true =>
  have E := xjn ids id rs false hid1 (by rw [hx.hlen];exact hT)
  rw [xwg,hN] at E
  have CA : Hid (∀ (W1 w1 : World),SetI W1 B p g n ids w1.heap.size (w.heap.size + 1 + 1) w.heap.size [] (w1.alloc (.cells #[.slice (some ⟨w.heap.size + 1 + 1,0,none⟩) n n] 29)) -> Below w.heap.size w W1 -> w.heap.size + 1 + 1 < w1.heap.size ->
    Calls Tryz.prog 210 #[.pointer (some ⟨p,0,none⟩),.slice A m c,.func (.func 211) #[] #[.pointer (some ⟨w1.heap.size,0,none⟩),.pointer (some ⟨w.heap.size,0,none⟩)]] (w1.alloc (.cells #[.slice (some ⟨w.heap.size + 1 + 1,0,none⟩) n n] 29))
     (AskEnd W1 (okOne ids false) (SetI W1 B p g n ids w1.heap.size (w.heap.size + 1 + 1) w.heap.size) (pgs rs))) := hidb (fun W1 w1 h hb hlt =>
   xZq W1 A m c rs _ h.ix.pages hn ((HS.out.below hb).more hb.size) hm HR.out hT h asks_set (by simp;omega))
  cases hok : askAll (okOne ids false) [] (pgs rs) with
  | false =>
   rw [hok] at E
   obtain rfl : N = (ids,9) := by simpa using E
   have CB : Hid (∀ (W1 w1 : World),SetI W1 B p g n ids w1.heap.size (w.heap.size + 1 + 1) w.heap.size [] (w1.alloc (.cells #[.slice (some ⟨w.heap.size + 1 + 1,0,none⟩) n n] 29)) -> Below w.heap.size w W1 -> w.heap.size + 1 + 1 < w1.heap.size ->
    Calls Tryz.prog 210 #[.pointer (some ⟨p,0,none⟩),.slice A m c,.func (.func 211) #[] #[.pointer (some ⟨w1.heap.size,0,none⟩),.pointer (some ⟨w.heap.size,0,none⟩)]] (w1.alloc (.cells #[.slice (some ⟨w.heap.size + 1 + 1,0,none⟩) n n] 29))
     fun e w' => e = .panicked [thrown 315] /\ Below W1.heap.size W1 w') := hidb (fun W1 w1 h hb hlt => (CA.out W1 w1 h hb hlt).mono (by
      rintro e w' (⟨h1,_⟩ | ⟨_,h2⟩)
      ·rw [hok] at h1;cases h1
      ·exact h2))
   clear hx hap hs hr hN hid1 hT E CA hok
   go_enter_defers Tryz.func147,Tryz.ntmps147
   go_wp2_with (first
    | (go_at_call 197;(with_reducible refine (cp _ (((Below.refl _ _).alloc (Nat.le_refl _) _).alloc (by simp) _)).mono ?_);rintro e w' ⟨rfl,rfl⟩)
    | (at_make;refine wpList_make_full _ rfl _ _ 29 rfl w.heap.size 4 i0 (.bool false) 1 Tryz.underlying29 hi hz0 hz1 .i64 .i64 _ _ n rfl rfl (by omega) (by omega) (by rw [hz2];omega) (by unfold maxLen;omega) (by simp;omega) ?_;intro w1 hown hgrow;have S1 := HSI.out _ w1 rfl hown hgrow;have hcx := S1.cx;have ca := CB.out _ w1 S1 (HB1.out _ rfl).1 (by have := (hown.lt _ rfl).2;rw [(HB1.out _ rfl).2.1] at this;exact this);have HS1 := hidb S1;clear hown hgrow S1)
    | (go_at_call 210;(with_reducible refine ca.mono ?_);rintro e w4 ⟨rfl,hb4⟩))
   obtain ⟨b1,b2,b3,b4,b5⟩ := HB1.out _ rfl
   have hcE : w4.cell? ⟨w.heap.size + 1,0,none⟩ = some (.int .i64 0) := by rw [hb4.cell (by show w.heap.size + 1 < _;omega)];exact b4
   have hfE : w4.frozen? ⟨w.heap.size + 1,0,none⟩ = false := by rw [hb4.frozen (by show w.heap.size + 1 < _;omega)];exact b5
   refine leaves_cons (f := 208) (args := #[.pointer (some ⟨w.heap.size + 1,0,none⟩)]) (by simp) (by simp [go_sem]) ?_
   refine (xQ2 315 9 (fun w => xXb w) ⟨w.heap.size + 1,0,none⟩ 0 _ (xq0 hcE) hcE hfE).mono ?_
   rintro e u' w'' ⟨rfl,rfl,rfl⟩
   have P := xku (T := 315) HX.out (b1.trans (hb4.mono b1.size)) (e := w.heap.size + 1) (by omega) 9 (.int .i64 9)
   have hT := xkv hcE 315 (.int .i64 9)
   simp [Leaves,settle,results,Tryz.results147,go_sem,hT]
   exact P
  | true =>
   rw [hok] at E
   obtain rfl : N = (writeAll ids id (pgs rs),0) := by simpa using E
   have CB : Hid (∀ (W1 w1 : World),SetI W1 B p g n ids w1.heap.size (w.heap.size + 1 + 1) w.heap.size [] (w1.alloc (.cells #[.slice (some ⟨w.heap.size + 1 + 1,0,none⟩) n n] 29)) -> Below w.heap.size w W1 -> w.heap.size + 1 + 1 < w1.heap.size ->
    Calls Tryz.prog 210 #[.pointer (some ⟨p,0,none⟩),.slice A m c,.func (.func 211) #[] #[.pointer (some ⟨w1.heap.size,0,none⟩),.pointer (some ⟨w.heap.size,0,none⟩)]] (w1.alloc (.cells #[.slice (some ⟨w.heap.size + 1 + 1,0,none⟩) n n] 29))
     fun e w' => e = .returned (.tuple #[]) /\ SetI W1 B p g n ids w1.heap.size (w.heap.size + 1 + 1) w.heap.size (pgs rs) w') := hidb (fun W1 w1 h hb hlt => (CA.out W1 w1 h hb hlt).mono (by
      rintro e w' (⟨_,h1⟩ | ⟨h1,_⟩)
      ·exact h1
      ·rw [hok] at h1;cases h1))
   have CW : Hid (∀ w4 W1 tm,SetI W1 B p g n ids tm (w.heap.size + 1 + 1) w.heap.size (pgs rs) w4 -> Below w.heap.size w W1 ->
     Calls Tryz.prog 212 #[.pointer (some ⟨p,0,none⟩),.int .i64 id,.slice A m c] w4 fun e w5 => e = .returned (.tuple #[]) /\ Ix w5 B p g n (writeAll ids id (pgs rs)) /\ w4.grownBy w5 (some g)) := hidb (fun w4 W1 tm h hb => by
    have hbw := hb.trans (h.bel.mono hb.size)
    exact xQ1 id A m c rs w4 h.ix HAP.out ((HS.out.below hbw).more hbw.size) hm hT)
   have HE5 : Hid (∀ W1 tm w4 w5,(Below w.heap.size w W1 /\ W1.heap.size = w.heap.size + 1 + 1 /\ W1.cell? ⟨w.heap.size,0,none⟩ = some (.pointer (some ⟨p,0,none⟩)) /\ W1.cell? ⟨w.heap.size + 1,0,none⟩ = some (.int .i64 0) /\ W1.frozen? ⟨w.heap.size + 1,0,none⟩ = false) ->
     SetI W1 B p g n ids tm (w.heap.size + 1 + 1) w.heap.size (pgs rs) w4 -> w4.grownBy w5 (some g) -> w5.cell? ⟨w.heap.size + 1,0,none⟩ = some (.int .i64 0) /\ w5.frozen? ⟨w.heap.size + 1,0,none⟩ = false) := hidb (fun W1 tm w4 w5 h1 h4 hg => by
    obtain ⟨b1,b2,b3,b4,b5⟩ := h1
    have k1 : w4.cell? ⟨w.heap.size + 1,0,none⟩ = some (.int .i64 0) := by rw [h4.bel.cell (by show w.heap.size + 1 < _;omega)];exact b4
    have k2 : w4.frozen? ⟨w.heap.size + 1,0,none⟩ = false := by rw [h4.bel.frozen (by show w.heap.size + 1 < _;omega)];exact b5
    have k3 := hg.block (w.heap.size + 1) (xq0 k1) (fun e => by injection e with e;omega)
    exact ⟨(World.cell?_of_block (w := w4) (a := ⟨w.heap.size + 1,0,none⟩) k3).trans k1,by rw [<- k2];simp [World.frozen?,k3]⟩)
   clear hx hap hs hr hN hid1 hT E CA hok
   go_enter_defers Tryz.func147,Tryz.ntmps147
   go_wp2_with (first
    | (go_at_call 197;(with_reducible refine (cp _ (((Below.refl _ _).alloc (Nat.le_refl _) _).alloc (by simp) _)).mono ?_);rintro e w' ⟨rfl,rfl⟩)
    | (at_make;refine wpList_make_full _ rfl _ _ 29 rfl w.heap.size 4 i0 (.bool false) 1 Tryz.underlying29 hi hz0 hz1 .i64 .i64 _ _ n rfl rfl (by omega) (by omega) (by rw [hz2];omega) (by unfold maxLen;omega) (by simp;omega) ?_;intro w1 hown hgrow;have S1 := HSI.out _ w1 rfl hown hgrow;have hcx := S1.cx;have ca := CB.out _ w1 S1 (HB1.out _ rfl).1 (by have := (hown.lt _ rfl).2;rw [(HB1.out _ rfl).2.1] at this;exact this);have HS1 := hidb S1;clear hown hgrow S1)
    | (go_at_call 210;(with_reducible refine ca.mono ?_);rintro e w4 ⟨rfl,S4⟩;have hcx4 := S4.cx;have cw := CW.out _ _ _ S4 (HB1.out _ rfl).1;have HS4 := hidb S4;clear S4)
    | (go_at_call 212;(with_reducible refine cw.mono ?_);rintro e w5 ⟨rfl,hx5,hg5⟩;have hcE : w5.cell? ⟨w.heap.size + 1,0,none⟩ = some (.int .i64 0) := (HE5.out _ _ _ _ (HB1.out _ rfl) HS4.out hg5).1;have hfE : w5.frozen? ⟨w.heap.size + 1,0,none⟩ = false := (HE5.out _ _ _ _ (HB1.out _ rfl) HS4.out hg5).2;have HX5 := hidb hx5;have HG5 := hidb hg5;clear hx5 hg5))
   have hcE2 := World.cell?_setCell_same _ _ (.int .i64 0) hcE
   have hb14 : w.grownBy w4 (some g) := xq3 ((HB1.out _ rfl).1.trans (HS4.out.bel.mono (HB1.out _ rfl).1.size)) _
   have P := xK6 HX5.out (xq4 hb14 HG5.out) (e := w.heap.size + 1) (by omega) hlp hlg 0 (.int .i64 0) (.int .i64 0)
   refine leaves_cons (f := 208) (args := #[.pointer (some ⟨w.heap.size + 1,0,none⟩)]) (by simp) (by simp [go_sem]) ?_
   refine (idle_set ⟨w.heap.size + 1,0,none⟩ 0 _ hcE2 (by simp [hfE])).mono ?_
   rintro e u' w'' ⟨rfl,rfl,rfl⟩
   have hc2 := World.cell?_setCell_same (w5.setCell ⟨w.heap.size + 1,0,none⟩ (.int .i64 0)) ⟨w.heap.size + 1,0,none⟩ (.int .i64 0) hcE2
   simp [Leaves,settle,results,Tryz.results147,go_sem,hc2]
   exact P
structure DropI (W0 : World) (B p g n : Nat) (ids : List Int) (tx : Nat) (W : World) : Prop where
 ix : Ix W B p g n ids
 cx : W.cell? ⟨tx,0,none⟩ = some (.pointer (some ⟨p,0,none⟩))
 bel : Below W0.heap.size W0 W
theorem DropI.keep {W0 W W' : World} {B p g n : Nat} {ids : List Int} {tx : Nat} (h : DropI W0 B p g n ids tx W) (hb : Below W.heap.size W W') : DropI W0 B p g n ids tx W' :=
 ⟨h.ix.below hb (Nat.le_refl _),(hb.cell (xq0 h.cx)).trans h.cx,h.bel.trans (hb.mono h.bel.size)⟩
theorem yjv {W0 : World} {B p g n : Nat} {ids : List Int} {tx : Nat} :
  Asks 286 #[.pointer (some ⟨tx,0,none⟩)] n g (okOne ids true) (fun _ W => DropI W0 B p g n ids tx W) W0 :=
 ⟨fun d pg W h hp => (xVx W h.ix h.cx pg hp).mono fun e w' ⟨h1,h2⟩ => by subst h2;exact ⟨by rw [h1];simp [okOne],xvd _,h⟩,fun d W W' h hb => h.keep hb,fun d W h => h.bel⟩
theorem rcell {w w5 : World} {g e : Nat} {u : Value} (hg : w.grownBy w5 (some g)) (he : e ≠ g) (hc : w.cell? ⟨e,0,none⟩ = some u) (hf : w.frozen? ⟨e,0,none⟩ = false) : w5.cell? ⟨e,0,none⟩ = some u /\ w5.frozen? ⟨e,0,none⟩ = false := by
 have k3 := hg.block e (xq0 hc) (fun h => he (by injection h))
 exact ⟨(World.cell?_of_block (w := w) (a := ⟨e,0,none⟩) k3).trans hc,by rw [<- hf];simp [World.frozen?,k3]⟩
set_option maxHeartbeats 2000000 in
theorem yxr {p g n B : Nat} {ids : List Int} (id : Int) (A : Option Addr) (m c : Nat) (rs : List (Int × Int)) (w : World) (hx : Ix w B p g n ids) (hap : ∀ b off,0 < m -> A = some ⟨b,off,none⟩ -> b ≠ g)
  (hs : Rn w w.heap.size A m rs) (hm : m <= 65536) (hr : ∀ r ∈ rs,in64 r.1 /\ in64 r.2) :
  Calls Tryz.prog 253 #[.pointer (some ⟨p,0,none⟩),.slice A m c] w (PutEnd w B p g n (xPut ids id rs true)) := by
 have hlg := hx.lt
 have hlp := hx.ltp
 have hn := hx.small
 have HX := hidb hx
 have HAP := hidb hap
 have HS := hidb hs
 have HR := hidb hr
 have hid1 : true = false -> 1 <= id := fun h => by cases h
 obtain ⟨N,hN⟩ : ∃ N,(xPut ids id rs true) = N := ⟨_,rfl⟩
 rw [hN]
 obtain ⟨b1,b2,b3,b4,b5⟩ : Below w.heap.size w ((w.alloc (.cells #[.pointer (some ⟨p,0,none⟩)] 153)).alloc (.cells #[.int .i64 0] 77)) /\
   ((w.alloc (.cells #[.pointer (some ⟨p,0,none⟩)] 153)).alloc (.cells #[.int .i64 0] 77)).heap.size = w.heap.size + 1 + 1 /\
   ((w.alloc (.cells #[.pointer (some ⟨p,0,none⟩)] 153)).alloc (.cells #[.int .i64 0] 77)).cell? ⟨w.heap.size,0,none⟩ = some (.pointer (some ⟨p,0,none⟩)) /\
   ((w.alloc (.cells #[.pointer (some ⟨p,0,none⟩)] 153)).alloc (.cells #[.int .i64 0] 77)).cell? ⟨w.heap.size + 1,0,none⟩ = some (.int .i64 0) /\
   ((w.alloc (.cells #[.pointer (some ⟨p,0,none⟩)] 153)).alloc (.cells #[.int .i64 0] 77)).frozen? ⟨w.heap.size + 1,0,none⟩ = false :=
  ⟨((Below.refl _ _).alloc (Nat.le_refl _) _).alloc (by simp) _,by simp,by rw [World.cell?_alloc_lt _ _ _ (by simp)];simp,by simp,by simp [go_sem]⟩
 have I0 : DropI ((w.alloc (.cells #[.pointer (some ⟨p,0,none⟩)] 153)).alloc (.cells #[.int .i64 0] 77)) B p g n ids w.heap.size ((w.alloc (.cells #[.pointer (some ⟨p,0,none⟩)] 153)).alloc (.cells #[.int .i64 0] 77)) :=
  ⟨hx.below b1 (Nat.le_refl _),b3,Below.refl _ _⟩
 have hs1 := (hs.below b1).more b1.size
 have HB := hidb b1
 have HB2 := hidb b2
 cases hT : rs.all (xThere n) with
 | false =>
  obtain rfl : N = (ids,2) := by rw [<- hN];exact xJj ids id rs true hid1 (by rw [hx.hlen];exact hT)
  have ca := fun f => xjx (f := f) A m c rs _ I0.ix.pages hn hs1 hm hr hT
  unfold Threw at ca
  have HE : Hid (∀ w4,Below (w.heap.size + 1 + 1) ((w.alloc (.cells #[.pointer (some ⟨p,0,none⟩)] 153)).alloc (.cells #[.int .i64 0] 77)) w4 -> w4.cell? ⟨w.heap.size + 1,0,none⟩ = some (.int .i64 0) /\ w4.frozen? ⟨w.heap.size + 1,0,none⟩ = false /\ Below w.heap.size w w4) := hidb (fun w4 hb => ⟨by rw [hb.cell (by show w.heap.size + 1 < _;omega)];exact b4,by rw [hb.frozen (by show w.heap.size + 1 < _;omega)];exact b5,b1.trans (hb.mono (by omega))⟩)
  clear hx hap hs hr hN hid1 hT I0 hs1 b1 b2 b3 b4 b5
  go_enter_defers Tryz.func253,Tryz.ntmps253
  go_wp2_with (first
   | (go_at_call 210;(with_reducible refine (ca _).mono ?_);rintro e w4 ⟨rfl,hb4⟩))
  rw [HB2.out] at hb4
  obtain ⟨hcE,hfE,hbw⟩ := HE.out _ hb4
  refine leaves_cons (f := 285) (args := #[.pointer (some ⟨w.heap.size + 1,0,none⟩)]) (by simp) (by simp [go_sem]) ?_
  refine (xXc 314 2 (fun w => xXa w) ⟨w.heap.size + 1,0,none⟩ 0 _ (xq0 hcE) hcE hfE).mono ?_
  rintro e u' w'' ⟨rfl,rfl,rfl⟩
  have P := xku (T := 314) HX.out hbw (e := w.heap.size + 1) (by omega) 2 (.int .i64 2)
  have hT := xkv hcE 314 (.int .i64 2)
  simp [Leaves,settle,results,Tryz.results253,go_sem,hT]
  exact P
 | true =>
  have E := xjn ids id rs true hid1 (by rw [hx.hlen];exact hT)
  rw [xwg,hN] at E
  have ca := yjs _ A m c rs _ I0.ix.pages hn hs1 hm hr hT I0 yjv (by rw [b2];omega)
  cases hok : askAll (okOne ids true) [] (pgs rs) with
  | false =>
   rw [hok] at E
   obtain rfl : N = (ids,9) := by simpa using E
   have cb : Calls Tryz.prog 210 #[.pointer (some ⟨p,0,none⟩),.slice A m c,.func (.func 286) #[] #[.pointer (some ⟨w.heap.size,0,none⟩)]] ((w.alloc (.cells #[.pointer (some ⟨p,0,none⟩)] 153)).alloc (.cells #[.int .i64 0] 77))
     fun e w' => e = .panicked [thrown 315] /\ Below (w.heap.size + 1 + 1) ((w.alloc (.cells #[.pointer (some ⟨p,0,none⟩)] 153)).alloc (.cells #[.int .i64 0] 77)) w' := ca.mono (by
      rintro e w' (⟨h1,_⟩ | ⟨_,h2,h3⟩)
      ·rw [hok] at h1;cases h1
      ·rw [b2] at h3;exact ⟨h2,h3⟩)
   have HE : Hid (∀ w4,Below (w.heap.size + 1 + 1) ((w.alloc (.cells #[.pointer (some ⟨p,0,none⟩)] 153)).alloc (.cells #[.int .i64 0] 77)) w4 -> w4.cell? ⟨w.heap.size + 1,0,none⟩ = some (.int .i64 0) /\ w4.frozen? ⟨w.heap.size + 1,0,none⟩ = false /\ Below w.heap.size w w4) := hidb (fun w4 hb => ⟨by rw [hb.cell (by show w.heap.size + 1 < _;omega)];exact b4,by rw [hb.frozen (by show w.heap.size + 1 < _;omega)];exact b5,b1.trans (hb.mono (by omega))⟩)
   clear hx hap hs hr hN hid1 hT I0 hs1 b1 b2 b3 b4 b5 E ca hok
   go_enter_defers Tryz.func253,Tryz.ntmps253
   go_wp2_with (first
    | (go_at_call 210;(with_reducible refine cb.mono ?_);rintro e w4 ⟨rfl,hb4⟩))
   obtain ⟨hcE,hfE,hbw⟩ := HE.out _ hb4
   refine leaves_cons (f := 285) (args := #[.pointer (some ⟨w.heap.size + 1,0,none⟩)]) (by simp) (by simp [go_sem]) ?_
   refine (xXc 315 9 (fun w => xXb w) ⟨w.heap.size + 1,0,none⟩ 0 _ (xq0 hcE) hcE hfE).mono ?_
   rintro e u' w'' ⟨rfl,rfl,rfl⟩
   have P := xku (T := 315) HX.out hbw (e := w.heap.size + 1) (by omega) 9 (.int .i64 9)
   have hT := xkv hcE 315 (.int .i64 9)
   simp [Leaves,settle,results,Tryz.results253,go_sem,hT]
   exact P
  | true =>
   rw [hok] at E
   obtain rfl : N = (writeAll ids 0 (pgs rs),0) := by simpa using E
   have cb : Calls Tryz.prog 210 #[.pointer (some ⟨p,0,none⟩),.slice A m c,.func (.func 286) #[] #[.pointer (some ⟨w.heap.size,0,none⟩)]] ((w.alloc (.cells #[.pointer (some ⟨p,0,none⟩)] 153)).alloc (.cells #[.int .i64 0] 77))
     fun e w' => e = .returned (.tuple #[]) /\ DropI ((w.alloc (.cells #[.pointer (some ⟨p,0,none⟩)] 153)).alloc (.cells #[.int .i64 0] 77)) B p g n ids w.heap.size w' := ca.mono (by
      rintro e w' (⟨_,h1⟩ | ⟨h1,_⟩)
      ·exact h1
      ·rw [hok] at h1;cases h1)
   have HE : Hid (∀ w4,Below (w.heap.size + 1 + 1) ((w.alloc (.cells #[.pointer (some ⟨p,0,none⟩)] 153)).alloc (.cells #[.int .i64 0] 77)) w4 -> w4.cell? ⟨w.heap.size + 1,0,none⟩ = some (.int .i64 0) /\ w4.frozen? ⟨w.heap.size + 1,0,none⟩ = false /\ Below w.heap.size w w4) := hidb (fun w4 hb => ⟨by rw [hb.cell (by show w.heap.size + 1 < _;omega)];exact b4,by rw [hb.frozen (by show w.heap.size + 1 < _;omega)];exact b5,b1.trans (hb.mono (by omega))⟩)
   have CW : Hid (∀ w4,DropI ((w.alloc (.cells #[.pointer (some ⟨p,0,none⟩)] 153)).alloc (.cells #[.int .i64 0] 77)) B p g n ids w.heap.size w4 ->
     Calls Tryz.prog 212 #[.pointer (some ⟨p,0,none⟩),.int .i64 0,.slice A m c] w4 fun e w5 => e = .returned (.tuple #[]) /\ Ix w5 B p g n (writeAll ids 0 (pgs rs)) /\ w4.grownBy w5 (some g)) := hidb (fun w4 h => by
    have hbw := b1.trans (h.bel.mono b1.size)
    exact xQ1 0 A m c rs w4 h.ix hap ((hs.below hbw).more hbw.size) hm hT)
   clear hx hap hs hr hN hid1 hT I0 hs1 b1 b2 b3 b4 b5 E ca hok
   go_enter_defers Tryz.func253,Tryz.ntmps253
   go_wp2_with (first
    | (go_at_call 210;(with_reducible refine cb.mono ?_);rintro e w4 ⟨rfl,S4⟩;have hcx4 := S4.cx;have cw := CW.out _ S4;have HS4 := hidb S4;clear S4)
    | (go_at_call 212;(with_reducible refine cw.mono ?_);rintro e w5 ⟨rfl,hx5,hg5⟩;have HE4 := hidb (HE.out w4 (by have := HS4.out.bel;rw [HB2.out] at this;exact this));have HE5 := hidb (rcell hg5 (by omega) HE4.out.1 HE4.out.2.1);have hcE := HE5.out.1;have hfE := HE5.out.2;have HX5 := hidb hx5;have HG5 := hidb hg5;clear hx5 hg5))
   have hcE2 := World.cell?_setCell_same _ _ (.int .i64 0) hcE
   have hb14 : w.grownBy w4 (some g) := xq3 HE4.out.2.2 _
   have P := xK6 HX5.out (xq4 hb14 HG5.out) (e := w.heap.size + 1) (by omega) hlp hlg 0 (.int .i64 0) (.int .i64 0)
   refine leaves_cons (f := 285) (args := #[.pointer (some ⟨w.heap.size + 1,0,none⟩)]) (by simp) (by simp [go_sem]) ?_
   refine (yjt ⟨w.heap.size + 1,0,none⟩ 0 _ hcE2 (by simp [hfE])).mono ?_
   rintro e u' w'' ⟨rfl,rfl,rfl⟩
   have hc2 := World.cell?_setCell_same (w5.setCell ⟨w.heap.size + 1,0,none⟩ (.int .i64 0)) ⟨w.heap.size + 1,0,none⟩ (.int .i64 0) hcE2
   simp [Leaves,settle,results,Tryz.results253,go_sem,hc2]
   exact P
end Go.Proofs.YtlcdgmjinhbncaaGreat
