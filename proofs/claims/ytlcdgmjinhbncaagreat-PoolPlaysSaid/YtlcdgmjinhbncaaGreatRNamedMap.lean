import Derived.Test.YtlcdgmjinhbncaaGreatRRowWords
import Derived.Lib.SliceRun
import Derived.Defers
import Derived.Recover
import Derived.Laws.Pointers
import Derived.Laws.CopyOwn
import Derived.Maps.OwnSet
import Derived.Maps.Ext
import Derived.WalkKit
import Derived.Laws.IdiomRangeMap
namespace Go.Proofs.YtlcdgmjinhbncaaGreat
set_option linter.unusedVariables false
def aIn (len : Nat) (at' k : Int) : Bool := decide (0 <= at' /\ 0 <= k /\ at' + k <= (len : Int))
def aRow (xs : List Nat) (at' k : Nat) : List Nat := (xs.drop at').take k
def aStore (xs : List Nat) (at' : Nat) (ys : List Nat) : List Nat := xs.take at' ++ ys ++ xs.drop (at' + ys.length)
theorem xVs (xs : List Nat) (at' k : Nat) (h : at' + k <= xs.length) : (aRow xs at' k).length = k := by
 unfold aRow;rw [List.length_take,List.length_drop];omega
theorem yjf (xs : List Nat) (at' : Nat) : aRow xs at' 0 = [] := by unfold aRow;simp
theorem xzx (xs : List Nat) (at' : Nat) (ys : List Nat) (h : at' + ys.length <= xs.length) : (aStore xs at' ys).length = xs.length := by
 unfold aStore;rw [List.length_append,List.length_append,List.length_take,List.length_drop];omega
theorem xva (xs : List Nat) (at' : Nat) : aStore xs at' [] = xs := by unfold aStore;simp
theorem xX5 (xs : List Nat) (at' : Nat) (ys : List Nat) (h : at' + ys.length <= xs.length) (i : Nat) : (aStore xs at' ys)[i]? = if i < at' then xs[i]? else if i < at' + ys.length then ys[i - at']? else xs[i]? := by
 unfold aStore
 have e : min at' xs.length = at' := by omega
 by_cases h1 : i < at'
 ·rw [if_pos h1,List.getElem?_append_left (by rw [List.length_append,List.length_take];omega),List.getElem?_append_left (by rw [List.length_take];omega),List.getElem?_take_of_lt h1]
 ·rw [if_neg h1]
  by_cases h2 : i < at' + ys.length
  ·rw [if_pos h2,List.getElem?_append_left (by rw [List.length_append,List.length_take];omega),List.getElem?_append_right (by rw [List.length_take];omega),List.length_take,e]
  ·rw [if_neg h2,List.getElem?_append_right (by rw [List.length_append,List.length_take];omega),List.length_append,List.length_take,e,List.getElem?_drop,show at' + ys.length + (i - (at' + ys.length)) = i by omega]
theorem xVt (xs : List Nat) (at' : Nat) (ys : List Nat) (y : Nat) (h : at' + ys.length < xs.length) : aStore xs at' (ys ++ [y]) = (aStore xs at' ys).set (at' + ys.length) y := by
 apply List.ext_getElem?
 intro i
 rw [List.getElem?_set,xzx xs at' ys (by omega),xX5 xs at' ys (by omega),xX5 xs at' (ys ++ [y]) (by simp;omega)]
 rw [List.length_append,List.length_singleton]
 by_cases h1 : i < at'
 ·rw [if_pos h1,if_pos h1,if_neg (by omega)]
 ·rw [if_neg h1,if_neg h1]
  by_cases h2 : i < at' + ys.length
  ·rw [if_pos (by omega),if_neg (by omega),if_pos h2,List.getElem?_append_left (by omega)]
  ·by_cases h3 : at' + ys.length = i
   ·subst h3
    rw [if_pos (by omega),if_pos rfl,if_pos h,List.getElem?_append_right (by omega)]
    simp
   ·rw [if_neg (by omega),if_neg h3,if_neg h2]
end Go.Proofs.YtlcdgmjinhbncaaGreat
namespace Go.Proofs.YtlcdgmjinhbncaaGreat
open Go.RowKit
set_option linter.unusedVariables false
structure Ar (w : World) (B p g len : Nat) (xs : List Nat) : Prop where
 cell : w.cell? ⟨p,0,none⟩ = some (.slice (some ⟨g,0,none⟩) len len)
 heap : w.heap[g]? = some (.cells (xs.map wv).toArray 273 (0,0))
 hlen : xs.length = len
 ge : B <= p
 geg : B <= g
 ne : p ≠ g
 small : len <= 65536
section
variable {w w' w'' : World} {B p g len : Nat} {xs ys : List Nat}
theorem Ar.lt (h : Ar w B p g len xs) : g < w.heap.size := (Array.getElem?_eq_some_iff.1 h.heap).1
theorem Ar.ltp (h : Ar w B p g len xs) : p < w.heap.size := xq0 h.cell
theorem Ar.word (h : Ar w B p g len xs) (j : Nat) : w.cell? ⟨g,j,none⟩ = (xs.map wv)[j]? := by
 simp [World.cell?,h.heap]
theorem Ar.kept (h : Ar w B p g len xs) (hk : ∀ k,k < w.heap.size -> w'.heap[k]? = w.heap[k]?) : Ar w' B p g len xs :=
 ⟨(World.cell?_of_block (w := w) (a := ⟨p,0,none⟩) (hk p h.ltp)).trans h.cell,(hk g h.lt).trans h.heap,h.hlen,h.ge,h.geg,h.ne,h.small⟩
theorem Ar.below {B' : Nat} (h : Ar w B p g len xs) (hb : Below B' w w') (hB : w.heap.size <= B') : Ar w' B p g len xs := h.kept (fun k hk => hb.block k (by omega))
theorem Ar.alloc (h : Ar w B p g len xs) (o : Obj) : Ar (w.alloc o) B p g len xs := h.below ((Below.refl _ _).alloc (Nat.le_refl _) o) (Nat.le_refl _)
theorem Ar.more {B' : Nat} (h : Ar w B p g len xs) (hB : B' <= B) : Ar w B' p g len xs := ⟨h.cell,h.heap,h.hlen,by have := h.ge;omega,by have := h.geg;omega,h.ne,h.small⟩
theorem Ar.setRow (h : Ar w B p g len xs) (hy : ys.length = len) : Ar (w.setRow g (ys.map wv).toArray) B p g len ys :=
 ⟨(World.cell?_of_block (w := w) (a := ⟨p,0,none⟩) (setRow_other w g p _ h.ne)).trans h.cell,setRow_heap w g _ _ _ _ h.heap,hy,h.ge,h.geg,h.ne,h.small⟩
theorem Ar.setCell (h : Ar w B p g len xs) {a : Addr} (hp : a.block ≠ p) (hg : a.block ≠ g) (u : Value) : Ar (w.setCell a u) B p g len xs :=
 ⟨(World.cell?_of_block (w := w) (a := ⟨p,0,none⟩) (Below.heap_setCell _ _ _ _ (by show p ≠ _;omega))).trans h.cell,(Below.heap_setCell _ _ _ _ (by omega)).trans h.heap,h.hlen,h.ge,h.geg,h.ne,h.small⟩
theorem xq4 {r : Option Nat} (h : w.grownBy w' r) (k : w'.grownBy w'' r) : w.grownBy w'' r :=
 ⟨k.os.trans h.os,k.tape.trans h.tape,k.output.trans h.output,Nat.le_trans h.size k.size,fun i hi hr => (k.block i (by have := h.size;omega) hr).trans (h.block i hi hr)⟩
theorem xk7 {r : Option Nat} (h : w.grownBy w' r) (o : Obj) : w.grownBy (w'.alloc o) r := xq4 h (World.grownBy_alloc w' o r)
theorem xK0 (h : w.grownBy w' (some g)) (cs : Array Value) : w.grownBy (w'.setRow g cs) (some g) :=
 xq4 h ⟨rfl,rfl,rfl,by simp,fun k hk hr => setRow_other w' g k cs (fun e => hr (by rw [e]))⟩
theorem xqx {r : Option Nat} (h : w.grownBy w' r) {a : Addr} (ha : w.heap.size <= a.block) (u : Value) : w.grownBy (w'.setCell a u) r :=
 ⟨h.os,h.tape,h.output,by have := h.size;simp [World.setCell];omega,fun k hk hr => (Below.heap_setCell _ _ _ _ (by omega)).trans (h.block k hk hr)⟩
theorem xq3 (h : Below w.heap.size w w') (r : Option Nat) : w.grownBy w' r := ⟨h.os,h.tape,h.output,h.size,fun k hk _ => h.block k hk⟩
end
theorem xxi (p : Nat) (A : Option Addr) (len c : Nat) (w : World) (hc : w.cell? ⟨p,0,none⟩ = some (.slice A len c)) :
  Calls Tryz.prog 135 #[.pointer (some ⟨p,0,none⟩)] w fun e w' => e = .returned (.int .i64 (len : Int)) /\ w = w' := by
 go_enter Tryz.func135,Tryz.ntmps135
 go_wp2
 go_ret
 exact ⟨rfl,rfl⟩
theorem xz5 (v : Value) (len : Nat) (at' n : Int) (w : World) (hl : len <= 65536)
  (hw : Calls Tryz.prog 135 #[v] w fun e w' => e = .returned (.int .i64 (len : Int)) /\ w = w')
  (h0 : in64 at') (h1 : in64 n) :
  Calls Tryz.prog 200 #[v,.int .i64 at',.int .i64 n] w fun e w' => e = .returned (.bool (aIn len at' n)) /\ w = w' := by
 obtain ⟨h00,h01⟩ := h0
 obtain ⟨h10,h11⟩ := h1
 by_cases a0 : 0 <= at'
 ·by_cases n0 : 0 <= n
  ·have hw64 : wrap64 ((len : Int) - at') = (len : Int) - at' := by unfold wrap64;omega
   have E : Hid (decide (n <= (len : Int) - at') = aIn len at' n) := hidb (by unfold aIn;rw [Bool.eq_iff_iff,decide_eq_true_iff,decide_eq_true_iff];omega)
   go_enter Tryz.func200,Tryz.ntmps200
   go_wp2_with (go_at_call 135;refine hw.mono ?_;rintro e w' ⟨rfl,rfl⟩)
   go_ret
   exact ⟨congrArg Ending.returned (congrArg Value.bool E.out),rfl⟩
  ·have e : aIn len at' n = false := by unfold aIn;exact decide_eq_false (by omega)
   rw [e];clear e
   go_enter Tryz.func200,Tryz.ntmps200
   go_wp2
   go_ret
   exact ⟨rfl,rfl⟩
 ·have e : aIn len at' n = false := by unfold aIn;exact decide_eq_false (by omega)
  rw [e];clear e
  go_enter Tryz.func200,Tryz.ntmps200
  go_wp2
  go_ret
  exact ⟨rfl,rfl⟩
def gone : PanicEntry := { v := .iface 334 (.agg #[]),recovered := false }
theorem xwv (v : Value) (len : Nat) (at' n : Int) (w : World)
  (hi : Calls Tryz.prog 200 #[v,.int .i64 at',.int .i64 n] w fun e w' => e = .returned (.bool (aIn len at' n)) /\ w = w')
  (hno : aIn len at' n = false) :
  Calls Tryz.prog 252 #[v,.int .i64 at',.int .i64 n] w fun e w' => e = .panicked [gone] /\ w = w' := by
 rw [hno] at hi
 go_enter Tryz.func252,Tryz.ntmps252
 go_wp2_with (go_at_call 200;refine hi.mono ?_;rintro e w' ⟨rfl,rfl⟩)
 exact ⟨rfl,rfl,rfl⟩
theorem xxj (v : Value) (len : Nat) (at' : Int) (w : World)
  (hi : Calls Tryz.prog 200 #[v,.int .i64 at',.int .i64 0] w fun e w' => e = .returned (.bool (aIn len at' 0)) /\ w = w')
  (hin : aIn len at' 0 = true) :
  Calls Tryz.prog 252 #[v,.int .i64 at',.int .i64 0] w fun e w' => e = .returned (.slice none 0 0) /\ w = w' := by
 rw [hin] at hi
 go_enter Tryz.func252,Tryz.ntmps252
 go_wp2_with (go_at_call 200;refine hi.mono ?_;rintro e w' ⟨rfl,rfl⟩)
 go_ret
 exact ⟨rfl,rfl⟩
theorem xkn (p g len at' n : Nat) (w : World) (hc : w.cell? ⟨p,0,none⟩ = some (.slice (some ⟨g,0,none⟩) len len)) (hl : len <= 65536) (hn : 0 < n) (hin : at' + n <= len) :
  Calls Tryz.prog 252 #[.pointer (some ⟨p,0,none⟩),.int .i64 (at' : Int),.int .i64 (n : Int)] w fun e w' => e = .returned (.slice (some ⟨g,at',none⟩) n (len - at')) /\ w = w' := by
 have hi := xz5 (.pointer (some ⟨p,0,none⟩)) len (at' : Int) (n : Int) w hl (xxi p _ len len w hc) (by unfold in64;omega) (by unfold in64;omega)
 rw [show aIn len (at' : Int) (n : Int) = true by unfold aIn;exact decide_eq_true (by omega)] at hi
 have eb : ((n : Int) == 0) = false := by simp;omega
 have hw64 : wrap64 ((at' : Int) + (n : Int)) = ((at' + n : Nat) : Int) := by unfold wrap64;omega
 have h1 : (at' : Int) <= ((at' + n : Nat) : Int) := by omega
 have h2 : ((at' + n : Nat) : Int) <= (len : Int) := by omega
 go_enter Tryz.func252,Tryz.ntmps252
 go_wp2_with (go_at_call 200;refine hi.mono ?_;rintro e w' ⟨rfl,rfl⟩)
 go_ret
 exact ⟨by simp,rfl⟩
theorem xVu (W : World) (v : Value) : (Instr.typeAssert (.iface 334 v) 20 334 true).run Tryz.prog W = .ok (.tuple #[v,.bool true]) W := by kernel_rfl
theorem xZk (W : World) (T : TypeId) (v : Value) : (binOp .eql 20 (.iface T v) .nilIface).run Tryz.prog W = .ok (.bool false) W := by kernel_rfl
theorem xQl (W : World) : (binOp .eql 20 .nilIface .nilIface).run Tryz.prog W = .ok (.bool true) W := by kernel_rfl
theorem xzg (w : World) :
  Calls Tryz.prog 251 #[.nilIface] w fun e w' => e = .returned (.int .i64 0) /\ w = w' := by
 have q := xQl
 go_enter Tryz.func251,Tryz.ntmps251
 go_wp2
 go_ret
 exact ⟨rfl,rfl⟩
theorem yjg (w : World) :
  Calls Tryz.prog 251 #[.iface 334 (.agg #[])] w fun e w' => e = .returned (.int .i64 2) /\ w' = w.alloc (.cells #[] 334) := by
 have q := fun W => xZk W 334 (.agg #[])
 have qa := fun W => xVu W (.agg #[])
 go_enter Tryz.func251,Tryz.ntmps251
 go_wp2
 go_ret
 exact ⟨rfl,rfl⟩
theorem xX6 (p : Addr) (x : Int) (w : World) (hc : w.cell? p = some (.int .i64 x)) (hz : w.frozen? p = false) :
  CallsD Tryz.prog 250 #[.pointer (some p)] .returning w fun e u' w' => e = .returned (.tuple #[]) /\ u' = .returning /\ w' = w.setCell p (.int .i64 0) := by
 refine callsD_of_wpS Tryz.func250 rfl fun c₀ cs' hu => ?_
 change Code.wpS _ _ _ { tmps := #[.pointer (some p),undef,undef],defers := [] } _ _
 apply wpS_region
 simp [wpOpsS,go_sem,recoverD,hu]
 refine (xzg _).mono ?_
 rintro e w' ⟨rfl,rfl⟩
 simp [go_sem,hz,hc,bodyPostS,results,Tryz.results250]
 cases c₀
 simp_all
theorem xK1 (p : Addr) (x : Int) (w : World) (hc : w.cell? p = some (.int .i64 x)) (hz : w.frozen? p = false) :
  CallsD Tryz.prog 280 #[.pointer (some p)] .returning w fun e u' w' => e = .returned (.tuple #[]) /\ u' = .returning /\ w' = w.setCell p (.int .i64 0) := by
 refine callsD_of_wpS Tryz.func280 rfl fun c₀ cs' hu => ?_
 change Code.wpS _ _ _ { tmps := #[.pointer (some p),undef,undef],defers := [] } _ _
 apply wpS_region
 simp [wpOpsS,go_sem,recoverD,hu]
 refine (xzg _).mono ?_
 rintro e w' ⟨rfl,rfl⟩
 simp [go_sem,hz,hc,bodyPostS,results,Tryz.results280]
 cases c₀
 simp_all
theorem yxg (p : Addr) (x : Int) (w : World) (hb : p.block < w.heap.size) (hc : w.cell? p = some (.int .i64 x)) (hz : w.frozen? p = false) :
  CallsD Tryz.prog 272 #[.pointer (some p)] (.panicking [gone]) w fun e u' w' =>
   e = .returned (.tuple #[]) /\ u' = .panicking [{ gone with recovered := true }] /\ w' = (w.alloc (.cells #[] 334)).setCell p (.int .i64 2) := by
 have hz' : (w.alloc (.cells #[] 334)).frozen? p = false := by rw [((Below.refl w.heap.size w).alloc (Nat.le_refl _) _).frozen hb];exact hz
 have hc' : (w.alloc (.cells #[] 334)).cell? p = some (.int .i64 x) := by rw [World.cell?_alloc_lt _ _ _ hb];exact hc
 refine callsD_of_wpS Tryz.func272 rfl fun c₀ cs' hu => ?_
 change Code.wpS _ _ _ { tmps := #[.pointer (some p),undef,undef],defers := [] } _ _
 unfold gone at hu
 apply wpS_region
 simp [wpOpsS,go_sem,recoverD,hu]
 refine (yjg _).mono ?_
 rintro e w' ⟨rfl,rfl⟩
 simp [go_sem,hz',hc',bodyPostS,results,Tryz.results272,gone]
theorem yjh (p : Addr) (x : Int) (w : World) (hc : w.cell? p = some (.int .i64 x)) (hz : w.frozen? p = false) :
  CallsD Tryz.prog 272 #[.pointer (some p)] .returning w fun e u' w' => e = .returned (.tuple #[]) /\ u' = .returning /\ w' = w.setCell p (.int .i64 0) := by
 refine callsD_of_wpS Tryz.func272 rfl fun c₀ cs' hu => ?_
 change Code.wpS _ _ _ { tmps := #[.pointer (some p),undef,undef],defers := [] } _ _
 apply wpS_region
 simp [wpOpsS,go_sem,recoverD,hu]
 refine (xzg _).mono ?_
 rintro e w' ⟨rfl,rfl⟩
 simp [go_sem,hz,hc,bodyPostS,results,Tryz.results272]
 cases c₀
 simp_all
theorem xK2 (pages : Int) (w : World) (h : pages < 4 \/ 1024 < pages) :
  Calls Tryz.prog 62 #[.int .i64 pages] w fun e w' => e = .returned (.tuple #[.pointer none,.int .i64 1]) /\ w = w' := by
 rcases h with h | h
 ·go_enter Tryz.func62,Tryz.ntmps62
  go_wp2
  go_ret2
  exact ⟨rfl,rfl⟩
 ·have h' : ¬ pages < 4 := by omega
  go_enter Tryz.func62,Tryz.ntmps62
  go_wp2
  go_ret2
  exact ⟨rfl,rfl⟩
theorem yxh (n : Nat) : (madeCells (Value.int .u64 0).cells (n * 1)).toList = (List.replicate n 0).map wv := by
 rw [Nat.mul_one]
 exact (toList_madeCells_one _ n).trans (by simp [wv])
theorem xVv {w : World} {base : Nat} {g n : Nat} {xs : List Nat} (h : w.ownsRow base 273 1 (.slice (some ⟨g,0,none⟩) n n) n (xs.map wv)) : w.heap[g]? = some (.cells (xs.map wv).toArray 273 (0,0)) := by
 rcases h.2 with ⟨h1,_⟩ | ⟨g',cap,cur,h1,_,hh,_,_,hs,ht⟩
 ·cases h1
 ·injection h1 with h2 h3 h4
  injection h2 with h2
  injection h2 with h2
  subst h2 h4
  rw [hh,<- ht,List.take_of_length_le (by simp [hs])]
set_option maxRecDepth 100000 in
theorem yji (pages : Nat) (w : World) (h0 : 4 <= pages) (h1 : pages <= 1024) :
  Calls Tryz.prog 62 #[.int .i64 (pages : Int)] w fun e w' => ∃ p g,e = .returned (.tuple #[.pointer (some ⟨p,0,none⟩),.int .i64 0]) /\ Ar w' w.heap.size p g (64 * pages) (List.replicate (64 * pages) 0) /\ Below w.heap.size w w' := by
 obtain ⟨i0,hi,hz0,hz1,hz2⟩ := info_parts info_u64
 go_enter Tryz.func62,Tryz.ntmps62
 go_wp2_with (at_make;refine wpList_make_full w rfl _ _ 206 rfl w.heap.size 273 i0 (.int .u64 0) 1 Tryz.underlying206 hi hz0 hz1 .i64 .i64 _ _ (64 * pages) rfl rfl (by omega) (by omega) (by rw [hz2];omega) (by unfold maxLen;omega) (Nat.le_refl _) ?_;intro w1 hown hgrow)
 go_ret2
 rw [yxh] at hown
 have hlt : w.heap.size < w1.heap.size := (hown.lt w.heap.size rfl).2
 refine ⟨w1.heap.size,w.heap.size,rfl,⟨by simp,?_,by simp,by omega,by omega,by omega,by omega⟩,?_⟩
 ·rw [Below.heap_alloc _ _ _ hlt];exact xVv hown
 exact ((Below.refl _ _).grown hgrow (Nat.le_refl _) (fun k hk => by cases hk)).alloc (by omega) _
theorem yq6 {w : World} {B p g len : Nat} {xs : List Nat} (ha : Ar w B p g len xs) (at' n : Int) (h0 : in64 at') (h1 : in64 n) :
  Calls Tryz.prog 200 #[.pointer (some ⟨p,0,none⟩),.int .i64 at',.int .i64 n] w fun e w' => e = .returned (.bool (aIn len at' n)) /\ w = w' :=
 xz5 _ len at' n w ha.small (xxi p _ _ _ w ha.cell) h0 h1
theorem xX7 {p g len : Nat} {xs : List Nat} (at' x : Nat) {w : World} {B : Nat} (ha : Ar w B p g len xs) (hx : xs[at']? = some x) :
  Calls Tryz.prog 219 #[.pointer (some ⟨p,0,none⟩),.int .i64 (at' : Int)] w fun e w' => e = .returned (.tuple #[.int .u64 (x : Int),.int .i64 0]) /\ Below w.heap.size w w' := by
 have hl := ha.hlen
 have hat : at' < len := by have := (List.getElem?_eq_some_iff.1 hx).1;omega
 have hgl := ha.lt
 have hpl := ha.ltp
 have hcx : w.cell? ⟨g,at',none⟩ = some (.int .u64 (x : Int)) := by
  rw [ha.word,List.getElem?_map,hx];rfl
 have hsm := ha.small
 have hcx' : (w.alloc (.cells #[.int .i64 0] 77)).cell? ⟨g,at',none⟩ = some (.int .u64 (x : Int)) := by rw [World.cell?_alloc_lt w _ _ hgl];exact hcx
 have cr := xkn p g len at' 1 (w.alloc (.cells #[.int .i64 0] 77)) (by rw [World.cell?_alloc_lt w _ _ hpl];exact ha.cell) hsm (by omega) (by omega)
 clear ha hx hl hcx hsm
 go_enter_defers Tryz.func219,Tryz.ntmps219
 go_wp2_with (go_at_call 252;refine cr.mono ?_;rintro e w' ⟨rfl,rfl⟩)
 refine leaves_cons (f := 272) (args := #[.pointer (some ⟨w.heap.size,0,none⟩)]) (by simp) (by simp [go_sem]) ?_
 refine (yjh ⟨w.heap.size,0,none⟩ 0 _ (by simp) (by simp [go_sem])).mono ?_
 rintro e u' w'' ⟨rfl,rfl,rfl⟩
 simp [Leaves,settle,results,Tryz.results219,go_sem]
 exact (Below.refl _ _).alloc (Nat.le_refl _) _
theorem xZl (v : Value) (len : Nat) (at' : Int) (w : World) (hl : len <= 65536)
  (hw : Calls Tryz.prog 135 #[v] (w.alloc (.cells #[.int .i64 0] 77)) fun e w' => e = .returned (.int .i64 (len : Int)) /\ w.alloc (.cells #[.int .i64 0] 77) = w')
  (h0 : in64 at') (hno : aIn len at' 1 = false) :
  Calls Tryz.prog 219 #[v,.int .i64 at'] w fun e w' => e = .returned (.tuple #[.int .u64 0,.int .i64 2]) /\ Below w.heap.size w w' := by
 have cr := xwv v len at' 1 _ (xz5 v len at' 1 _ hl hw h0 (by unfold in64;omega)) hno
 clear hw hno h0
 go_enter_defers Tryz.func219,Tryz.ntmps219
 go_wp2_with (go_at_call 252;refine cr.mono ?_;rintro e w' ⟨rfl,rfl⟩)
 refine leaves_cons (f := 272) (args := #[.pointer (some ⟨w.heap.size,0,none⟩)]) (by simp) (by simp [go_sem]) ?_
 refine (yxg ⟨w.heap.size,0,none⟩ 0 _ (by simp) (by simp) (by simp [go_sem])).mono ?_
 rintro e u' w'' ⟨rfl,rfl,rfl⟩
 simp [Leaves,settle,results,Tryz.results219,go_sem]
 exact ((Below.refl _ _).alloc (Nat.le_refl _) _).alloc (by simp) _
theorem xvb {P : Program} {w : World} {ops : Array Oper} {rest : List Oper} {o : Oper} {a : Act} {Q : Exit -> Act -> World -> Prop} (hgd : o.guard = none) (d s : Operand) (dT sT : TypeId)
  (ho : o.op = .call { callee := .builtin .copy,args := #[d,s],argTypes := #[dT,sT] }) (elem : TypeId) (hu : P.underlying dT = some (.slice elem)) (hsz : (P.info? elem).map (·.size) = some 1)
  (g off n dCap : Nat) (A : Option Addr) (sCap : Nat) (hd : a.eval d = .slice (some ⟨g,off,none⟩) n dCap) (hs : a.eval s = .slice A n sCap)
  (xs ys : List Nat) (t : TypeId) (hg : w.heap[g]? = some (.cells (xs.map wv).toArray t (0,0))) (B : Nat) (hsl : Sl w B A n (ys.map wv)) (hn : 0 < n) (hfit : off + n <= xs.length)
  (h : ∀ w2,Hid (w2 = w.setRow g ((aStore xs off ys).map wv).toArray) -> wpList P ops Q rest (a.put o.dst (goInt n)) w2) : wpList P ops Q (o :: rest) a w := by
 have hl : ys.length = n := by have := hsl.1;simpa using this
 obtain ⟨b,off2,rfl,hb,hcells⟩ := hsl.2 hn
 refine wpList_copy_own hgd d s dT sT ho elem hu hsz g off n dCap ⟨b,off2,none⟩ n sCap hd hs _ t hg (ys.map wv) (by rw [List.length_map,hl];exact (Nat.min_self n).symm) ?_ (by simp;omega) ?_ ?_
 ·intro j v hj
  have hjn : j < n := by have := (List.getElem?_eq_some_iff.1 hj).1;rw [List.length_map] at this;omega
  rw [Go.WideShapes.add_plain,hcells j hjn];exact hj
 ·intro v hv
  obtain ⟨x,_,rfl⟩ := List.mem_map.1 hv;rfl
 ·have := h _ (show Hid (_ = _) from rfl)
  rw [List.length_map,hl]
  unfold aStore at this
  simpa [hl] using this
def eCell (w : World) : World := w.alloc (.cells #[.int .i64 0] 77)
theorem yxi {w w1 : World} (hb : Below (eCell w).heap.size (eCell w) w1) : w1.cell? ⟨w.heap.size,0,none⟩ = some (.int .i64 0) := by
 unfold eCell at hb;rw [hb.cell (by simp)];simp
theorem yxj {w w1 : World} (hb : Below (eCell w).heap.size (eCell w) w1) : w1.frozen? ⟨w.heap.size,0,none⟩ = false := by
 unfold eCell at hb;rw [hb.frozen (by simp)];simp [go_sem]
theorem yjj {w w2 : World} {B p g len : Nat} {xs ys : List Nat} (ha : Ar w B p g len xs) (hw2 : w2 = (eCell w).setRow g (ys.map wv).toArray) (hy : ys.length = len) :
  w2.cell? ⟨w.heap.size,0,none⟩ = some (.int .i64 0) /\ w2.frozen? ⟨w.heap.size,0,none⟩ = false /\
   Ar ((w2.setCell ⟨w.heap.size,0,none⟩ (.int .i64 0)).setCell ⟨w.heap.size,0,none⟩ (.int .i64 0)) B p g len ys /\ w.grownBy ((w2.setCell ⟨w.heap.size,0,none⟩ (.int .i64 0)).setCell ⟨w.heap.size,0,none⟩ (.int .i64 0)) (some g) := by
 have hg := ha.lt
 have hp := ha.ltp
 subst hw2
 have hk : ((eCell w).setRow g (ys.map wv).toArray).heap[w.heap.size]? = (eCell w).heap[w.heap.size]? := setRow_other _ _ _ _ (by omega)
 refine ⟨?_,?_,?_,?_⟩
 ·rw [World.cell?_of_block (w := eCell w) (a := ⟨w.heap.size,0,none⟩) hk];exact yxi (Below.refl _ _)
 ·rw [World.frozen?_of_block (w := eCell w) (a := ⟨w.heap.size,0,none⟩) hk];exact yxj (Below.refl _ _)
 ·exact (((ha.alloc _).setRow hy).setCell (by show w.heap.size ≠ p;omega) (by show w.heap.size ≠ g;omega) _).setCell (by show w.heap.size ≠ p;omega) (by show w.heap.size ≠ g;omega) _
 ·exact xqx (xqx (xK0 (World.grownBy_alloc _ _ _) _) (Nat.le_refl _) _) (Nat.le_refl _) _
theorem code_arow_any {p g len : Nat} {xs : List Nat} (at' n : Nat) {w : World} {B : Nat} (ha : Ar w B p g len xs) (hin : at' + n <= len) :
  ∃ A c,(Calls Tryz.prog 252 #[.pointer (some ⟨p,0,none⟩),.int .i64 (at' : Int),.int .i64 (n : Int)] w fun e w' => e = .returned (.slice A n c) /\ w = w') /\
   (A = none -> c = 0) /\ Sl w w.heap.size A n ((aRow xs at' n).map wv) /\ (0 < n -> A = some ⟨g,at',none⟩) := by
 have hl := ha.hlen
 have hsm := ha.small
 have hlen := xVs xs at' n (by omega)
 by_cases h0 : n = 0
 ·subst h0
  exact ⟨none,0,xxj _ len at' _ (yq6 ha _ _ (by unfold in64;omega) (by unfold in64;omega)) (by unfold aIn;exact decide_eq_true (by omega)),fun _ => rfl,by rw [yjf];exact Sl.nil_,fun h => absurd h (by omega)⟩
 ·refine ⟨_,_,xkn p g len at' n _ ha.cell hsm (by omega) hin,(fun h => by cases h),⟨by rw [List.length_map];exact hlen,fun _ => ⟨g,at',rfl,ha.lt,fun j hj => ?_⟩⟩,fun _ => rfl⟩
  rw [ha.word,List.getElem?_map,List.getElem?_map]
  unfold aRow
  rw [List.getElem?_take_of_lt hj,List.getElem?_drop]
theorem xvy (v : Value) (len : Nat) (at' : Int) (A : Option Addr) (c : Nat) (w : World) (hl : len <= 65536)
  (hw : Calls Tryz.prog 135 #[v] (eCell w) fun e w' => e = .returned (.int .i64 (len : Int)) /\ eCell w = w')
  (h0 : in64 at') (hin : aIn len at' 0 = true) :
  Calls Tryz.prog 203 #[v,.int .i64 at',.slice A 0 c] w fun e w' => e = .returned (.int .i64 0) /\ Below w.heap.size w w' := by
 have cr := xxj v len at' _ (xz5 v len at' 0 _ hl hw h0 (by unfold in64;omega)) hin
 unfold eCell at cr
 clear hw hin h0
 have hu := Tryz.underlying206
 have hsz : (Tryz.prog.info? 273).map (·.size) = some 1 := by kernel_rfl
 go_enter_defers Tryz.func203,Tryz.ntmps203
 go_wp2_with (first
  | (go_at_call 252;refine cr.mono ?_;rintro e w' ⟨rfl,rfl⟩)
  | (refine wpList_copy_nothing rfl (.tmp 12) (.tmp 13) 206 206 rfl 273 hu hsz none A 0 0 0 c rfl rfl rfl ?_))
 refine leaves_cons (f := 250) (args := #[.pointer (some ⟨w.heap.size,0,none⟩)]) (by simp) (by simp [go_sem]) ?_
 refine (xX6 ⟨w.heap.size,0,none⟩ 0 _ (by simp) (by simp [go_sem])).mono ?_
 rintro e u' w'' ⟨rfl,rfl,rfl⟩
 simp [Leaves,settle,results,Tryz.results203,go_sem]
 exact (Below.refl _ _).alloc (Nat.le_refl _) _
theorem xww {p g len : Nat} {xs ys : List Nat} (at' : Nat) (A : Option Addr) (n c : Nat) {w : World} {B : Nat} (ha : Ar w B p g len xs) (hs : Sl w w.heap.size A n (ys.map wv)) (hin : at' + n <= len) :
  Calls Tryz.prog 203 #[.pointer (some ⟨p,0,none⟩),.int .i64 (at' : Int),.slice A n c] w fun e w' => e = .returned (.int .i64 0) /\ Ar w' B p g len (aStore xs at' ys) /\ w.grownBy w' (some g) := by
 have hl := ha.hlen
 have hly : ys.length = n := by have := hs.1;simpa using this
 have hsm := ha.small
 by_cases h0 : n = 0
 ·subst h0
  obtain rfl : ys = [] := List.eq_nil_of_length_eq_zero hly
  refine (xvy _ len at' A c w hsm (xxi p _ _ _ _ (ha.alloc _).cell) (by unfold in64;omega) (by unfold aIn;exact decide_eq_true (by omega))).mono ?_
  rintro e w' ⟨rfl,hb⟩
  exact ⟨rfl,by rw [xva];exact ha.below hb (Nat.le_refl _),xq3 hb _⟩
 ·have h1 := ha.alloc (.cells #[.int .i64 0] 77)
  have cr := xkn p g len at' n _ h1.cell hsm (by omega) hin
  have hsl := (hs.alloc (Nat.le_refl _) (.cells #[.int .i64 0] 77)).more (B' := w.heap.size + 1) (by omega)
  have hu := Tryz.underlying206
  have hsz : (Tryz.prog.info? 273).map (·.size) = some 1 := by kernel_rfl
  have hpl := ha.ltp
  have hgl := ha.lt
  have H1 := hidb h1
  have HS := hidb hsl
  have hg := h1.heap
  have HE : ∀ w2,Hid (w2 = (w.alloc (.cells #[.int .i64 0] 77)).setRow g ((aStore xs at' ys).map wv).toArray) -> _ := fun w2 h => yjj ha (ys := aStore xs at' ys) h.out (by rw [xzx _ _ _ (by omega)];exact hl)
  clear hs h1 hsl
  have HG := hidb hg;clear hg
  go_enter_defers Tryz.func203,Tryz.ntmps203
  go_wp2_with (first
   | (go_at_call 252;refine cr.mono ?_;rintro e w' ⟨rfl,rfl⟩)
   | (refine xvb rfl (.tmp 12) (.tmp 13) 206 206 rfl 273 hu hsz g at' n (len - at') A c rfl rfl xs ys _ HG.out _ HS.out (by omega) (by omega) ?_;intro w2 hw2;obtain ⟨hce,hfe,HA,HGR⟩ := HE w2 hw2))
  refine leaves_cons (f := 250) (args := #[.pointer (some ⟨w.heap.size,0,none⟩)]) (by simp) (by simp [go_sem]) ?_
  refine (xX6 ⟨w.heap.size,0,none⟩ 0 _ (World.cell?_setCell_same _ _ _ hce) (by simp [hfe])).mono ?_
  rintro e u' w'' ⟨rfl,rfl,rfl⟩
  have hc2 := World.cell?_setCell_same (w2.setCell ⟨w.heap.size,0,none⟩ (.int .i64 0)) ⟨w.heap.size,0,none⟩ (.int .i64 0) (World.cell?_setCell_same _ _ (.int .i64 0) hce)
  simp [Leaves,settle,results,Tryz.results203,go_sem,hc2]
  exact ⟨HA,HGR⟩
theorem xZm {P : Program} (w : World) (t e ty : TypeId) (ht : P.underlying t = some (.slice e)) (hv : ∀ w,(zeroValue e).run P w = .ok (.int .u64 0) w) (g o n c : Nat) (xs : List Nat) (u : TypeId) (hn : 0 < n)
  (hg : w.heap[g]? = some (.cells (xs.map wv).toArray u (0,0))) (hfit : o + n <= xs.length) :
  (Builtin.clear_ #[t] ty #[.slice (some ⟨g,o,none⟩) n c]).run P w = .ok (.tuple #[]) (w.setRow g ((aStore xs o (List.replicate n 0)).map wv).toArray) := by
 have hzc : (Builtin.zeroCells (Value.int .u64 0).cells n).toList = (List.replicate n 0).map wv := by
  simp [Builtin.zeroCells,Value.cells,wv]
  apply List.ext_getElem
  ·simp
  ·intro i h1 h2
   simp [Nat.mod_one]
 have hst := run_storeCells_at P g o u ((List.replicate n 0).map wv) 0 _ w hg (by simp;omega) (by intro v hv';obtain ⟨x,_,rfl⟩ := List.mem_map.1 hv';rfl)
 simp only [Nat.add_zero] at hst
 obtain ⟨m,rfl⟩ : ∃ m,n = m + 1 := ⟨n - 1,by omega⟩
 have he : (List.take o (xs.map wv).toArray.toList ++ (List.replicate (m + 1) 0).map wv ++ List.drop (o + ((List.replicate (m + 1) 0).map wv).length) (xs.map wv).toArray.toList).toArray = ((aStore xs o (List.replicate (m + 1) 0)).map wv).toArray := by
  unfold aStore
  simp
 rw [he] at hst
 rw [show (List.replicate (m + 1) 0).map wv = List.replicate (m + 1) (wv 0) by simp] at hst
 simp [Builtin.clear_,run_underlying ht,hv,hzc]
 rw [hst]
 rfl
theorem xko {P : Program} {w : World} {ops : Array Oper} {rest : List Oper} {o : Oper} {a : Act} {Q : Exit -> Act -> World -> Prop} (hgd : o.guard = none) (d : Operand) (t : TypeId)
  (ho : o.op = .call { callee := .builtin .clear,args := #[d],argTypes := #[t] }) (e : TypeId) (ht : P.underlying t = some (.slice e)) (hv : ∀ w,(zeroValue e).run P w = .ok (.int .u64 0) w)
  (g off n c : Nat) (hd : a.eval d = .slice (some ⟨g,off,none⟩) n c) (xs : List Nat) (u : TypeId) (hg : w.heap[g]? = some (.cells (xs.map wv).toArray u (0,0))) (hn : 0 < n) (hfit : off + n <= xs.length)
  (h : ∀ w2,Hid (w2 = w.setRow g ((aStore xs off (List.replicate n 0)).map wv).toArray) -> wpList P ops Q rest (a.put o.dst (.tuple #[])) w2) : wpList P ops Q (o :: rest) a w := by
 refine wpList_plain hgd fun K hK => ?_
 have hrun := xZm (P := P) w t e o.type ht hv g off n c xs u hn hg hfit
 unfold Oper.wp
 simp [execOp,ho,resolve,invoke,builtin,hd,hrun,Result.andThen]
 exact hK _ _ (h _ (show Hid (_ = _) from rfl))
theorem xvz {P : Program} {w : World} {ops : Array Oper} {rest : List Oper} {o : Oper} {a : Act} {Q : Exit -> Act -> World -> Prop} (hgd : o.guard = none) (d : Operand) (t : TypeId)
  (ho : o.op = .call { callee := .builtin .clear,args := #[d],argTypes := #[t] }) (e : TypeId) (ht : P.underlying t = some (.slice e)) (hv : ∀ w,(zeroValue e).run P w = .ok (.int .u64 0) w)
  (hd : a.eval d = .slice none 0 0) (h : wpList P ops Q rest (a.put o.dst (.tuple #[])) w) : wpList P ops Q (o :: rest) a w := by
 refine wpList_plain hgd fun K hK => ?_
 unfold Oper.wp
 simp [execOp,ho,resolve,invoke,builtin,hd,Builtin.clear_,run_underlying ht,Result.andThen]
 exact hK _ _ h
theorem yq7 (w : World) : (zeroValue 273).run Tryz.prog w = .ok (.int .u64 0) w := by kernel_rfl
theorem xwx (v : Value) (len : Nat) (at' : Int) (w : World) (hl : len <= 65536)
  (hw : Calls Tryz.prog 135 #[v] (eCell w) fun e w' => e = .returned (.int .i64 (len : Int)) /\ eCell w = w')
  (h0 : in64 at') (hin : aIn len at' 0 = true) :
  Calls Tryz.prog 242 #[v,.int .i64 at',.int .i64 0] w fun e w' => e = .returned (.int .i64 0) /\ Below w.heap.size w w' := by
 have cr := xxj v len at' _ (xz5 v len at' 0 _ hl hw h0 (by unfold in64;omega)) hin
 unfold eCell at cr
 clear hw hin h0
 have hu := Tryz.underlying206
 go_enter_defers Tryz.func242,Tryz.ntmps242
 go_wp2_with (first
  | (go_at_call 252;refine cr.mono ?_;rintro e w' ⟨rfl,rfl⟩)
  | (refine xvz rfl (.tmp 11) 206 rfl 273 hu yq7 rfl ?_))
 refine leaves_cons (f := 280) (args := #[.pointer (some ⟨w.heap.size,0,none⟩)]) (by simp) (by simp [go_sem]) ?_
 refine (xK1 ⟨w.heap.size,0,none⟩ 0 _ (by simp) (by simp [go_sem])).mono ?_
 rintro e u' w'' ⟨rfl,rfl,rfl⟩
 simp [Leaves,settle,results,Tryz.results242,go_sem]
 exact (Below.refl _ _).alloc (Nat.le_refl _) _
theorem yxk {p g len : Nat} {xs : List Nat} (at' n : Nat) {w : World} {B : Nat} (ha : Ar w B p g len xs) (hin : at' + n <= len) :
  Calls Tryz.prog 242 #[.pointer (some ⟨p,0,none⟩),.int .i64 (at' : Int),.int .i64 (n : Int)] w fun e w' => e = .returned (.int .i64 0) /\ Ar w' B p g len (aStore xs at' (List.replicate n 0)) /\ w.grownBy w' (some g) := by
 have hl := ha.hlen
 have hsm := ha.small
 by_cases h0 : n = 0
 ·subst h0
  refine (xwx _ len at' w hsm (xxi p _ _ _ _ (ha.alloc _).cell) (by unfold in64;omega) (by unfold aIn;exact decide_eq_true (by omega))).mono ?_
  rintro e w' ⟨rfl,hb⟩
  exact ⟨rfl,by rw [show List.replicate 0 0 = ([] : List Nat) from rfl,xva];exact ha.below hb (Nat.le_refl _),xq3 hb _⟩
 ·have h1 := ha.alloc (.cells #[.int .i64 0] 77)
  have cr := xkn p g len at' n _ h1.cell hsm (by omega) hin
  have hu := Tryz.underlying206
  have HG := hidb h1.heap
  have HE : ∀ w2,Hid (w2 = (w.alloc (.cells #[.int .i64 0] 77)).setRow g ((aStore xs at' (List.replicate n 0)).map wv).toArray) -> _ := fun w2 h => yjj ha (ys := aStore xs at' (List.replicate n 0)) h.out (by rw [xzx _ _ _ (by simp;omega)];exact hl)
  clear h1
  go_enter_defers Tryz.func242,Tryz.ntmps242
  go_wp2_with (first
   | (go_at_call 252;refine cr.mono ?_;rintro e w' ⟨rfl,rfl⟩)
   | (refine xko rfl (.tmp 11) 206 rfl 273 hu yq7 g at' n (len - at') rfl xs _ HG.out (by omega) (by omega) ?_;intro w2 hw2;obtain ⟨hce,hfe,HA,HGR⟩ := HE w2 hw2))
  refine leaves_cons (f := 280) (args := #[.pointer (some ⟨w.heap.size,0,none⟩)]) (by simp) (by simp [go_sem]) ?_
  refine (xK1 ⟨w.heap.size,0,none⟩ 0 _ (World.cell?_setCell_same _ _ _ hce) (by simp [hfe])).mono ?_
  rintro e u' w'' ⟨rfl,rfl,rfl⟩
  have hc2 := World.cell?_setCell_same (w2.setCell ⟨w.heap.size,0,none⟩ (.int .i64 0)) ⟨w.heap.size,0,none⟩ (.int .i64 0) (World.cell?_setCell_same _ _ (.int .i64 0) hce)
  simp [Leaves,settle,results,Tryz.results242,go_sem,hc2]
  exact ⟨HA,HGR⟩
theorem xk8 (A : Option Addr) (n c : Nat) (zs : List Int) (v : Int) (w : World) (B : Nat) (hs : Sl w B A n (zs.map iv)) (hn : n <= 9223372036854775806) :
  Calls Tryz.prog 38 #[.slice A n c,.int .i64 v] w fun e w' => e = .returned (.bool (decide (v ∈ zs))) /\ w = w' := by
 have l1 : zs.length = n := by have := hs.1;simpa using this
 have L1 := hidb l1
 have HS := hidb hs
 clear hs l1
 go_enter Tryz.func38,Tryz.ntmps38
 go_wp2
 go_loop [8] (fun k => ∃ j : Nat,j <= n /\ Hid (∀ i,i < j -> zs[i]? ≠ some v) /\ k = .int .i64 j) (fun k => (n - intOf k).toNat)
 case atStart => exact ⟨0,by omega,hidb (fun i h => absurd h (Nat.not_lt_zero _)),rfl⟩
 case round =>
  obtain ⟨j,hj,HA,rfl⟩ := hrel
  by_cases hlt : j < n
  ·obtain ⟨b,off,x,rfl,hx,hc⟩ := HS.out.int_ hlt
   have HX := hidb hx
   clear hx
   by_cases e : x = v
   ·have HF : Hid (decide (v ∈ zs) = true) := hidb (decide_eq_true (by rw [<- e];exact List.mem_of_getElem? HX.out))
    have eb : (x == v) = true := by simpa using e
    clear e
    go_wp2
    go_ret
    exact ⟨by rw [HF.out];rfl,rfl⟩
   ·have eb : (x == v) = false := by simpa using e
    have HE := hidb e
    clear e
    go_wp2
    go_round
    case rel =>
     refine ⟨j + 1,by omega,hidb (fun i hi => ?_),by go_num⟩
     by_cases h : i = j
     ·subst h;rw [HX.out];intro h2;exact HE.out (by simpa using h2)
     ·exact HA.out i (by omega)
    case measure => simp [intOf];omega
  ·have HF : Hid (decide (v ∈ zs) = false) := hidb (decide_eq_false (fun hmem => by
    obtain ⟨i,hi,e⟩ := List.getElem_of_mem hmem
    exact HA.out i (by have := L1.out;omega) (by rw [List.getElem?_eq_getElem hi,e])))
   go_wp2
   go_ret
   exact ⟨by rw [HF.out];rfl,rfl⟩
theorem yjk (A A2 : Option Addr) (n c m d : Nat) (xs ys : List Int) (w : World) (B B2 : Nat) (hs : Sl w B A n (xs.map iv)) (hs2 : Sl w B2 A2 m (ys.map iv)) (hn : n <= 9223372036854775806) (hm : m <= 9223372036854775806) :
  Calls Tryz.prog 17 #[.slice A n c,.slice A2 m d] w fun e w' => e = .returned (.bool (decide (xs = ys))) /\ ∃ q,w' = w.drewN q := by
 have l1 : xs.length = n := by have := hs.1;simpa using this
 have l2 : ys.length = m := by have := hs2.1;simpa using this
 by_cases hnm : n = m
 ·subst hnm
  have L1 := hidb l1
  have L2 := hidb l2
  have HS := hidb hs
  have HS2 := hidb hs2
  clear hs hs2 l1 l2
  go_enter Tryz.func17,Tryz.ntmps17
  go_wp2
  go_loopw [13] (fun k wr => ∃ j q : Nat,j <= n /\ Hid (∀ i,i < j -> xs[i]? = ys[i]?) /\ k = .int .i64 j /\ wr = w.drewN q) (fun k _ => (n - intOf k).toNat)
  case atStart => exact ⟨0,0,by omega,hidb (fun i h => absurd h (Nat.not_lt_zero _)),rfl,rfl⟩
  case round =>
   obtain ⟨j,q,hj,HA,rfl,rfl⟩ := hrel
   by_cases hlt : j < n
   ·obtain ⟨b,off,x,rfl,hx,hc1⟩ := HS.out.int_ hlt
    obtain ⟨b2,off2,y,rfl,hy,hc2⟩ := HS2.out.int_ hlt
    have HX := hidb hx
    have HY := hidb hy
    clear hx hy
    have hi0 : (0 : Int) <= (j : Int) := by omega
    have hi1 : (j : Int) < (n : Int) := by omega
    by_cases e : x = y
    ·have eb : (x != y) = false := by simpa using e
     have HE := hidb e
     clear e
     go_wp2
     go_quiet (fail)
     go_wp2
     go_roundw
     case rel =>
      refine ⟨j + 1,_,by omega,hidb (fun i hi => ?_),by go_num,rfl⟩
      by_cases h : i = j
      ·subst h;rw [HX.out,HY.out,HE.out]
      ·exact HA.out i (by omega)
     case measure => simp [intOf];omega
    ·have eb : (x != y) = true := by simpa using e
     have HF : Hid (decide (xs = ys) = false) := hidb (decide_eq_false (fun h => e (by rw [h,HY.out] at HX;simpa using HX.out.symm)))
     clear e
     go_wp2
     go_quiet (fail)
     go_wp2
     go_ret
     exact ⟨by rw [HF.out];rfl,_,World.drewN_drewN _ _ _⟩
   ·have HF : Hid (decide (xs = ys) = true) := hidb (decide_eq_true (List.ext_getElem? (fun i => by
     by_cases hi : i < n
     ·exact HA.out i (by omega)
     ·rw [List.getElem?_eq_none (by have := L1.out;omega),List.getElem?_eq_none (by have := L2.out;omega)])))
    go_wp2
    go_ret
    exact ⟨by rw [HF.out];rfl,q,rfl⟩
 ·have HF : Hid (decide (xs = ys) = false) := hidb (decide_eq_false (fun h => hnm (by rw [<- l1,<- l2,h])))
  have eb : ((n : Int) != (m : Int)) = true := by simp;omega
  clear hs hs2 l1 l2 hnm
  go_enter Tryz.func17,Tryz.ntmps17
  go_wp2
  go_ret
  exact ⟨by rw [HF.out];rfl,0,rfl⟩
end Go.Proofs.YtlcdgmjinhbncaaGreat
namespace Go.Proofs.YtlcdgmjinhbncaaGreat
set_option linter.unusedVariables false
def cGo (w : List Nat) (len : Int) : Nat -> Int -> List Int -> Option (List Int)
 | 0,_,_ => none
 | k + 1,h,out =>
  if h = 0 then (if (out.length : Int) = len then some out else none)
  else if h < 0 \/ (w.length : Int) < h \/ (h - 1) ∈ out \/ len <= (out.length : Int) then none
  else if w.length < w.getD (h - 1).toNat 0 then none
  else cGo w len k (w.getD (h - 1).toNat 0 : Nat) (out ++ [h - 1])
def cList (w : List Nat) (c : Int × Int) : Option (List Int) := cGo w c.2 (c.2.toNat + 1) c.1 []
def cStep (s : List Nat × (Int × Int)) (a : Int) : List Nat × (Int × Int) := (s.1.set a.toNat s.2.1.toNat,(a + 1,s.2.2 + 1))
def cAll (s : List Nat × (Int × Int)) (at' : List Int) : List Nat × (Int × Int) := at'.foldl cStep s
def cIn (n : Nat) (at' : List Int) : Bool := at'.all fun a => decide (0 <= a /\ a < (n : Int))
def cClash (l at' : List Int) : Bool := (List.range at'.length).any fun i => decide (at'.getD i 0 ∈ l \/ at'.getD i 0 ∈ at'.take i)
def cPush (w : List Nat) (c : Int × Int) (at' : List Int) : List Nat × (Int × Int) × Int :=
 match cList w c with
 | none => (w,c,9)
 | some l => if cIn w.length at' then (if cClash l at' then (w,c,1) else ((cAll (w,c) at').1,(cAll (w,c) at').2,0)) else (w,c,2)
def cWithout (w : List Nat) (l : List Int) (a : Int) : List Nat × (Int × Int) := cAll (w.set a.toNat 0,(0,0)) (l.reverse.filter (fun x => x != a))
def cPop (w : List Nat) (c : Int × Int) : List Nat × (Int × Int) × Int × Int :=
 match cList w c with
 | none => (w,c,0,9)
 | some [] => (w,c,0,6)
 | some (a :: l) => ((cWithout w (a :: l) a).1,(cWithout w (a :: l) a).2,a,0)
theorem yq8 (w : List Nat) (len : Int) (k : Nat) (out : List Int) : cGo w len (k + 1) 0 out = if (out.length : Int) = len then some out else none := by simp [cGo]
theorem cGo_bad (w : List Nat) (len : Int) (k : Nat) (h : Int) (out : List Int) (h0 : h ≠ 0) (h1 : h < 0 \/ (w.length : Int) < h \/ (h - 1) ∈ out \/ len <= (out.length : Int)) : cGo w len (k + 1) h out = none := by
 unfold cGo;rw [if_neg h0,if_pos h1]
theorem cGo_far (w : List Nat) (len : Int) (k : Nat) (h : Int) (out : List Int) (x : Nat) (h0 : h ≠ 0) (hx : w[(h - 1).toNat]? = some x) (h2 : w.length < x) : cGo w len (k + 1) h out = none := by
 have e : w.getD (h - 1).toNat 0 = x := by rw [List.getD_eq_getElem?_getD,hx];rfl
 unfold cGo
 rw [if_neg h0]
 split
 ·rfl
 ·rw [e,if_pos h2]
theorem yq9 (w : List Nat) (len : Int) (k : Nat) (h : Int) (out : List Int) (x : Nat) (h0 : h ≠ 0) (h1 : ¬ (h < 0 \/ (w.length : Int) < h \/ (h - 1) ∈ out \/ len <= (out.length : Int))) (hx : w[(h - 1).toNat]? = some x) (h2 : ¬ w.length < x) : cGo w len (k + 1) h out = cGo w len k (x : Int) (out ++ [h - 1]) := by
 have e : w.getD (h - 1).toNat 0 = x := by rw [List.getD_eq_getElem?_getD,hx];rfl
 conv => lhs;unfold cGo
 rw [if_neg h0,if_neg h1,e,if_neg h2]
theorem xzb : ∀ (n : Nat) (l : List Int),l.Nodup -> (∀ x ∈ l,0 <= x /\ x < (n : Int)) -> l.length <= n
 | 0,l,_,h => by
  cases l with
  | nil => exact Nat.le_refl _
  | cons a l => have := h a (List.mem_cons_self ..);omega
 | n + 1,l,hd,h => by
  have h1 := xzb n (l.erase (n : Int)) (hd.erase _) (fun x hx => by
   have h2 := h x (List.mem_of_mem_erase hx)
   have h3 : x ≠ (n : Int) := fun e => by subst e;exact absurd hx (by rw [hd.mem_erase_iff];simp)
   omega)
  rw [List.length_erase] at h1
  split at h1 <;> omega
theorem yqa {w : List Nat} {len : Int} : ∀ {k : Nat} {h : Int} {out l : List Int},out.Nodup -> (∀ x ∈ out,0 <= x /\ x < (w.length : Int)) -> cGo w len k h out = some l -> l.Nodup /\ (∀ x ∈ l,0 <= x /\ x < (w.length : Int)) /\ (l.length : Int) = len
 | 0,h,out,l,_,_,e => by cases e
 | k + 1,h,out,l,hd,hb,e => by
  unfold cGo at e
  split at e
  ·split at e
   ·rename_i h1
    obtain rfl := Option.some.inj e
    exact ⟨hd,hb,h1⟩
   ·cases e
  ·split at e
   ·cases e
   ·split at e
    ·cases e
    ·rename_i h0 h1 _
     simp only [not_or] at h1
     refine yqa (List.nodup_append.2 ⟨hd,by simp,fun a ha b hb' => ?_⟩) (fun x hx => ?_) e
     ·obtain rfl := List.mem_singleton.1 hb'
      exact fun e => h1.2.2.1 (e ▸ ha)
     ·rcases List.mem_append.1 hx with hx | hx
      ·exact hb x hx
      ·obtain rfl := List.mem_singleton.1 hx
       omega
theorem xqr {w : List Nat} {c : Int × Int} {l : List Int} (h : cList w c = some l) : l.Nodup /\ (∀ x ∈ l,0 <= x /\ x < (w.length : Int)) /\ (l.length : Int) = c.2 := yqa List.nodup_nil (fun x hx => by cases hx) h
theorem xvu (s : List Nat × (Int × Int)) (a : Int) : (cStep s a).1.length = s.1.length := List.length_set ..
theorem yjl (s : List Nat × (Int × Int)) (l : List Int) (a : Int) : cAll s (l ++ [a]) = cStep (cAll s l) a := by unfold cAll;rw [List.foldl_append];rfl
theorem xzy : ∀ (l : List Int) (s : List Nat × (Int × Int)),(cAll s l).1.length = s.1.length
 | [],_ => rfl
 | a :: l,s => (xzy l (cStep s a)).trans (xvu s a)
theorem xvc : ∀ (l : List Int) (s : List Nat × (Int × Int)),(cAll s l).2.2 = s.2.2 + l.length
 | [],s => by simp [cAll]
 | a :: l,s => by
  have := xvc l (cStep s a)
  show (cAll (cStep s a) l).2.2 = _
  rw [this];simp only [cStep,List.length_cons];omega
theorem yjm (l : List Int) (s : List Nat × (Int × Int)) (n : Nat) (hs : 0 <= s.2.1 /\ s.2.1 <= (n : Int)) (h : ∀ x ∈ l,0 <= x /\ x < (n : Int)) : 0 <= (cAll s l).2.1 /\ (cAll s l).2.1 <= (n : Int) := by
 induction l generalizing s with
 | nil => exact hs
 | cons a l ih =>
  have ha := h a (List.mem_cons_self ..)
  exact ih (cStep s a) (by show 0 <= a + 1 /\ a + 1 <= (n : Int);omega) (fun x hx => h x (List.mem_cons_of_mem _ hx))
theorem yxl {w : List Nat} {c : Int × Int} {l : List Int} (h : cList w c = some l) : 0 <= c.1 /\ c.1 <= (w.length : Int) := by
 unfold cList cGo at h
 split at h
 ·omega
 ·split at h
  ·cases h
  ·rename_i h1
   simp only [not_or] at h1
   omega
end Go.Proofs.YtlcdgmjinhbncaaGreat
namespace Go.Proofs.YtlcdgmjinhbncaaGreat
open Go.RowKit
set_option linter.unusedVariables false
theorem yjn {l at' : List Int} (h : ∀ i,i < at'.length -> at'.getD i 0 ∉ l /\ at'.getD i 0 ∉ at'.take i) : cClash l at' = false := by
 unfold cClash
 rw [List.any_eq_false]
 intro i hi
 have := h i (List.mem_range.1 hi)
 simp only [decide_eq_true_eq,not_or]
 exact this
theorem xqi (w : World) (b : Nat) (u v x y : Value) (h0 : w.cell? ⟨b,0,none⟩ = some x) (h1 : w.cell? ⟨b,1,none⟩ = some y) :
  ((w.setCell ⟨b,0,none⟩ u).setCell ⟨b,1,none⟩ v).cell? ⟨b,0,none⟩ = some u /\ ((w.setCell ⟨b,0,none⟩ u).setCell ⟨b,1,none⟩ v).cell? ⟨b,1,none⟩ = some v := by
 constructor
 ·rw [World.cell?_setCell_other _ _ _ _ (by simp),World.cell?_setCell_same _ _ _ (by rw [h0])]
 ·rw [World.cell?_setCell_same _ _ _ (by rw [World.cell?_setCell_other _ _ _ _ (by simp),h1])]
theorem xwy (w : World) (b b' : Nat) (hb : b ≠ b') (u v : Value) (i : Nat) : ((w.setCell ⟨b,0,none⟩ u).setCell ⟨b,1,none⟩ v).cell? ⟨b',i,none⟩ = w.cell? ⟨b',i,none⟩ := by
 rw [World.cell?_setCell_other _ _ _ _ (by simp;try omega),World.cell?_setCell_other _ _ _ _ (by simp;try omega)]
section
variable {w wr W : World} {p r n : Nat} {A A' : Option Addr} {ws ws' : List Nat} {h l : Int}
end
end Go.Proofs.YtlcdgmjinhbncaaGreat
namespace Go.Proofs.YtlcdgmjinhbncaaGreat
open Go.RowKit Go.Maps
set_option linter.unusedVariables false
theorem in64_wf {i : Int} (h : in64 i) : (Lit.int .i64 i).wf = true := by
 have h1 : IntKind.i64.min = -9223372036854775808 := rfl
 have h2 : IntKind.i64.max = 9223372036854775807 := rfl
 unfold in64 at h
 simp only [Lit.wf,Bool.and_eq_true,decide_eq_true_eq]
 omega
theorem xzp {i : Int} (h : in64 i) : keyOf Tryz.prog 3 (.int .i64 i) = some (.int .i64 i) := Maps.keyOf_int_mk Tryz.underlying3 (in64_wf h)
theorem keyed : Maps.Keyed Tryz.prog 3 := Maps.int_keyed Tryz.underlying3
theorem xkp {a b : Int} (h : a ≠ b) : (Lit.int .i64 a) ≠ .int .i64 b := fun e => h (by injection e)
open Classical in
noncomputable def boolR (v : Value) : Option (DataW Unit × List MemPlace) := if h : ∃ b,v = .bool b then some (.lit (.bool h.choose),[]) else none
theorem xkq (b : Bool) : boolR (.bool b) = some (.lit (.bool b),[]) := by
 unfold boolR
 have h : ∃ c,Value.bool b = .bool c := ⟨b,rfl⟩
 rw [dif_pos h]
 have := h.choose_spec
 injection this with this
 rw [<- this]
theorem yjo {v : Value} {z : DataW Unit × List MemPlace} (h : boolR v = some z) : ∃ b,v = .bool b /\ z = (.lit (.bool b),[]) := by
 unfold boolR at h
 split at h
 ·next hs => exact ⟨hs.choose,hs.choose_spec,by injection h with h;exact h.symm⟩
 ·cases h
structure NIs (D : DataW Unit) (J : List Int) : Prop where
 at_ : ∀ id,D.atKey (.int .i64 id) (.lit (.bool false)) = .lit (.bool (J.contains id))
theorem xZn : NIs (.map []) [] := ⟨fun _ => rfl⟩
theorem NIs.put {D : DataW Unit} {J : List Int} (h : NIs D J) (hD : Maps.IsMap D) {i : Int} (hi : in64 i) : NIs (D.put (.int .i64 i) (.lit (.bool true))) (J ++ [i]) := by
 refine ⟨fun id => ?_⟩
 by_cases c : id = i
 ·subst c
  rw [Maps.atKey_put_same hD (keyed.key (xzp hi))]
  simp
 ·rw [Maps.atKey_put_other (xkp c),h.at_]
  congr 2
  simp [c]
theorem yjp (w : World) : (zeroValue 4).run Tryz.prog w = .ok (.bool false) w := by kernel_rfl
theorem xkr {w : World} {P : Program} {t : TypeId} {R : Value -> Option (DataW Unit × List MemPlace)} {mb m : Nat} {D : DataW Unit} (h : w.ownsMap P t R mb m D) : Maps.IsMap D := by
 obtain ⟨_,_,_,_,_,rfl⟩ := h
 exact ⟨_,rfl⟩
theorem xZo {w : World} {nb n : Nat} {D : DataW Unit} {J : List Int} (hown : w.ownsMap Tryz.prog 3 boolR nb n D) (hn : NIs D J) (i : Int) (hi : in64 i) (T : TypeId) (hT : Tryz.prog.underlying T = some (.map 3 4)) :
  (Instr.lookup T (.map (some nb)) (.int .i64 i) false).run Tryz.prog w = .ok (.bool (J.contains i)) w := by
 obtain ⟨v,ps,hrun,hv⟩ := hown.lookup keyed hT (yjp w) (xkq false) (xzp hi)
 obtain ⟨b,rfl,e⟩ := yjo hv
 have e1 := congrArg Prod.fst e
 simp only at e1
 rw [hn.at_] at e1
 simp only [DataW.lit.injEq,Lit.bool.injEq] at e1
 rw [hrun,e1]
section
variable {w w' W W' : World} {mb m : Nat} {D : DataW Unit}
theorem xq2 {P : Program} {t : TypeId} {R : Value -> Option (DataW Unit × List MemPlace)} (hm : w.ownsMap P t R mb m D) (hb : w'.heap[mb]? = w.heap[mb]?) : w'.ownsMap P t R mb m D := by
 obtain ⟨es,clock,hb0,F,hs,hD⟩ := hm
 exact ⟨es,clock,hb.trans hb0,F,hs,hD⟩
theorem xZp {base size n b : Nat} {e : TypeId} {v : Value} {xs : List Value} (hr : W.ownsRow base e size v n xs) (hb : b < base) (hg : W.grownBy W' (some b)) : W'.ownsRow base e size v n xs := by
 refine hr.kept hg ?_
 rcases hr.2 with ⟨rfl,_⟩ | ⟨g,cap,cur,rfl,hbg,_⟩
 ·exact .inl rfl
 ·exact .inr fun e => by
   have e2 : some g = some b := e
   injection e2 with e2
   omega
theorem xqk {base size n : Nat} {e : TypeId} {v : Value} {xs : List Value} (hr : W.ownsRow base e size v n xs) (hb : Below W.heap.size W W') : W'.ownsRow base e size v n xs := by
 refine xjm (S := fun _ => False) hr (Kept.of_below hb _) (fun _ _ => id)
end
theorem xq1 {w : World} {a : Addr} {v : Value} (o : Obj) (h : w.cell? a = some v) : (w.alloc o).cell? a = some v := (World.cell?_alloc_lt w o a (xq0 h)).trans h
end Go.Proofs.YtlcdgmjinhbncaaGreat
