import Derived.Test.YtlcdgmjinhbncaaGreatRPoolList
import Derived.Test.YtlcdgmjinhbncaaGreatRRowWords
import Derived.Deep.MidRow
namespace Go.Proofs.YtlcdgmjinhbncaaGreat
open Go.RowKit
set_option linter.unusedVariables false
def set5 (W : World) (g o : Nat) (v0 v1 v2 v3 v4 : Value) : World := ((((W.setCell ⟨g,o,none⟩ v0).setCell ⟨g,o + 1,none⟩ v1).setCell ⟨g,o + 2,none⟩ v2).setCell ⟨g,o + 3,none⟩ v3).setCell ⟨g,o + 4,none⟩ v4
section
variable {W : World} {g o : Nat} {v0 v1 v2 v3 v4 x0 x1 x2 x3 x4 : Value}
theorem yzh (h0 : W.cell? ⟨g,o,none⟩ = some x0) (h1 : W.cell? ⟨g,o + 1,none⟩ = some x1) (h2 : W.cell? ⟨g,o + 2,none⟩ = some x2) (h3 : W.cell? ⟨g,o + 3,none⟩ = some x3) (h4 : W.cell? ⟨g,o + 4,none⟩ = some x4) :
  (set5 W g o v0 v1 v2 v3 v4).cell? ⟨g,o,none⟩ = some v0 /\ (set5 W g o v0 v1 v2 v3 v4).cell? ⟨g,o + 1,none⟩ = some v1 /\ (set5 W g o v0 v1 v2 v3 v4).cell? ⟨g,o + 2,none⟩ = some v2 /\ (set5 W g o v0 v1 v2 v3 v4).cell? ⟨g,o + 3,none⟩ = some v3 /\ (set5 W g o v0 v1 v2 v3 v4).cell? ⟨g,o + 4,none⟩ = some v4 := by
 have q : ∀ (X : World) (i j : Nat) (v : Value),i ≠ j -> (X.setCell ⟨g,i,none⟩ v).cell? ⟨g,j,none⟩ = X.cell? ⟨g,j,none⟩ := fun X i j v h => World.cell?_setCell_other X _ _ _ (fun e => h (by injection e))
 have s : ∀ (X : World) (i : Nat) (v x : Value),X.cell? ⟨g,i,none⟩ = some x -> (X.setCell ⟨g,i,none⟩ v).cell? ⟨g,i,none⟩ = some v := fun X i v x h => World.cell?_setCell_same _ _ _ (by rw [h])
 unfold set5
 refine ⟨?_,?_,?_,?_,?_⟩
 ·rw [q _ _ _ _ (by omega),q _ _ _ _ (by omega),q _ _ _ _ (by omega),q _ _ _ _ (by omega)];exact s _ _ _ _ h0
 ·rw [q _ _ _ _ (by omega),q _ _ _ _ (by omega),q _ _ _ _ (by omega)];exact s _ _ _ x1 (by rw [q _ _ _ _ (by omega)];exact h1)
 ·rw [q _ _ _ _ (by omega),q _ _ _ _ (by omega)];exact s _ _ _ x2 (by rw [q _ _ _ _ (by omega),q _ _ _ _ (by omega)];exact h2)
 ·rw [q _ _ _ _ (by omega)];exact s _ _ _ x3 (by rw [q _ _ _ _ (by omega),q _ _ _ _ (by omega),q _ _ _ _ (by omega)];exact h3)
 ·exact s _ _ _ x4 (by rw [q _ _ _ _ (by omega),q _ _ _ _ (by omega),q _ _ _ _ (by omega),q _ _ _ _ (by omega)];exact h4)
theorem xXx {b m : Nat} (h : b ≠ g \/ m < o \/ o + 5 <= m) : (set5 W g o v0 v1 v2 v3 v4).cell? ⟨b,m,none⟩ = W.cell? ⟨b,m,none⟩ := by
 have q : ∀ (X : World) (i : Nat) (v : Value),o <= i -> i < o + 5 -> (X.setCell ⟨g,i,none⟩ v).cell? ⟨b,m,none⟩ = X.cell? ⟨b,m,none⟩ := fun X i v h1 h2 => World.cell?_setCell_other X _ _ _ (fun e => by
  injection e with e1 e2
  rcases h with h | h | h
  ·exact h e1.symm
  ·omega
  ·omega)
 unfold set5
 rw [q _ _ _ (by omega) (by omega),q _ _ _ (by omega) (by omega),q _ _ _ (by omega) (by omega),q _ _ _ (by omega) (by omega),q _ _ _ (by omega) (by omega)]
theorem yv6 : (set5 W g o v0 v1 v2 v3 v4).heap.size = W.heap.size := by unfold set5;simp
theorem xQd (a : Addr) : (set5 W g o v0 v1 v2 v3 v4).frozen? a = W.frozen? a := by
 unfold set5
 rw [World.frozen?_setCell,World.frozen?_setCell,World.frozen?_setCell,World.frozen?_setCell,World.frozen?_setCell]
theorem set5_below' {B : Nat} {w : World} (hb : Below B w W) (hg : B <= g) : Below B w (set5 W g o v0 v1 v2 v3 v4) :=
 ((((hb.setCell (p := ⟨g,o,none⟩) hg _).setCell (p := ⟨g,o + 1,none⟩) hg _).setCell (p := ⟨g,o + 2,none⟩) hg _).setCell (p := ⟨g,o + 3,none⟩) hg _).setCell (p := ⟨g,o + 4,none⟩) hg _
end
theorem xx0 {W : World} {b : Nat} (u0 u1 u2 u3 u4 u5 : Value) {x0 x1 x2 x3 x4 x5 : Value} (h0 : W.cell? ⟨b,0,none⟩ = some x0) (h1 : W.cell? ⟨b,1,none⟩ = some x1) (h2 : W.cell? ⟨b,2,none⟩ = some x2) (h3 : W.cell? ⟨b,3,none⟩ = some x3) (h4 : W.cell? ⟨b,4,none⟩ = some x4) (h5 : W.cell? ⟨b,5,none⟩ = some x5) :
  let X := (((((W.setCell ⟨b,0,none⟩ u0).setCell ⟨b,1,none⟩ u1).setCell ⟨b,2,none⟩ u2).setCell ⟨b,3,none⟩ u3).setCell ⟨b,4,none⟩ u4).setCell ⟨b,5,none⟩ u5
  X.cell? ⟨b,0,none⟩ = some u0 /\ X.cell? ⟨b,1,none⟩ = some u1 /\ X.cell? ⟨b,2,none⟩ = some u2 /\ X.cell? ⟨b,3,none⟩ = some u3 /\ X.cell? ⟨b,4,none⟩ = some u4 /\ X.cell? ⟨b,5,none⟩ = some u5 := by
 have q : ∀ (X : World) (i j : Nat) (v : Value),i ≠ j -> (X.setCell ⟨b,i,none⟩ v).cell? ⟨b,j,none⟩ = X.cell? ⟨b,j,none⟩ := fun X i j v h => World.cell?_setCell_other X _ _ _ (fun e => h (by injection e))
 have s : ∀ (X : World) (i : Nat) (v x : Value),X.cell? ⟨b,i,none⟩ = some x -> (X.setCell ⟨b,i,none⟩ v).cell? ⟨b,i,none⟩ = some v := fun X i v x h => World.cell?_setCell_same _ _ _ (by rw [h])
 refine ⟨?_,?_,?_,?_,?_,?_⟩
 ·rw [q _ _ _ _ (by omega),q _ _ _ _ (by omega),q _ _ _ _ (by omega),q _ _ _ _ (by omega),q _ _ _ _ (by omega)];exact s _ _ _ _ h0
 ·rw [q _ _ _ _ (by omega),q _ _ _ _ (by omega),q _ _ _ _ (by omega),q _ _ _ _ (by omega)];exact s _ _ _ x1 (by rw [q _ _ _ _ (by omega)];exact h1)
 ·rw [q _ _ _ _ (by omega),q _ _ _ _ (by omega),q _ _ _ _ (by omega)];exact s _ _ _ x2 (by rw [q _ _ _ _ (by omega),q _ _ _ _ (by omega)];exact h2)
 ·rw [q _ _ _ _ (by omega),q _ _ _ _ (by omega)];exact s _ _ _ x3 (by rw [q _ _ _ _ (by omega),q _ _ _ _ (by omega),q _ _ _ _ (by omega)];exact h3)
 ·rw [q _ _ _ _ (by omega)];exact s _ _ _ x4 (by rw [q _ _ _ _ (by omega),q _ _ _ _ (by omega),q _ _ _ _ (by omega),q _ _ _ _ (by omega)];exact h4)
 ·exact s _ _ _ x5 (by rw [q _ _ _ _ (by omega),q _ _ _ _ (by omega),q _ _ _ _ (by omega),q _ _ _ _ (by omega),q _ _ _ _ (by omega)];exact h5)
theorem xxn (y : CV) : (ccells y).length = 5 := rfl
theorem row_set5 {W : World} {B g n : Nat} {ys : List CV} {i : Nat} {y : CV} (h : RowOf (fun cs y => cs = ccells y) 5 W B (some ⟨g,0,none⟩) n ys) (hi : i < n) :
  RowOf (fun cs y => cs = ccells y) 5 (set5 W g (i * 5) (iv y.s.1) (iv y.s.2.1) (iv y.s.2.2.1) (iv y.s.2.2.2) (.slice y.A y.n y.c)) B (some ⟨g,0,none⟩) n (ys.set i y) := by
 have hl : ys.length = n := h.1
 refine ⟨by rw [List.length_set];exact hl,fun hn => ?_⟩
 obtain ⟨b,off,e,hb,hc⟩ := h.2 hn
 injection e with e
 injection e with e1 e2
 subst e1
 obtain rfl : 0 = off := e2
 refine ⟨g,0,rfl,hb,fun j z hj => ⟨ccells z,rfl,fun k hk => ?_,rfl⟩⟩
 rw [List.getElem?_set] at hj
 by_cases e : i = j
 ·subst e
  rw [if_pos rfl,if_pos (by omega)] at hj
  obtain rfl := Option.some.inj hj
  obtain ⟨cs,c1,c2,c3⟩ := hc i (ys[i]) (List.getElem?_eq_getElem (by omega))
  subst c3
  have d0 := c2 0 (by omega)
  have d1 := c2 1 (by omega)
  have d2 := c2 2 (by omega)
  have d3 := c2 3 (by omega)
  have d4 := c2 4 (by omega)
  rw [Nat.zero_add] at d0 d1 d2 d3 d4
  obtain ⟨s0,s1,s2,s3,s4⟩ := yzh (v0 := iv y.s.1) (v1 := iv y.s.2.1) (v2 := iv y.s.2.2.1) (v3 := iv y.s.2.2.2) (v4 := .slice y.A y.n y.c) d0 d1 d2 d3 d4
  rw [Nat.zero_add]
  match k,hk with
  | 0,_ => exact s0
  | 1,_ => exact s1
  | 2,_ => exact s2
  | 3,_ => exact s3
  | 4,_ => exact s4
 ·rw [if_neg e] at hj
  obtain ⟨cs,c1,c2,c3⟩ := hc j z hj
  subst c3
  rw [xXx (Or.inr (by omega))]
  exact c2 k hk
theorem yv7 : (Tryz.prog.info? 51).map (fun i => (i.zero,i.size,i.bytes)) = some (some (.agg #[.int .i64 0,.int .i64 0,.int .i64 0,.int .i64 0,.slice none 0 0]),5,56) := by kernel_rfl
theorem Cn.cellsAt {w : World} {P : Nat -> Prop} {A : Option Addr} {n : Nat} {ys : List CV} (h : Cn w P A n ys) : CellsAt w A (cellsAll ccells ys) := fun ad e j u hj => by
 have hlen := xq5 xxn ys
 have hjl : j < ys.length * 5 := by rw [<- hlen];exact (List.getElem?_eq_some_iff.1 hj).1
 have hl := h.row.1
 obtain ⟨b,off,y,cs,e2,_,hy,_,hc,rfl⟩ := RowOf.at_ h.row (j := j / 5) (by omega)
 rw [e] at e2
 obtain rfl := Option.some.inj e2
 rw [Go.WideShapes.add_plain]
 have h1 := hc (j % 5) (by omega)
 have h2 := xxy xxn ys (j / 5) y hy (j % 5) (by omega)
 rw [show j / 5 * 5 + j % 5 = j by omega] at h2
 rw [show off + j / 5 * 5 + j % 5 = off + j by omega] at h1
 rw [h1,<- h2,hj]
theorem xvo (ys : List CV) : ∀ u ∈ cellsAll ccells ys,u.oneCell' = true := fun u hu => by
 obtain ⟨y,_,h⟩ := List.mem_flatMap.1 hu
 unfold ccells at h
 simp only [List.mem_cons,List.not_mem_nil,or_false] at h
 rcases h with rfl | rfl | rfl | rfl | rfl <;> rfl
def ListOk (w : World) (P : Nat -> Prop) (y : CV) : Prop := Sl w w.heap.size y.A y.n (y.l.map iv) /\ y.n <= y.c /\ y.c <= 9223372036854775807 /\ (y.A = none -> y.c = 0) /\ InP P y.A /\ y.n <= 65536
def OwnPool (w : World) (P : Nat -> Prop) (pg la : Int) (A A2 : Option Addr) (n c n2 c2 n3 : Nat) (held : Bool) (ys : List CV) (e : Ending) (w' : World) : Prop :=
 ∃ A3 c3,e = .returned (pval pg A n c A2 n2 c2 la A3 n3 c3 held) /\ Cn w' P A3 n3 ys /\ Below w.heap.size w w' /\ (∀ a,A3 = some a -> w.heap.size <= a.block) /\ n3 <= c3 /\ c3 <= 9223372036854775807
theorem yzi {W : World} {base n c : Nat} {A : Option Addr} {ys : List CV} (h : W.ownsRow base 51 5 (.slice A n c) n (cellsAll ccells ys)) (hl : ys.length = n) {i : Nat} (hi : i < n) :
  ∃ g x0 x1 x2 x3 x4,A = some ⟨g,0,none⟩ /\ (base <= g /\ g < W.heap.size /\ n <= c /\ c <= 9223372036854775807) /\ RowOf (fun cs y => cs = ccells y) 5 W W.heap.size (some ⟨g,0,none⟩) n ys /\
   (W.cell? ⟨g,i * 5,none⟩ = some x0 /\ W.cell? ⟨g,i * 5 + 1,none⟩ = some x1 /\ W.cell? ⟨g,i * 5 + 2,none⟩ = some x2 /\ W.cell? ⟨g,i * 5 + 3,none⟩ = some x3 /\ W.cell? ⟨g,i * 5 + 4,none⟩ = some x4) /\ ∀ j,W.frozen? ⟨g,j,none⟩ = false := by
 obtain ⟨g,rfl⟩ : ∃ g,A = some ⟨g,0,none⟩ := by
  rcases h.2 with ⟨_,h0⟩ | ⟨g,cap,cur,e,_⟩
  ·omega
  ·injection e with e;exact ⟨g,e⟩
 obtain ⟨L,hL,hbg,hnc,hcm,hLl,hxs⟩ := xqj h
 have q : ∀ j,j < n * 5 -> ∃ x,W.cell? ⟨g,j,none⟩ = some x := fun j hj => ⟨L[j]'(by rw [hLl];omega),by rw [hL.cell];exact List.getElem?_eq_getElem _⟩
 obtain ⟨x0,h0⟩ := q (i * 5) (by omega)
 obtain ⟨x1,h1⟩ := q (i * 5 + 1) (by omega)
 obtain ⟨x2,h2⟩ := q (i * 5 + 2) (by omega)
 obtain ⟨x3,h3⟩ := q (i * 5 + 3) (by omega)
 obtain ⟨x4,h4⟩ := q (i * 5 + 4) (by omega)
 exact ⟨g,x0,x1,x2,x3,x4,rfl,⟨hbg,hL.lt,hnc,by unfold maxLen at hcm;omega⟩,RowOf.of_own xxn h hl,⟨h0,h1,h2,h3,h4⟩,hL.free⟩
theorem yzj (W : World) (g o : Nat) (v0 v1 v2 v3 v4 : Value) : W.setCells g o [v0,v1,v2,v3,v4] = set5 W g o v0 v1 v2 v3 v4 := by
 simp only [World.setCells,set5,Nat.add_assoc,Nat.reduceAdd]
theorem xQs {P : Program} {ops : Array Oper} {rest : List Oper} {op : Oper} {a : Act} {w : World} {Q : Exit -> Act -> World -> Prop} (hgd : op.guard = none) (ty : TypeId) (x y : Operand) (ho : op.op = .store ty x y)
  (b o : Nat) (v0 v1 v2 v3 v4 : Value) (hx : a.eval x = .pointer (some ⟨b,o,none⟩)) (hy : a.eval y = .agg #[v0,v1,v2,v3,v4])
  (ht : w.there b o 5) (hi : (P.info? ty).map (·.size) = some 5) (h1 : (#[v0,v1,v2,v3,v4] : Array Value).all (·.oneCell') = true)
  (h : wpList P ops Q rest (a.put op.dst undef) (set5 w b o v0 v1 v2 v3 v4)) : wpList P ops Q (op :: rest) a w :=
 wpList_store_mid hgd ty x y ho b o #[v0,v1,v2,v3,v4] hx hy ht hi h1 (by
  show wpList P ops Q rest (a.put op.dst undef) (w.setCells b o [v0,v1,v2,v3,v4])
  rw [yzj];exact h)
theorem there5 {W : World} {g o : Nat} {x0 x1 x2 x3 x4 : Value} (h : W.cell? ⟨g,o,none⟩ = some x0 /\ W.cell? ⟨g,o + 1,none⟩ = some x1 /\ W.cell? ⟨g,o + 2,none⟩ = some x2 /\ W.cell? ⟨g,o + 3,none⟩ = some x3 /\ W.cell? ⟨g,o + 4,none⟩ = some x4) (hf : ∀ j,W.frozen? ⟨g,j,none⟩ = false) : W.there g o 5 := fun j hj => by
 obtain ⟨h0,h1,h2,h3,h4⟩ := h
 refine ⟨?_,hf _⟩
 match j,hj with
 | 0,_ => rw [Nat.add_zero,h0];rfl
 | 1,_ => rw [h1];rfl
 | 2,_ => rw [h2];rfl
 | 3,_ => rw [h3];rfl
 | 4,_ => rw [h4];rfl
theorem yzk {W : World} {b g o : Nat} {v0 v1 v2 v3 v4 x0 x1 x2 x3 x4 x5 y0 y1 y2 y3 y4 y5 : Value}
  (hp : W.cell? ⟨b,0,none⟩ = some x0 /\ W.cell? ⟨b,1,none⟩ = some x1 /\ W.cell? ⟨b,2,none⟩ = some x2 /\ W.cell? ⟨b,3,none⟩ = some x3 /\ W.cell? ⟨b,4,none⟩ = some x4 /\ W.cell? ⟨b,5,none⟩ = some x5 /\ W.frozen? ⟨b,4,none⟩ = false)
  (hr : (W.cell? ⟨b + 1 + 1,0,none⟩ = some y0 /\ W.cell? ⟨b + 1 + 1,1,none⟩ = some y1 /\ W.cell? ⟨b + 1 + 1,2,none⟩ = some y2 /\ W.cell? ⟨b + 1 + 1,3,none⟩ = some y3 /\ W.cell? ⟨b + 1 + 1,4,none⟩ = some y4 /\ W.cell? ⟨b + 1 + 1,5,none⟩ = some y5) /\ ∀ j,W.frozen? ⟨b + 1 + 1,j,none⟩ = false) (hg : b + 1 + 1 + 1 <= g) :
  ∀ X,X = set5 W g o v0 v1 v2 v3 v4 -> (X.cell? ⟨b,0,none⟩ = some x0 /\ X.cell? ⟨b,1,none⟩ = some x1 /\ X.cell? ⟨b,2,none⟩ = some x2 /\ X.cell? ⟨b,3,none⟩ = some x3 /\ X.cell? ⟨b,4,none⟩ = some x4 /\ X.cell? ⟨b,5,none⟩ = some x5 /\ X.frozen? ⟨b,4,none⟩ = false) /\
  (X.cell? ⟨b + 1 + 1,0,none⟩ = some y0 /\ X.cell? ⟨b + 1 + 1,1,none⟩ = some y1 /\ X.cell? ⟨b + 1 + 1,2,none⟩ = some y2 /\ X.cell? ⟨b + 1 + 1,3,none⟩ = some y3 /\ X.cell? ⟨b + 1 + 1,4,none⟩ = some y4 /\ X.cell? ⟨b + 1 + 1,5,none⟩ = some y5) /\ ∀ j,X.frozen? ⟨b + 1 + 1,j,none⟩ = false := by
 rintro X rfl
 have q : ∀ a m,a < g -> (set5 W g o v0 v1 v2 v3 v4).cell? ⟨a,m,none⟩ = W.cell? ⟨a,m,none⟩ := fun a m h => xXx (Or.inl (by omega))
 refine ⟨?_,?_,fun j => by rw [xQd];exact hr.2 j⟩
 ·rw [q _ _ (by omega),q _ _ (by omega),q _ _ (by omega),q _ _ (by omega),q _ _ (by omega),q _ _ (by omega),xQd];exact hp
 ·rw [q _ _ (by omega),q _ _ (by omega),q _ _ (by omega),q _ _ (by omega),q _ _ (by omega),q _ _ (by omega)];exact hr.1
theorem with_end {w W0 w4 W5 : World} {P : Nat -> Prop} {pg la : Int} {A A2 A3 : Option Addr} {n c n2 c2 n3 c4 g i : Nat} {held : Bool} {ys : List CV} {y : CV} {u4 u0 r1 r2 r3 r4 r5 : Value} (hP : ∀ b,w.heap.size <= b -> P b) (hs : Cn w P A3 n3 ys) (hi : i < n3) (hy : ListOk w P y) (ho : SpanOk y.s)
  (hB0 : Below w.heap.size w W0) (hb4 : Below (w.heap.size + 1 + 1 + 1) W0 w4) (hgs : w.heap.size + 1 + 1 + 1 <= g /\ g < w4.heap.size /\ n3 <= c4 /\ c4 <= 9223372036854775807)
  (hrow : RowOf (fun cs y => cs = ccells y) 5 w4 w4.heap.size (some ⟨g,0,none⟩) n3 ys) (h5 : set5 w4 g (i * 5) (iv y.s.1) (iv y.s.2.1) (iv y.s.2.2.1) (iv y.s.2.2.2) (.slice y.A y.n y.c) = W5) :
  OwnPool w P pg la A A2 n c n2 c2 n3 held (ys.set i y) (.returned (pval pg A n c A2 n2 c2 la (some ⟨g,0,none⟩) n3 c4 held))
   (((((((W5.setCell ⟨w.heap.size,4,none⟩ u4).setCell ⟨w.heap.size + 1 + 1,0,none⟩ u0).setCell ⟨w.heap.size + 1 + 1,1,none⟩ r1).setCell ⟨w.heap.size + 1 + 1,2,none⟩ r2).setCell ⟨w.heap.size + 1 + 1,3,none⟩ r3).setCell ⟨w.heap.size + 1 + 1,4,none⟩ r4).setCell ⟨w.heap.size + 1 + 1,5,none⟩ r5) := by
 have b4 : Below w.heap.size w w4 := hB0.trans (hb4.mono (by omega))
 have b5 : Below w.heap.size w W5 := by rw [<- h5];exact set5_below' b4 (by omega)
 have z5 : W5.heap.size = w4.heap.size := by rw [<- h5];exact yv6
 have row5 : RowOf (fun cs y => cs = ccells y) 5 W5 w4.heap.size (some ⟨g,0,none⟩) n3 (ys.set i y) := by rw [<- h5];exact row_set5 hrow hi
 obtain ⟨W6,h6⟩ : ∃ W6,W6 = (((((((W5.setCell ⟨w.heap.size,4,none⟩ u4).setCell ⟨w.heap.size + 1 + 1,0,none⟩ u0).setCell ⟨w.heap.size + 1 + 1,1,none⟩ r1).setCell ⟨w.heap.size + 1 + 1,2,none⟩ r2).setCell ⟨w.heap.size + 1 + 1,3,none⟩ r3).setCell ⟨w.heap.size + 1 + 1,4,none⟩ r4).setCell ⟨w.heap.size + 1 + 1,5,none⟩ r5) := ⟨_,rfl⟩
 rw [<- h6]
 have b6 : Below w.heap.size w W6 := by
  rw [h6]
  exact ((((((b5.setCell (p := ⟨w.heap.size,4,none⟩) (Nat.le_refl _) _).setCell (p := ⟨w.heap.size + 1 + 1,0,none⟩) (by show _ <= w.heap.size + 1 + 1;omega) _).setCell (p := ⟨w.heap.size + 1 + 1,1,none⟩) (by show _ <= w.heap.size + 1 + 1;omega) _).setCell (p := ⟨w.heap.size + 1 + 1,2,none⟩) (by show _ <= w.heap.size + 1 + 1;omega) _).setCell (p := ⟨w.heap.size + 1 + 1,3,none⟩) (by show _ <= w.heap.size + 1 + 1;omega) _).setCell (p := ⟨w.heap.size + 1 + 1,4,none⟩) (by show _ <= w.heap.size + 1 + 1;omega) _).setCell (p := ⟨w.heap.size + 1 + 1,5,none⟩) (by show _ <= w.heap.size + 1 + 1;omega) _
 have z6 : W6.heap.size = w4.heap.size := by rw [h6];simp [z5]
 have na : ∀ (b : Nat) (j : Nat),b < g -> ∀ a,(some ⟨g,0,none⟩ : Option Addr) = some a -> a.block ≠ (⟨b,j,none⟩ : Addr).block := fun b j hb a e => by
  injection e with e;subst e;show g ≠ b;omega
 have row6 : RowOf (fun cs y => cs = ccells y) 5 W6 w4.heap.size (some ⟨g,0,none⟩) n3 (ys.set i y) := by
  rw [h6]
  exact ((((((row5.aside (na _ _ (by omega)) _).aside (na _ _ (by omega)) _).aside (na _ _ (by omega)) _).aside (na _ _ (by omega)) _).aside (na _ _ (by omega)) _).aside (na _ _ (by omega)) _).aside (na _ _ (by omega)) _
 refine ⟨some ⟨g,0,none⟩,c4,rfl,⟨row6.more (by omega),fun z hz => ?_,fun a e => ?_,fun z hz => ?_⟩,b6,fun a e => ?_,hgs.2.2.1,hgs.2.2.2⟩
 ·rcases List.mem_or_eq_of_mem_set hz with hz | rfl
  ·obtain ⟨h1,h2⟩ := hs.lists z hz
   exact ⟨(h1.below b6).more b6.size,h2⟩
  ·exact ⟨(hy.1.below b6).more b6.size,hy.2⟩
 ·injection e with e;subst e;exact hP _ (by show _ <= g;omega)
 ·rcases List.mem_or_eq_of_mem_set hz with hz | rfl
  ·exact hs.ok z hz
  ·exact ho
 ·injection e with e;subst e;show _ <= g;omega
set_option maxRecDepth 100000 in
set_option maxHeartbeats 2000000 in
theorem xQe (P : Nat -> Prop) (pg la : Int) (A A2 A3 : Option Addr) (n c n2 c2 n3 c3 : Nat) (held : Bool) (ys : List CV) (i : Nat) (y : CV) (w : World) (hP : ∀ b,w.heap.size <= b -> P b) (hs : Cn w P A3 n3 ys) (hn : n3 <= 65536) (hi' : i < n3) (hy : ListOk w P y) (ho : SpanOk y.s) :
  Calls Tryz.prog 139 #[pval pg A n c A2 n2 c2 la A3 n3 c3 held,.int .i64 (i : Int),.agg #[.int .i64 y.s.1,.int .i64 y.s.2.1,.int .i64 y.s.2.2.1,.int .i64 y.s.2.2.2,.slice y.A y.n y.c]] w (OwnPool w P pg la A A2 n c n2 c2 n3 held (ys.set i y)) := by
 obtain ⟨i0,hi,hz0,hz1,hz2⟩ := info_parts yv7
 have l3 : ys.length = n3 := hs.row.1
 obtain ⟨W0,hW0⟩ : ∃ W0,W0 = ((w.alloc (.cells #[.int .i64 pg,.slice A n c,.slice A2 n2 c2,.int .i64 la,.slice A3 n3 c3,.bool held] 35)).alloc (.cells #[.int .i64 y.s.1,.int .i64 y.s.2.1,.int .i64 y.s.2.2.1,.int .i64 y.s.2.2.2,.slice y.A y.n y.c] 51)).alloc (.cells #[.int .i64 0,.slice none 0 0,.slice none 0 0,.int .i64 0,.slice none 0 0,.bool false] 35) := ⟨_,rfl⟩
 have hz : W0.heap.size = w.heap.size + 1 + 1 + 1 := by rw [hW0];simp
 have HB0 : Hid (Below w.heap.size w W0) := hidb (by rw [hW0];exact (((Below.refl _ _).alloc (Nat.le_refl _) _).alloc (by simp) _).alloc (by simp;omega) _)
 have P0 : Hid (∀ W,Below (w.heap.size + 1 + 1 + 1) W0 W -> W.cell? ⟨w.heap.size,0,none⟩ = some (.int .i64 pg) /\ W.cell? ⟨w.heap.size,1,none⟩ = some (.slice A n c) /\ W.cell? ⟨w.heap.size,2,none⟩ = some (.slice A2 n2 c2) /\ W.cell? ⟨w.heap.size,3,none⟩ = some (.int .i64 la) /\ W.cell? ⟨w.heap.size,4,none⟩ = some (.slice A3 n3 c3) /\ W.cell? ⟨w.heap.size,5,none⟩ = some (.bool held) /\ W.frozen? ⟨w.heap.size,4,none⟩ = false) := hidb (fun W hb => by
  have q : ∀ j,W.cell? ⟨w.heap.size,j,none⟩ = W0.cell? ⟨w.heap.size,j,none⟩ := fun j => hb.cell (p := ⟨w.heap.size,j,none⟩) (by show w.heap.size < _;omega)
  have qf : W.frozen? ⟨w.heap.size,4,none⟩ = W0.frozen? ⟨w.heap.size,4,none⟩ := hb.frozen (p := ⟨w.heap.size,4,none⟩) (by show w.heap.size < _;omega)
  rw [q,q,q,q,q,q,qf,hW0]
  simp [go_sem])
 have C0 : Hid (∀ W,Below (w.heap.size + 1 + 1 + 1) W0 W -> W.cell? ⟨w.heap.size + 1,0,none⟩ = some (.int .i64 y.s.1) /\ W.cell? ⟨w.heap.size + 1,1,none⟩ = some (.int .i64 y.s.2.1) /\ W.cell? ⟨w.heap.size + 1,2,none⟩ = some (.int .i64 y.s.2.2.1) /\ W.cell? ⟨w.heap.size + 1,3,none⟩ = some (.int .i64 y.s.2.2.2) /\ W.cell? ⟨w.heap.size + 1,4,none⟩ = some (.slice y.A y.n y.c)) := hidb (fun W hb => by
  have q : ∀ j,W.cell? ⟨w.heap.size + 1,j,none⟩ = W0.cell? ⟨w.heap.size + 1,j,none⟩ := fun j => hb.cell (p := ⟨w.heap.size + 1,j,none⟩) (by show w.heap.size + 1 < _;omega)
  rw [q,q,q,q,q,hW0]
  simp [go_sem])
 have R0 : Hid (∀ W,Below (w.heap.size + 1 + 1 + 1) W0 W -> (W.cell? ⟨w.heap.size + 1 + 1,0,none⟩ = some (.int .i64 0) /\ W.cell? ⟨w.heap.size + 1 + 1,1,none⟩ = some (.slice none 0 0) /\ W.cell? ⟨w.heap.size + 1 + 1,2,none⟩ = some (.slice none 0 0) /\ W.cell? ⟨w.heap.size + 1 + 1,3,none⟩ = some (.int .i64 0) /\ W.cell? ⟨w.heap.size + 1 + 1,4,none⟩ = some (.slice none 0 0) /\ W.cell? ⟨w.heap.size + 1 + 1,5,none⟩ = some (.bool false)) /\ ∀ j,W.frozen? ⟨w.heap.size + 1 + 1,j,none⟩ = false) := hidb (fun W hb => by
  have q : ∀ j,W.cell? ⟨w.heap.size + 1 + 1,j,none⟩ = W0.cell? ⟨w.heap.size + 1 + 1,j,none⟩ := fun j => hb.cell (p := ⟨w.heap.size + 1 + 1,j,none⟩) (by show w.heap.size + 1 + 1 < _;omega)
  have qf : ∀ j,W.frozen? ⟨w.heap.size + 1 + 1,j,none⟩ = W0.frozen? ⟨w.heap.size + 1 + 1,j,none⟩ := fun j => hb.frozen (p := ⟨w.heap.size + 1 + 1,j,none⟩) (by show w.heap.size + 1 + 1 < _;omega)
  refine ⟨?_,fun j => ?_⟩
  ·rw [q,q,q,q,q,q,hW0]
   simp [go_sem]
  ·rw [qf,hW0]
   simp [go_sem])
 have HOE : Hid ((W0.alloc (.cells #[] 51)).ownsRow (w.heap.size + 1 + 1 + 1) 51 5 (.slice (some ⟨w.heap.size + 1 + 1 + 1,0,none⟩) 0 0) 0 []) := hidb (own_empty' W0 _ 51 5 _ hz.symm (by omega))
 have HBA : Hid (Below w.heap.size w (W0.alloc (.cells #[] 51))) := hidb (HB0.out.alloc HB0.out.size _)
 have HCA := hidb ((hs.below HBA.out).cellsAt)
 have HNO : Hid (A3 = none -> n3 = 0 /\ c3 = 0) := hidb (fun e => by
  obtain ⟨b,off,_,_,e2,_⟩ := RowOf.at_ hs.row hi'
  rw [e] at e2;cases e2)
 have HLE : Hid (w.heap.size + 1 + 1 + 1 <= (W0.alloc (.cells #[] 51)).heap.size) := hidb (by simp;omega)
 have HLN : Hid ((cellsAll ccells ys).length = n3 * 5) := hidb (by rw [xq5 xxn,l3])
 have HONE := hidb (xvo ys)
 have HS := hidb hs
 have HBX : Hid (∀ W,(W0.alloc (.cells #[] 51)).grownBy W (Value.slice (some ⟨w.heap.size + 1 + 1 + 1,0,none⟩) 0 0).ownBlock -> Below (w.heap.size + 1 + 1 + 1) W0 W) := hidb (fun W hg => ((Below.refl _ W0).alloc (by omega) _).grown hg (by simp;omega) (fun q hq => by
  have hq : some (w.heap.size + 1 + 1 + 1) = some q := hq
  injection hq with hq;omega))
 have HW0 := hidb hW0
 have HZ := hidb hz
 have L3 := hidb l3
 clear hW0 hz l3 hs
 unfold pval
 go_enter Tryz.func139,Tryz.ntmps139
 go_wp2_with (first
  | (at_builtin;rw [<- HW0.out];refine xqp _ rfl (.tmp 8) (.tmp 10) 33 rfl (w.heap.size + 1 + 1 + 1) 51 i0 (.agg #[.int .i64 0,.int .i64 0,.int .i64 0,.int .i64 0,.slice none 0 0]) 5 56 Tryz.underlying33 hi hz0 hz1 hz2 rfl (by decide) (.slice (some ⟨w.heap.size + 1 + 1 + 1,0,none⟩) 0 0) 0 [] rfl HOE.out HLE.out A3 n3 c3 (cellsAll ccells ys) rfl HLN.out HNO.out HCA.out HONE.out (by unfold maxLen;omega) (by omega) ?_;go_loud (intro A4 c4 w4 hown4 hg4;rw [Nat.zero_add] at hown4 ⊢;rw [List.nil_append] at hown4;have HB4 : Hid (Below (w.heap.size + 1 + 1 + 1) W0 w4) := hidb (HBX.out w4 hg4);obtain ⟨g,x0,x1,x2,x3,x4,e4,hgs,hrow,hcl,hfr⟩ := yzi hown4 L3.out hi';have HGS := hidb hgs;have HROW := hidb hrow;have HTH := hidb (there5 hcl hfr);have HCL := hidb hcl;obtain ⟨d0,d1,d2,d3,d4⟩ := C0.out _ HB4.out;have HW5 := hidb (yzk (g := g) (o := i * 5) (v0 := iv y.s.1) (v1 := iv y.s.2.1) (v2 := iv y.s.2.2.1) (v3 := iv y.s.2.2.2) (v4 := .slice y.A y.n y.c) (P0.out _ HB4.out) (R0.out _ HB4.out) HGS.out.1 _ rfl);subst e4;clear hown4 hg4 hgs hrow hfr hcl))
  | (refine xQs rfl 51 (.tmp 15) (.tmp 14) rfl g (i * 5) (iv y.s.1) (iv y.s.2.1) (iv y.s.2.2.1) (iv y.s.2.2.2) (.slice y.A y.n y.c) rfl rfl HTH.out (by kernel_rfl) (by kernel_rfl) ?_;go_loud (generalize hE5 : set5 w4 g (i * 5) (iv y.s.1) (iv y.s.2.1) (iv y.s.2.2.1) (iv y.s.2.2.2) (.slice y.A y.n y.c) = W5 at HW5 ⊢;have HE5 := hidb hE5;clear hE5;obtain ⟨⟨p0,p1,p2,p3,p4,p5,pf⟩,⟨r0,r1,r2,r3,r4,r5⟩,rf⟩ := HW5.out;have rf0 := rf 0;have rf1 := rf 1;have rf2 := rf 2;have rf3 := rf 3;have rf4 := rf 4;have rf5 := rf 5;clear rf)))
 refine bodyPost_ret (v := pval pg A n c A2 n2 c2 la (some ⟨g,0,none⟩) n3 c4 held) (by simp [results,pval,Tryz.results139,go_sem,r0,r1,r2,r3,r4,r5]) rfl ?_
 exact with_end hP HS.out hi' hy ho HB0.out HB4.out HGS.out HROW.out HE5.out
end Go.Proofs.YtlcdgmjinhbncaaGreat
