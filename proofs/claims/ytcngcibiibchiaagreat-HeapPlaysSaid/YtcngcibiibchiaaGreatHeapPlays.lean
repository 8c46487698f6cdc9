/- The walk of layer 7's statement on rows of acts. -/
import Derived.Test.YtcngcibiibchiaaGreatHeapPlays0
import Derived.Test.YtcngcibiibchiaaGreatHeapPlays1
import Derived.Test.YtcngcibiibchiaaGreatHeapPlays2
import Derived.Deep.RegionHeld3
import Derived.Deep.Cut
import Derived.Deep.CutRange
namespace Go.Proofs.YtcngcibiibchiaaGreat
open Go.RowKit
set_option linter.unusedVariables false

theorem bel_al {W X : World} (h : Below W.heap.size W X) (o : Obj) : Below W.heap.size W (X.alloc o) := h.alloc h.size o
theorem bel_dr {W X : World} (h : Below W.heap.size W X) : Below W.heap.size W X.drew := h.drew
theorem bel_tr {W X w' : World} (h : Below W.heap.size W X) (k : Below X.heap.size X w') : Below W.heap.size W w' := h.trans (k.mono h.size)
theorem bel_s0 {W X : World} {i : Nat} {u : Value} (h : Below W.heap.size W X) : Below W.heap.size W (X.setCell ⟨W.heap.size, i, none⟩ u) := h.setCell (p := ⟨W.heap.size, i, none⟩) (Nat.le_refl _) u
theorem bel_s1 {W X : World} {i : Nat} {u : Value} (h : Below W.heap.size W X) : Below W.heap.size W (X.setCell ⟨W.heap.size + 1, i, none⟩ u) := h.setCell (p := ⟨W.heap.size + 1, i, none⟩) (Nat.le_succ _) u
theorem bel_s5 {W X w5 : World} {i : Nat} {u : Value} (h5 : Below W.heap.size W w5) (h : Below W.heap.size W X) : Below W.heap.size W (X.setCell ⟨w5.heap.size, i, none⟩ u) := h.setCell (p := ⟨w5.heap.size, i, none⟩) h5.size u
theorem bel_s6 {W X w5 : World} {i : Nat} {u : Value} (h5 : Below W.heap.size W w5) (h : Below W.heap.size W X) : Below W.heap.size W (X.setCell ⟨w5.heap.size + 1, i, none⟩ u) := h.setCell (p := ⟨w5.heap.size + 1, i, none⟩) (Nat.le_succ_of_le h5.size) u
/-- A block that was laid ahead of a call. -/
theorem made4 {W X w' : World} {a b c d : Value} {t : TypeId} (h : Below X.heap.size X w') (hX : X.heap = (W.alloc (.cells #[a, b, c, d] t)).heap) :
    w'.cell? ⟨W.heap.size, 0, none⟩ = some a ∧ w'.cell? ⟨W.heap.size, 1, none⟩ = some b ∧ w'.cell? ⟨W.heap.size, 2, none⟩ = some c ∧ w'.cell? ⟨W.heap.size, 3, none⟩ = some d ∧ ∀ j, w'.frozen? ⟨W.heap.size, j, none⟩ = false := by
  have hs : W.heap.size < X.heap.size := by rw [hX]; show W.heap.size < (W.alloc _).heap.size; simp
  have hb : w'.heap[W.heap.size]? = (W.alloc (.cells #[a, b, c, d] t)).heap[W.heap.size]? := (h.block _ hs).trans (by rw [hX])
  have hk : Keeps (fun _ => False) (W.alloc (.cells #[a, b, c, d] t)) W.heap.size [a, b, c, d] := ⟨by simp, id, fun j v hj => (World.cell?_alloc_at _ _ _ _ rfl).trans (by simpa using hj), fun j => World.frozen?_alloc_at _ _ _ _ rfl⟩
  have hc : ∀ j, w'.cell? ⟨W.heap.size, j, none⟩ = (W.alloc (.cells #[a, b, c, d] t)).cell? ⟨W.heap.size, j, none⟩ := fun j => World.cell?_of_block (w := W.alloc (.cells #[a, b, c, d] t)) (a := ⟨W.heap.size, j, none⟩) hb
  obtain ⟨e0, e1, e2, e3⟩ := hk.four
  exact ⟨(hc 0).trans e0, (hc 1).trans e1, (hc 2).trans e2, (hc 3).trans e3, fun j => (World.frozen?_of_block (w := W.alloc (.cells #[a, b, c, d] t)) (a := ⟨W.heap.size, j, none⟩) hb).trans (hk.2.2.2 j)⟩
theorem made4d {W w' : World} {a b c d : Value} {t : TypeId} (h : Below (W.alloc (.cells #[a, b, c, d] t)).drew.heap.size (W.alloc (.cells #[a, b, c, d] t)).drew w') :
    w'.cell? ⟨W.heap.size, 0, none⟩ = some a ∧ w'.cell? ⟨W.heap.size, 1, none⟩ = some b ∧ w'.cell? ⟨W.heap.size, 2, none⟩ = some c ∧ w'.cell? ⟨W.heap.size, 3, none⟩ = some d ∧ ∀ j, w'.frozen? ⟨W.heap.size, j, none⟩ = false := made4 h rfl
theorem aside_new (W : World) (r : Nat) (h : r ≠ W.heap.size) (a b c d : Value) (t : TypeId) (u0 u1 u2 u3 : Value) :
    (((((((W.alloc (.cells #[a, b, c, d] t)).setCell ⟨r, 0, none⟩ u0).setCell ⟨r, 1, none⟩ u1).setCell ⟨r, 2, none⟩ u2).setCell ⟨r, 3, none⟩ u3)).cell? ⟨W.heap.size, 0, none⟩ = some a ∧ ((((((W.alloc (.cells #[a, b, c, d] t)).setCell ⟨r, 0, none⟩ u0).setCell ⟨r, 1, none⟩ u1).setCell ⟨r, 2, none⟩ u2).setCell ⟨r, 3, none⟩ u3)).cell? ⟨W.heap.size, 1, none⟩ = some b ∧ ((((((W.alloc (.cells #[a, b, c, d] t)).setCell ⟨r, 0, none⟩ u0).setCell ⟨r, 1, none⟩ u1).setCell ⟨r, 2, none⟩ u2).setCell ⟨r, 3, none⟩ u3)).cell? ⟨W.heap.size, 2, none⟩ = some c ∧ ((((((W.alloc (.cells #[a, b, c, d] t)).setCell ⟨r, 0, none⟩ u0).setCell ⟨r, 1, none⟩ u1).setCell ⟨r, 2, none⟩ u2).setCell ⟨r, 3, none⟩ u3)).cell? ⟨W.heap.size, 3, none⟩ = some d) ∧ ((((((W.alloc (.cells #[a, b, c, d] t)).setCell ⟨r, 0, none⟩ u0).setCell ⟨r, 1, none⟩ u1).setCell ⟨r, 2, none⟩ u2).setCell ⟨r, 3, none⟩ u3)).frozen? ⟨W.heap.size, 0, none⟩ = false ∧ ((((((W.alloc (.cells #[a, b, c, d] t)).setCell ⟨r, 0, none⟩ u0).setCell ⟨r, 1, none⟩ u1).setCell ⟨r, 2, none⟩ u2).setCell ⟨r, 3, none⟩ u3)).frozen? ⟨W.heap.size, 1, none⟩ = false ∧ ((((((W.alloc (.cells #[a, b, c, d] t)).setCell ⟨r, 0, none⟩ u0).setCell ⟨r, 1, none⟩ u1).setCell ⟨r, 2, none⟩ u2).setCell ⟨r, 3, none⟩ u3)).frozen? ⟨W.heap.size, 2, none⟩ = false ∧ ((((((W.alloc (.cells #[a, b, c, d] t)).setCell ⟨r, 0, none⟩ u0).setCell ⟨r, 1, none⟩ u1).setCell ⟨r, 2, none⟩ u2).setCell ⟨r, 3, none⟩ u3)).frozen? ⟨W.heap.size, 3, none⟩ = false := by
  have o : ∀ (X : World) (i j : Nat) (v : Value), (X.setCell ⟨r, i, none⟩ v).cell? ⟨W.heap.size, j, none⟩ = X.cell? ⟨W.heap.size, j, none⟩ := fun X i j v => World.cell?_setCell_other X _ _ _ (fun e => h (by injection e))
  have hk : Keeps (fun _ => False) (W.alloc (.cells #[a, b, c, d] t)) W.heap.size [a, b, c, d] := ⟨by simp, id, fun j v hj => (World.cell?_alloc_at _ _ _ _ rfl).trans (by simpa using hj), fun j => World.frozen?_alloc_at _ _ _ _ rfl⟩
  obtain ⟨e0, e1, e2, e3⟩ := hk.four
  refine ⟨⟨?_, ?_, ?_, ?_⟩, ?_, ?_, ?_, ?_⟩
  · rw [o, o, o, o]; exact e0
  · rw [o, o, o, o]; exact e1
  · rw [o, o, o, o]; exact e2
  · rw [o, o, o, o]; exact e3
  all_goals rw [World.frozen?_setCell, World.frozen?_setCell, World.frozen?_setCell, World.frozen?_setCell]; exact hk.2.2.2 _
theorem made44 {W w' : World} {a b c d a2 b2 c2 d2 : Value} {t t2 : TypeId} (h : Below ((W.alloc (.cells #[a, b, c, d] t)).alloc (.cells #[a2, b2, c2, d2] t2)).drew.heap.size ((W.alloc (.cells #[a, b, c, d] t)).alloc (.cells #[a2, b2, c2, d2] t2)).drew w') :
    (w'.cell? ⟨W.heap.size, 0, none⟩ = some a ∧ w'.cell? ⟨W.heap.size, 1, none⟩ = some b ∧ w'.cell? ⟨W.heap.size, 2, none⟩ = some c ∧ w'.cell? ⟨W.heap.size, 3, none⟩ = some d ∧ ∀ j, w'.frozen? ⟨W.heap.size, j, none⟩ = false) ∧
    (w'.cell? ⟨W.heap.size + 1, 0, none⟩ = some a2 ∧ w'.cell? ⟨W.heap.size + 1, 1, none⟩ = some b2 ∧ w'.cell? ⟨W.heap.size + 1, 2, none⟩ = some c2 ∧ w'.cell? ⟨W.heap.size + 1, 3, none⟩ = some d2 ∧ ∀ j, w'.frozen? ⟨W.heap.size + 1, j, none⟩ = false) := by
  have h2 := made4 (W := W.alloc (.cells #[a, b, c, d] t)) (a := a2) (b := b2) (c := c2) (d := d2) (t := t2) h rfl
  rw [World.size_alloc] at h2
  refine ⟨made4 (W := W) (X := W.alloc (.cells #[a, b, c, d] t)) (t := t) ?_ rfl, h2⟩
  exact ((((Below.refl _ (W.alloc (.cells #[a, b, c, d] t))).alloc (Nat.le_refl _) _).drew).trans (h.mono (by show _ ≤ (World.alloc _ _).heap.size; simp)))
theorem made4dF {W w' : World} {a b c d : Value} {t : TypeId} (h : Below (W.alloc (.cells #[a, b, c, d] t)).drew.heap.size (W.alloc (.cells #[a, b, c, d] t)).drew w') : F4 w' W.heap.size a b c d := made4d h
theorem made44F {W w' : World} {a b c d a2 b2 c2 d2 : Value} {t t2 : TypeId} (h : Below ((W.alloc (.cells #[a, b, c, d] t)).alloc (.cells #[a2, b2, c2, d2] t2)).drew.heap.size ((W.alloc (.cells #[a, b, c, d] t)).alloc (.cells #[a2, b2, c2, d2] t2)).drew w') :
    F4 w' W.heap.size a b c d ∧ F4 w' (W.heap.size + 1) a2 b2 c2 d2 := made44 h
theorem sn_at {W : World} {B n : Nat} {A : Option Addr} {l : List (Int × Int × Int × Int)} {k : Nat} {a b c d : Int} (h : Sn W B A n l) (hk : l[k]? = some (a, b, c, d)) :
    ∃ b0 off a' b' c' d', A = some ⟨b0, off, none⟩ ∧ (a = a' ∧ b = b' ∧ c = c' ∧ d = d') ∧ W.cell? ⟨b0, off + k * 4, none⟩ = some (.int .i64 a') ∧ W.cell? ⟨b0, off + k * 4 + 1, none⟩ = some (.int .i64 b') ∧ W.cell? ⟨b0, off + k * 4 + 2, none⟩ = some (.int .i64 c') ∧ W.cell? ⟨b0, off + k * 4 + 3, none⟩ = some (.int .i64 d') := by
  have hkl := (List.getElem?_eq_some_iff.1 hk).1
  obtain ⟨b0, off, y, cs, e, _, hy, hl, hc, hcs⟩ := RowOf.at_ h (j := k) (by have := h.1; omega)
  rw [hk] at hy
  obtain rfl := Option.some.inj hy
  subst hcs
  exact ⟨b0, off, a, b, c, d, e, ⟨rfl, rfl, rfl, rfl⟩, hc 0 (by omega), hc 1 (by omega), hc 2 (by omega), hc 3 (by omega)⟩
theorem Sn.lift_ {wa : World} {A : Option Addr} {n : Nat} {l : List (Int × Int × Int × Int)} (h : Sn wa wa.heap.size A n l) : ∀ W, Below wa.heap.size wa W → Sn W wa.heap.size A n l := fun W hb => RowOf.below h hb
theorem keeps_new {S : Nat → Prop} {W : World} (hS : ∀ b, S b → b < W.heap.size) (a b c d : Value) (t : TypeId) : Keeps S (W.alloc (.cells #[a, b, c, d] t)).drew W.heap.size [a, b, c, d] :=
  (Keeps.made W hS [a, b, c, d] t).below (Below.refl _ _).drew
theorem bel_new {W : World} (o : Obj) (n : Nat) : Below W.heap.size W (W.alloc o).drew := ((Below.refl _ _).alloc (Nat.le_refl _) o).drew
section
variable {w wr X w5 : World} {p q k : Nat} {S : Nat → Prop} {h h' : HeapV} {pg : Int} {A A' : Option Addr} {c c' : Nat} {A2 A2' : Option Addr} {n2 c2 n2' c2' : Nat} {la la' : Int}
theorem Mid.made (s : St7 w wr p q S h k pg A c A2 n2 c2 la) (hb : Below wr.heap.size wr w5) (a : Ans S q wr X w5 h' pg A' c' A2' n2' c2' la') (t : TypeId) :
    Mid w (w5.alloc (.cells #[.int .i64 pg, .slice A' 1024 c', .slice A2' n2' c2', .int .i64 la'] t)) p q w5.heap.size S h k h' pg A' c' A2' n2' c2' la' (.int .i64 pg) (.slice A 1024 c) (.slice A2 n2 c2) (.int .i64 la) := by
  have s5 := s.below hb
  have ha : Below w5.heap.size w5 (w5.alloc (.cells #[.int .i64 pg, .slice A' 1024 c', .slice A2' n2' c2', .int .i64 la'] t)) := (Below.refl _ w5).alloc (Nat.le_refl _) _
  exact ⟨s5.st.below ha, s5.kq.below ha, Keeps.made w5 (fun b hc => s5.st.hp.lt b hc) [.int .i64 pg, .slice A' 1024 c', .slice A2' n2' c2', .int .i64 la'] t, a.rh.below ha, s.ql, by have := s5.kq.1; omega⟩
theorem Mid.laid {r : Nat} (s : St7 w wr p q S h k pg A c A2 n2 c2 la) (hb : Below wr.heap.size wr w5) (a : Ans S q wr X w5 h' pg A' c' A2' n2' c2' la') (hr : wr.heap.size ≤ r) (hX : r < X.heap.size) {x0 x1 x2 x3 : Value}
    (z0 : w5.cell? ⟨r, 0, none⟩ = some x0) (z1 : w5.cell? ⟨r, 1, none⟩ = some x1) (z2 : w5.cell? ⟨r, 2, none⟩ = some x2) (z3 : w5.cell? ⟨r, 3, none⟩ = some x3) (zf : ∀ j, w5.frozen? ⟨r, j, none⟩ = false) :
    Mid w ((((w5.setCell ⟨r, 0, none⟩ (.int .i64 pg)).setCell ⟨r, 1, none⟩ (.slice A' 1024 c')).setCell ⟨r, 2, none⟩ (.slice A2' n2' c2')).setCell ⟨r, 3, none⟩ (.int .i64 la')) p q r S h k h' pg A' c' A2' n2' c2' la' (.int .i64 pg) (.slice A 1024 c) (.slice A2 n2 c2) (.int .i64 la) := by
  have s5 := s.below hb
  have hq := s.kq.1
  have hwr := s.st.bel.size
  have hn : ¬ S r := fun hc => by have := s.st.hp.lt _ hc; omega
  have kr0 : Keeps S w5 r [x0, x1, x2, x3] := ⟨lt_of_cell z0, hn, fun j v hj => by
    match j, hj with
    | 0, hj => obtain rfl : x0 = v := by simpa using hj
               exact z0
    | 1, hj => obtain rfl : x1 = v := by simpa using hj
               exact z1
    | 2, hj => obtain rfl : x2 = v := by simpa using hj
               exact z2
    | 3, hj => obtain rfl : x3 = v := by simpa using hj
               exact z3
    | j + 4, hj => simp at hj, zf⟩
  obtain ⟨k1, hK⟩ := kr0.put (u0 := .int .i64 pg) (u1 := .slice A' 1024 c') (u2 := .slice A2' n2' c2') (u3 := .int .i64 la')
  have row : ∀ {B : Option Addr}, InP (OldNew S q wr.heap.size X.heap.size) B → ∀ a, B = some a → ¬ a.block = r := fun hB a e hc => by
    rcases hB a e with h1 | h1
    · omega
    · omega
  exact ⟨s5.st.kept hK (fun b hb => by subst hb; exact ⟨hn, by omega⟩), s5.kq.kept hK (fun hc => by omega), k1, a.rh.kept hK (row a.o1) (row a.o2), s.ql, by omega⟩
end
theorem alloc_more {W : World} {o : Obj} : W.heap.size < (W.alloc o).drew.heap.size := by show W.heap.size < (W.alloc o).heap.size; simp
theorem t_rnew_no (pages : Int) (w : World) (hbad : pages < 4 ∨ 1024 < pages) (h0 : in64 pages) :
    Calls Tryz.prog 6 #[.int .i64 pages] w fun e w' => ∃ (a : Int) (A : Option Addr) (n c : Nat) (A2 : Option Addr) (n2 c2 : Nat) (la : Int), e = .returned (.tuple #[.agg #[.int .i64 a, .slice A n c, .slice A2 n2 c2, .int .i64 la], .int .i64 1]) ∧ Below w.heap.size w w' := by
  refine (ref_hnew (fun _ => True) pages w (fun _ _ => trivial) h0.1 h0.2).mono ?_
  rw [show hNew pages = (hNone, 1) by unfold hNew; rw [if_pos hbad]]
  rintro e w' ⟨⟨v, rfl, A, c, A2, c2, rfl, _⟩, hb⟩
  exact ⟨_, _, _, _, _, _, _, _, rfl, hb⟩

set_option maxRecDepth 100000 in
set_option maxHeartbeats 64000000 in
theorem heapPlays_any (pages : Int) (A : Option Addr) (m c : Nat) (l : List Act7) (id at' : Int) (w : World) (h0 : in64 pages) (hid : in64 id) (hat : in64 at') (hm : m ≤ maxLen) (hs : RowOf (Act7Is w) 4 w w.heap.size A m l) :
    Calls Tryz.prog 3 #[.int .i64 pages, .slice A m c, .int .i64 id, .int .i64 at'] w fun e w' => e = .returned (.bool true) ∧ Below w.heap.size w w' := by
  have cw := fun W => awake7 W
  unfold maxLen at hm
  by_cases g1 : 100 < m
  · have g2 : (100 : Int) < (m : Int) := by omega
    clear hs
    go_enter Tryz.func3, Tryz.ntmps3
    go_wp2_with (first
      | (go_at_call 4; (with_reducible refine (cw _).mono ?_); rintro e w2 ⟨rfl, hb2⟩))
    go_ret
    exact ⟨rfl, hb2⟩
  have g2 : ¬ (100 : Int) < (m : Int) := by omega
  by_cases hbad : pages < 4 ∨ 1024 < pages
  · have cn := code_hnew_no pages w hbad
    have cr := t_rnew_no pages w hbad h0
    have cz := fun W => code_hsize_nil W
    clear hs hbad
    go_enter Tryz.func3, Tryz.ntmps3
    go_wp2_with (first
      | (go_at_call 5; (with_reducible refine cn.mono ?_); rintro e w1 ⟨rfl, rfl⟩)
      | (go_at_call 6; (with_reducible refine cr.mono ?_); rintro e w2 ⟨a, A1, n1, c1, A2, n2, c2, la, rfl, hb2⟩; have HB := hidb (hb2.alloc hb2.size (.cells #[.int .i64 a, .slice A1 n1 c1, .slice A2 n2 c2, .int .i64 la] 31)); clear hb2)
      | (go_at_call 7; (with_reducible refine (cz _).mono ?_); rintro e w3 ⟨rfl, hb3⟩; replace HB := hidb (HB.out.trans (hb3.mono HB.out.size)); clear hb3)
      | (go_at_call 4; (with_reducible refine (cw _).mono ?_); rintro e w4 ⟨rfl, hb4⟩))
    go_ret
    exact ⟨rfl, HB.out.trans (hb4.mono HB.out.size)⟩
  have hp0 : 4 ≤ pages ∧ pages ≤ 1024 := by omega
  obtain ⟨F, hN, cn⟩ := t_hnew pages w (by omega) (by omega)
  have HN := hidb hN
  have H0 := hidb h0
  have HFL : Hid (∀ p S w1, HeapSt w w1 p S ⟨pages, F, [], 0⟩ 0 pages → F.length = 1024) := hidb (fun p S w1 s => s.hp.ok.fl)
  have HR := hidb hs
  have hm50 : m ≤ 100 := by omega
  clear hs hbad hN
  go_enter Tryz.func3, Tryz.ntmps3
  go_wp2_with (first
    | (go_at_call 5; (with_reducible refine cn.mono ?_); rintro e w1 ⟨p, S, rfl, s1⟩; have cr := t_rnew s1 H0.out HN.out rfl (HFL.out _ _ _ s1))
    | (go_at_call 6; (with_reducible refine cr.mono ?_); rintro e w2 ⟨A1, c1, A2, n2, c2, la, rfl, s2⟩; have S0 := hidb s2; clear s2))
  clear cn cr s1
  go_loopw [13] (fun v wr => ∃ (j : Nat) (S' : Nat → Prop) (h : HeapV) (A1 : Option Addr) (c1 : Nat) (A2 : Option Addr) (n2 c2 : Nat) (la : Int), j ≤ m ∧ v = .int .i64 j ∧ Hid (St7 w wr p w2.heap.size S' h j pages A1 c1 A2 n2 c2 la)) (fun v _ => (m - intOf v).toNat)
  case atStart => exact ⟨0, S, _, A1, c1, A2, n2, c2, la, Nat.zero_le _, rfl, S0⟩
  case round =>
    clear S0
    obtain ⟨j, S', h, A1, c1, A2, n2, c2, la, hj, rfl, HS⟩ := hrel
    by_cases hlt : j < m
    · obtain ⟨b, off, a, rfl, hbz, hx, ha, hc0, hc1, hc2, hc3⟩ := act_at (HR.out.below HS.out.st.bel) hlt
      obtain ⟨_, ha1, ha2, ha3, ha4, ha5⟩ := ha
      have HSL := hidb ((ha2.below HS.out.st.bel).more HS.out.st.bel.size)
      have HSL0 := hidb ha2
      have HA3 := hidb ha3
      have hi0 : (0 : Int) ≤ (j : Int) := by omega
      have hi1 : (j : Int) < (m : Int) := by omega
      obtain ⟨af, aA, alen, acap, aids, apg, aor⟩ := a
      simp only at hc0 hc1 hc2 hc3 ha1 ha4 ha5 HSL HSL0 HA3
      unfold maxLen at ha1
      clear hx ha2 ha3
      by_cases gl : 10 < alen
      · have gl2 : (10 : Int) < (alen : Int) := by omega
        go_wp2_with (first
          | (go_at_call 4; (with_reducible refine (cw _).mono ?_); rintro e w5 ⟨rfl, hb2⟩))
        go_ret
        exact ⟨rfl, HS.out.st.bel.trans (hb2.mono HS.out.st.bel.size)⟩
      have gl2 : ¬ (10 : Int) < (alen : Int) := by omega
      have HCE : Hid (∀ w2, Below w.heap.size w w2 → w2.cell? ⟨b, off + j * 4, none⟩ = some (.bool af) ∧ w2.cell? ⟨b, off + j * 4 + 1, none⟩ = some (.slice aA alen acap) ∧ w2.cell? ⟨b, off + j * 4 + 2, none⟩ = some (.int .i64 apg) ∧ w2.cell? ⟨b, off + j * 4 + 3, none⟩ = some (.int .i64 aor)) := hidb (fun w2 hb => by
        rw [hb.cell (p := ⟨b, off + j * 4, none⟩) hbz, hb.cell (p := ⟨b, off + j * 4 + 1, none⟩) hbz, hb.cell (p := ⟨b, off + j * 4 + 2, none⟩) hbz, hb.cell (p := ⟨b, off + j * 4 + 3, none⟩) hbz, ← HS.out.st.bel.cell (p := ⟨b, off + j * 4, none⟩) hbz, ← HS.out.st.bel.cell (p := ⟨b, off + j * 4 + 1, none⟩) hbz, ← HS.out.st.bel.cell (p := ⟨b, off + j * 4 + 2, none⟩) hbz, ← HS.out.st.bel.cell (p := ⟨b, off + j * 4 + 3, none⟩) hbz]
        exact ⟨hc0, hc1, hc2, hc3⟩)
      obtain ⟨q0, q1, q2, q3⟩ := HS.out.kq.four
      have hk9 : j ≤ 60000 := by omega
      cases af with
      | true =>
        obtain ⟨⟨h', no⟩, hD⟩ : ∃ r, hDrop h aids = r := ⟨_, rfl⟩
        have CD : Hid (∀ X, Below wr.heap.size wr X → Calls Tryz.prog 8 #[.agg #[.int .i64 pages, .slice A1 1024 c1, .slice A2 n2 c2, .int .i64 la], .slice aA alen acap] X fun e w' => ∃ A' c' A2' n2' c2' la', e = .returned (.tuple #[.agg #[.int .i64 pages, .slice A' 1024 c', .slice A2' n2' c2', .int .i64 la'], .int .i64 no]) ∧ Ans S' w2.heap.size wr X w' h' pages A' c' A2' n2' c2' la') := hidb (fun X hX => t_rdrop HS.out aA alen acap aids HSL.out (by omega) HA3.out hk9 h' no hD hX)
        have HD := hidb hD
        clear hD
        have HN0 := hidb (fun (X : World) (a : Addr) (u : Value) (h : X.cell? a = some u) => World.new_ne X a h)
        have HX := hidb (fun (w5 : World) (hb : Below wr.heap.size wr w5) => And.intro ((HS.out.below hb).kq.four) (HCE.out _ (HS.out.st.bel.trans (hb.mono HS.out.st.bel.size))).2.1)
        go_wp2
        go_cut [14, 15] from 78 to 87 (fun v14 v15 W => ∃ (r : Nat) (A' : Option Addr) (c' : Nat) (A2' : Option Addr) (n2' c2' : Nat) (la' : Int), v14 = .pointer (some ⟨r, 0, none⟩) ∧ v15 = .int .i64 no ∧ Hid (Mid w W p w2.heap.size r S' h j h' pages A' c' A2' n2' c2' la' (.int .i64 pages) (.slice A1 1024 c1) (.slice A2 n2 c2) (.int .i64 la)))
        case first =>
          clear hc0 hc2 hc3 HSL0 ha4 ha5
          have n0 := World.new_ne wr ⟨w2.heap.size, 0, none⟩ q0
          have n4 := World.new_ne wr ⟨b, off + j * 4 + 1, none⟩ hc1
          simp only at n0 n4
          go_region_held3 (fun W => W.cell? ⟨w2.heap.size, 0, none⟩ = some (.int .i64 pages) ∧ W.cell? ⟨w2.heap.size, 1, none⟩ = some (.slice A1 1024 c1) ∧ W.cell? ⟨w2.heap.size, 2, none⟩ = some (.slice A2 n2 c2) ∧ W.cell? ⟨w2.heap.size, 3, none⟩ = some (.int .i64 la) ∧ W.cell? ⟨b, off + j * 4 + 1, none⟩ = some (.slice aA alen acap))
            (first | (go_keep; done) | (with_reducible exact ⟨by assumption, by assumption, by assumption, by assumption, by assumption⟩))
            (first
              | (go_at_call 8; ((with_reducible refine (CD.out _ (by repeat (first | with_reducible exact Below.refl _ _ | with_reducible apply bel_al | with_reducible apply bel_dr))).mono ?_); rintro e w5 ⟨A', c', A2', n2', c2', la', rfl, hA⟩; have HA := hidb hA; clear hA; have HXW : Hid (Below wr.heap.size wr w5) := hidb (bel_tr (by repeat (first | with_reducible exact Below.refl _ _ | with_reducible apply bel_al | with_reducible apply bel_dr)) HA.out.bel); obtain ⟨⟨x0, x1, x2, x3⟩, x4⟩ := HX.out w5 HXW.out; (first | ((have zz := (by with_reducible exact made4d (W := wr) (t := 31) (a := .int .i64 0) (b := .slice none 0 0) (c := .slice none 0 0) (d := .int .i64 0) (w' := w5) HA.out.bel)); obtain ⟨z0, z1, z2, z3, zf⟩ := zz; have zf0 := zf 0; have zf1 := zf 1; have zf2 := zf 2; have zf3 := zf 3; have zff := zf; clear zf) | skip); have m0 := HN0.out w5 _ _ x0; have m4 := HN0.out w5 _ _ x4; simp only at m0 m4)))
          · go_wp2_with fail
            go_meet
            exact ⟨w5.heap.size, A', c', A2', n2', c2', la', rfl, rfl, hidb (Mid.made HS.out HXW.out HA.out _)⟩
          · go_wp2_with fail
            go_meet
            exact ⟨wr.heap.size, A', c', A2', n2', c2', la', rfl, rfl, hidb (Mid.laid HS.out HXW.out HA.out (Nat.le_refl _) alloc_more z0 z1 z2 z3 zff)⟩
        case rest =>
          obtain ⟨r, A', c', A2', n2', c2', la', e14, e15, HM⟩ := hcut
          subst e14 e15
          have HSW := hidb HM.out.swap
          obtain ⟨k0, k1, k2, k3⟩ := HM.out.kr.four
          obtain ⟨p0, p1, p2, p3⟩ := HM.out.kq.four
          obtain ⟨y0, y1, y2, y3⟩ := HCE.out _ HM.out.st.bel
          have hne := HM.out.ne
          have hbq : w2.heap.size ≠ b := by have := HS.out.ql; omega
          have f0 := HM.out.kq.2.2.2 0
          have f1 := HM.out.kq.2.2.2 1
          have f2 := HM.out.kq.2.2.2 2
          have f3 := HM.out.kq.2.2.2 3
          have HSL2 : Hid (∀ W, Below w.heap.size w W → Sl W W.heap.size aA alen (aids.map iv)) := hidb (fun W hb => (HSL0.out.below hb).more hb.size)
          have hni : (no != no) = false := by simp
          clear hc0 hc1 hc2 hc3 q0 q1 q2 q3 CD HX
          go_wp2_with (first
            | (go_at_call 9; (with_reducible refine (t_hfree7 HSW.out aA alen acap aids (HSL2.out _ HSW.out.st.bel) (by omega) HA3.out no HD.out).mono ?_); rintro e w6 ⟨rfl, S6, s6⟩; have HS6 := hidb s6; clear s6))
          go_roundw
          case rel => exact ⟨j + 1, S6, h', A', c', A2', n2', c2', la', by omega, by go_num, hidb ⟨⟨HS6.out.st.hp, HS6.out.st.low, HS6.out.st.bel, by have := HS6.out.st.la; omega, HS6.out.st.pg⟩, HS6.out.kq, HS6.out.rh, HS6.out.ql⟩⟩
          case measure => simp [intOf]; omega
      | false =>
        obtain ⟨⟨h', ⟨s1, s2, s3, s4⟩, no⟩, hM⟩ : ∃ r, hMake h apg aor = r := ⟨_, rfl⟩
        have CD : Hid (∀ X, Below wr.heap.size wr X → Calls Tryz.prog 10 #[.agg #[.int .i64 pages, .slice A1 1024 c1, .slice A2 n2 c2, .int .i64 la], .int .i64 apg, .int .i64 aor] X fun e w' => ∃ A' c' A2' n2' c2' la', e = .returned (.tuple #[.agg #[.int .i64 pages, .slice A' 1024 c', .slice A2' n2' c2', .int .i64 la'], .agg #[.int .i64 s1, .int .i64 s2, .int .i64 s3, .int .i64 s4], .int .i64 no]) ∧ Ans S' w2.heap.size wr X w' h' pages A' c' A2' n2' c2' la') := hidb (fun X hX => t_rmake HS.out apg aor ha4 ha5 hk9 h' s1 s2 s3 s4 no hM hX)
        have HM0 := hidb hM
        clear hM
        have HN0 := hidb (fun (X : World) (a : Addr) (u : Value) (h : X.cell? a = some u) => World.new_ne X a h)
        have HX := hidb (fun (w5 : World) (hb : Below wr.heap.size wr w5) => And.intro ((HS.out.below hb).kq.four) (HCE.out _ (HS.out.st.bel.trans (hb.mono HS.out.st.bel.size))).2.2)
        go_wp2
        go_cut [16, 17, 18] from 98 to 113 (fun v16 v17 v18 W => ∃ (r r2 : Nat) (A' : Option Addr) (c' : Nat) (A2' : Option Addr) (n2' c2' : Nat) (la' : Int), v16 = .pointer (some ⟨r, 0, none⟩) ∧ v17 = .pointer (some ⟨r2, 0, none⟩) ∧ v18 = .int .i64 no ∧ Hid (Mid w W p w2.heap.size r S' h j h' pages A' c' A2' n2' c2' la' (.int .i64 pages) (.slice A1 1024 c1) (.slice A2 n2 c2) (.int .i64 la)) ∧ Hid (Keeps S' W r2 [.int .i64 s1, .int .i64 s2, .int .i64 s3, .int .i64 s4] ∧ r2 ≠ w2.heap.size))
        case first =>
          clear hc0 hc1 HSL0 HSL HA3
          have n0 := World.new_ne wr ⟨w2.heap.size, 0, none⟩ q0
          have n4 := World.new_ne wr ⟨b, off + j * 4 + 2, none⟩ hc2
          simp only at n0 n4
          have HXS := hidb (fun (W : World) (hb : Below wr.heap.size wr W) => (⟨((HS.out.below hb).kq.four).1, ((HS.out.below hb).kq.four).2.1, ((HS.out.below hb).kq.four).2.2.1, ((HS.out.below hb).kq.four).2.2.2, (HCE.out _ (HS.out.st.bel.trans (hb.mono HS.out.st.bel.size))).2.2.1, (HCE.out _ (HS.out.st.bel.trans (hb.mono HS.out.st.bel.size))).2.2.2⟩ : W.cell? ⟨w2.heap.size, 0, none⟩ = some (.int .i64 pages) ∧ W.cell? ⟨w2.heap.size, 1, none⟩ = some (.slice A1 1024 c1) ∧ W.cell? ⟨w2.heap.size, 2, none⟩ = some (.slice A2 n2 c2) ∧ W.cell? ⟨w2.heap.size, 3, none⟩ = some (.int .i64 la) ∧ W.cell? ⟨b, off + j * 4 + 2, none⟩ = some (.int .i64 apg) ∧ W.cell? ⟨b, off + j * 4 + 3, none⟩ = some (.int .i64 aor)))
          have ne1 : wr.heap.size ≠ wr.heap.size + 1 := by omega
          have ne2 : wr.heap.size + 1 ≠ wr.heap.size := by omega
          have ne3 : wr.heap.size + 1 ≠ w2.heap.size := by have := HS.out.kq.1; omega
          have ne4 : wr.heap.size + 1 ≠ b := by have h1 := HS.out.ql; have h2 := HS.out.kq.1; omega
          go_region_held3 (fun W => W.cell? ⟨w2.heap.size, 0, none⟩ = some (.int .i64 pages) ∧ W.cell? ⟨w2.heap.size, 1, none⟩ = some (.slice A1 1024 c1) ∧ W.cell? ⟨w2.heap.size, 2, none⟩ = some (.slice A2 n2 c2) ∧ W.cell? ⟨w2.heap.size, 3, none⟩ = some (.int .i64 la) ∧ W.cell? ⟨b, off + j * 4 + 2, none⟩ = some (.int .i64 apg) ∧ W.cell? ⟨b, off + j * 4 + 3, none⟩ = some (.int .i64 aor))
            (with_reducible exact HXS.out _ (by repeat (first | with_reducible exact Below.refl _ _ | with_reducible apply bel_al | with_reducible apply bel_dr | (with_reducible apply bel_s0) | (with_reducible apply bel_s1) | (with_reducible refine bel_s5 (Hid.out (by assumption)) ?_) | (with_reducible refine bel_s6 (Hid.out (by assumption)) ?_) | (with_reducible exact Hid.out (by assumption)))))
            (first
              | (go_at_call 10; ((with_reducible refine (CD.out _ (by repeat (first | with_reducible exact Below.refl _ _ | with_reducible apply bel_al | with_reducible apply bel_dr))).mono ?_); rintro e w5 ⟨A', c', A2', n2', c2', la', rfl, hA⟩; have HA := hidb hA; clear hA; have HXW : Hid (Below wr.heap.size wr w5) := hidb (bel_tr (by repeat (first | with_reducible exact Below.refl _ _ | with_reducible apply bel_al | with_reducible apply bel_dr)) HA.out.bel); obtain ⟨⟨x0, x1, x2, x3⟩, x4, x5⟩ := HX.out w5 HXW.out; (first | ((have zz : F4 w5 wr.heap.size (.int .i64 0) (.slice none 0 0) (.slice none 0 0) (.int .i64 0) := (by with_reducible exact made4dF (W := wr) (t := 31) (a := .int .i64 0) (b := .slice none 0 0) (c := .slice none 0 0) (d := .int .i64 0) (w' := w5) HA.out.bel)); have ZZ := hidb zz; have za := zz.alloc (.cells #[.int .i64 0, .int .i64 0, .int .i64 0, .int .i64 0] 43); have zb := (F4.made w5 (.int .i64 0) (.int .i64 0) (.int .i64 0) (.int .i64 0) 43).aside (r2 := wr.heap.size) (Nat.ne_of_lt (lt_of_cell zz.1)) (.int .i64 pages) (.slice A' 1024 c') (.slice A2' n2' c2') (.int .i64 la'); unfold F4 at zz za; unfold F4 set4 at zb; obtain ⟨z0, z1, z2, z3, zf⟩ := zz; have zf0 := zf 0; have zf1 := zf 1; have zf2 := zf 2; have zf3 := zf 3; clear zf; obtain ⟨p0, p1, p2, p3, pf⟩ := za; have pf0 := pf 0; have pf1 := pf 1; have pf2 := pf 2; have pf3 := pf 3; clear pf; obtain ⟨g0, g1, g2, g3, gf⟩ := zb; have gf0 := gf 0; have gf1 := gf 1; have gf2 := gf 2; have gf3 := gf 3; clear gf) | ((have zz : F4 w5 wr.heap.size (.int .i64 0) (.int .i64 0) (.int .i64 0) (.int .i64 0) := (by with_reducible exact made4dF (W := wr) (t := 43) (a := .int .i64 0) (b := .int .i64 0) (c := .int .i64 0) (d := .int .i64 0) (w' := w5) HA.out.bel)); have ZZ := hidb zz; have za := zz.alloc (.cells #[.int .i64 pages, .slice A' 1024 c', .slice A2' n2' c2', .int .i64 la'] 31); unfold F4 at zz za; obtain ⟨z0, z1, z2, z3, zf⟩ := zz; have zf0 := zf 0; have zf1 := zf 1; have zf2 := zf 2; have zf3 := zf 3; clear zf; obtain ⟨p0, p1, p2, p3, pf⟩ := za; have pf0 := pf 0; have pf1 := pf 1; have pf2 := pf 2; have pf3 := pf 3; clear pf) | ((have zz : F4 w5 wr.heap.size (.int .i64 0) (.slice none 0 0) (.slice none 0 0) (.int .i64 0) ∧ F4 w5 (wr.heap.size + 1) (.int .i64 0) (.int .i64 0) (.int .i64 0) (.int .i64 0) := (by with_reducible exact made44F (W := wr) (t := 31) (a := .int .i64 0) (b := .slice none 0 0) (c := .slice none 0 0) (d := .int .i64 0) (t2 := 43) (a2 := .int .i64 0) (b2 := .int .i64 0) (c2 := .int .i64 0) (d2 := .int .i64 0) (w' := w5) HA.out.bel)); have ZZ := hidb zz; obtain ⟨zv, zu⟩ := zz; have za := zu.aside (r2 := wr.heap.size) ne1 (.int .i64 pages) (.slice A' 1024 c') (.slice A2' n2' c2') (.int .i64 la'); unfold F4 at zv zu; unfold F4 set4 at za; obtain ⟨z0, z1, z2, z3, zf⟩ := zv; have zf0 := zf 0; have zf1 := zf 1; have zf2 := zf 2; have zf3 := zf 3; clear zf; obtain ⟨u0, u1, u2, u3, uf⟩ := zu; have uf0 := uf 0; have uf1 := uf 1; have uf2 := uf 2; have uf3 := uf 3; clear uf; obtain ⟨p0, p1, p2, p3, pf⟩ := za; have pf0 := pf 0; have pf1 := pf 1; have pf2 := pf 2; have pf3 := pf 3; clear pf) | ((have zz : F4 w5 wr.heap.size (.int .i64 0) (.int .i64 0) (.int .i64 0) (.int .i64 0) ∧ F4 w5 (wr.heap.size + 1) (.int .i64 0) (.slice none 0 0) (.slice none 0 0) (.int .i64 0) := (by with_reducible exact made44F (W := wr) (t := 43) (a := .int .i64 0) (b := .int .i64 0) (c := .int .i64 0) (d := .int .i64 0) (t2 := 31) (a2 := .int .i64 0) (b2 := .slice none 0 0) (c2 := .slice none 0 0) (d2 := .int .i64 0) (w' := w5) HA.out.bel)); have ZZ := hidb zz; obtain ⟨zv, zu⟩ := zz; have za := zv.aside (r2 := wr.heap.size + 1) ne2 (.int .i64 pages) (.slice A' 1024 c') (.slice A2' n2' c2') (.int .i64 la'); unfold F4 at zv zu; unfold F4 set4 at za; obtain ⟨z0, z1, z2, z3, zf⟩ := zv; have zf0 := zf 0; have zf1 := zf 1; have zf2 := zf 2; have zf3 := zf 3; clear zf; obtain ⟨u0, u1, u2, u3, uf⟩ := zu; have uf0 := uf 0; have uf1 := uf 1; have uf2 := uf 2; have uf3 := uf 3; clear uf; obtain ⟨p0, p1, p2, p3, pf⟩ := za; have pf0 := pf 0; have pf1 := pf 1; have pf2 := pf 2; have pf3 := pf 3; clear pf) | skip); have m0 := HN0.out w5 _ _ x0; have m4 := HN0.out w5 _ _ x4; simp only at m0 m4; have ne5 : w5.heap.size ≠ w5.heap.size + 1 := Nat.ne_of_lt (Nat.lt_succ_self _); have ne6 := ne5.symm; have ne7 : w5.heap.size + 1 ≠ w2.heap.size := Nat.ne_of_gt (Nat.lt_succ_of_lt (lt_of_cell x0)); have ne8 : w5.heap.size + 1 ≠ b := Nat.ne_of_gt (Nat.lt_succ_of_lt (lt_of_cell x4)); have lt0 : w2.heap.size < w5.heap.size := lt_of_cell x0; have lt4 : b < w5.heap.size := lt_of_cell x4)))
          all_goals go_wp2_with fail
          · have B := Both7.o1 HS.out HXW.out HA.out 31 43 (.int .i64 s1) (.int .i64 s2) (.int .i64 s3) (.int .i64 s4)
            go_meet
            exact ⟨w5.heap.size, w5.heap.size + 1, A', c', A2', n2', c2', la', rfl, rfl, rfl, hidb B.1, hidb B.2⟩
          · have B := Both7.o2 HS.out HXW.out HA.out 31 43 (.int .i64 s1) (.int .i64 s2) (.int .i64 s3) (.int .i64 s4)
            go_meet
            exact ⟨w5.heap.size + 1, w5.heap.size, A', c', A2', n2', c2', la', rfl, rfl, rfl, hidb B.1, hidb B.2⟩
          · have B := Both7.o3 (z0 := .int .i64 0) (z1 := .int .i64 0) (z2 := .int .i64 0) (z3 := .int .i64 0) HS.out HXW.out HA.out alloc_lt1 (lt_of_cell ZZ.out.1) ZZ.out 43 (.int .i64 s1) (.int .i64 s2) (.int .i64 s3) (.int .i64 s4)
            unfold set4 at B
            go_meet
            exact ⟨wr.heap.size, w5.heap.size, A', c', A2', n2', c2', la', rfl, rfl, rfl, hidb B.1, hidb B.2⟩
          · have B := Both7.o6 HS.out HXW.out HA.out (Nat.le_refl _) alloc_more2.1 (Nat.le_succ _) alloc_more2.2 ne1 ZZ.out.1 ZZ.out.2 (.int .i64 s1) (.int .i64 s2) (.int .i64 s3) (.int .i64 s4)
            unfold set4 at B
            go_meet
            exact ⟨wr.heap.size, wr.heap.size + 1, A', c', A2', n2', c2', la', rfl, rfl, rfl, hidb B.1, hidb B.2⟩
          · have B := Both7.o5 HS.out HXW.out HA.out alloc_lt1 (lt_of_cell ZZ.out.1) ZZ.out 31 (.int .i64 s1) (.int .i64 s2) (.int .i64 s3) (.int .i64 s4)
            unfold set4 at B
            go_meet
            exact ⟨w5.heap.size, wr.heap.size, A', c', A2', n2', c2', la', rfl, rfl, rfl, hidb B.1, hidb B.2⟩
          · have B := Both7.o6 HS.out HXW.out HA.out (Nat.le_succ _) alloc_more2.2 (Nat.le_refl _) alloc_more2.1 ne2 ZZ.out.2 ZZ.out.1 (.int .i64 s1) (.int .i64 s2) (.int .i64 s3) (.int .i64 s4)
            unfold set4 at B
            go_meet
            exact ⟨wr.heap.size + 1, wr.heap.size, A', c', A2', n2', c2', la', rfl, rfl, rfl, hidb B.1, hidb B.2⟩
        case rest =>
          obtain ⟨r, r2, A', c', A2', n2', c2', la', e16, e17, e18, HM, HK⟩ := hcut
          subst e16 e17 e18
          have HSW := hidb HM.out.swap
          obtain ⟨k0, k1, k2, k3⟩ := HM.out.kr.four
          obtain ⟨p0, p1, p2, p3⟩ := HM.out.kq.four
          have hne := HM.out.ne
          have f0 := HM.out.kq.2.2.2 0
          have f1 := HM.out.kq.2.2.2 1
          have f2 := HM.out.kq.2.2.2 2
          have f3 := HM.out.kq.2.2.2 3
          have HK2 := hidb (HK.out.1.kept (W' := (((wc.setCell ⟨w2.heap.size, 0, none⟩ (.int .i64 pages)).setCell ⟨w2.heap.size, 1, none⟩ (.slice A' 1024 c')).setCell ⟨w2.heap.size, 2, none⟩ (.slice A2' n2' c2')).setCell ⟨w2.heap.size, 3, none⟩ (.int .i64 la')) (kept4_set (T := fun b => b = w2.heap.size) (Kept.refl _ wc) (Or.inl rfl) (.int .i64 pages) (.slice A' 1024 c') (.slice A2' n2' c2') (.int .i64 la')) HK.out.2)
          clear hc0 hc1 hc2 hc3 q0 q1 q2 q3 CD HX HN0
          obtain ⟨wq, hwq⟩ : ∃ wq, wq = (((wc.setCell ⟨w2.heap.size, 0, none⟩ (.int .i64 pages)).setCell ⟨w2.heap.size, 1, none⟩ (.slice A' 1024 c')).setCell ⟨w2.heap.size, 2, none⟩ (.slice A2' n2' c2')).setCell ⟨w2.heap.size, 3, none⟩ (.int .i64 la') := ⟨_, rfl⟩
          rw [← hwq] at HSW HK2
          have HWQ := hidb hwq
          have HBQ : Hid (Below w.heap.size w wq) := hidb HSW.out.st.bel
          have HXT := hidb (fun (W : World) (hb : Below w.heap.size w W) => (HCE.out W hb).2.2)
          obtain ⟨y2, y3⟩ := HXT.out wq HBQ.out
          have CM : Hid (∀ X, Below wq.heap.size wq X → Calls Tryz.prog 11 #[.pointer (some ⟨p, 0, none⟩), .int .i64 apg, .int .i64 aor] X fun e w' => e = .returned (.tuple #[.agg #[.int .i64 s1, .int .i64 s2, .int .i64 s3, .int .i64 s4], .int .i64 no]) ∧ ∃ S6, St7 w w' p w2.heap.size S6 h' (j + 1) pages A' c' A2' n2' c2' la' ∧ ∀ r cs, Keeps S' X r cs → Keeps S6 w' r cs) := hidb (fun X hX => t_hmake7 (HSW.out.below hX) apg aor ha4 ha5 hk9 s1 s2 s3 s4 no HM0.out)
          have HLT : Hid (∀ b, S' b → b < wq.heap.size) := hidb HSW.out.st.hp.lt
          have HRQ : Hid ((∀ a, A' = some a → a.block < wq.heap.size) ∧ (∀ a, A2' = some a → a.block < wq.heap.size) ∧ w2.heap.size < wq.heap.size) := hidb ⟨HSW.out.rh.q1, HSW.out.rh.q2, HSW.out.kq.1⟩
          go_wp2
          rw [← HWQ.out]
          go_cut [19, 20] from 115 to 129 (fun v19 v20 W => ∃ (r3 : Nat) (S6 : Nat → Prop), v19 = .pointer (some ⟨r3, 0, none⟩) ∧ v20 = .int .i64 no ∧ Hid (St7 w W p w2.heap.size S6 h' (j + 1) pages A' c' A2' n2' c2' la') ∧ Hid (Keeps S6 W r3 [.int .i64 s1, .int .i64 s2, .int .i64 s3, .int .i64 s4]) ∧ Hid (Keeps S6 W r2 [.int .i64 s1, .int .i64 s2, .int .i64 s3, .int .i64 s4]))
          case first =>
            clear HSL HA3 HSL0 hwq
            go_region_held3 (fun W => W.cell? ⟨b, off + j * 4 + 2, none⟩ = some (.int .i64 apg) ∧ W.cell? ⟨b, off + j * 4 + 3, none⟩ = some (.int .i64 aor))
              (with_reducible exact HXT.out _ (by repeat (first | (with_reducible exact Hid.out (by assumption)) | with_reducible apply bel_al | with_reducible apply bel_dr | (with_reducible refine bel_s5 (Hid.out HBQ) ?_))))
              (first
                | (go_at_call 11; ((with_reducible refine (CM.out _ (by repeat (first | with_reducible exact Below.refl _ _ | with_reducible apply bel_al | with_reducible apply bel_dr))).mono ?_); rintro e w6 ⟨rfl, S6, s6, kk6⟩; have HS6 := hidb s6; have HB6 : Hid (Below w.heap.size w w6) := hidb s6.st.bel; (first | ((have zz : Keeps S6 w6 wq.heap.size [.int .i64 0, .int .i64 0, .int .i64 0, .int .i64 0] := (by with_reducible refine kk6 _ _ (keeps_new HLT.out _ _ _ _ 43))); have hk2 : Keeps S6 w6 r2 [.int .i64 s1, .int .i64 s2, .int .i64 s3, .int .i64 s4] := kk6 _ _ (HK2.out.below (bel_new _ 0)); have HK6 := hidb hk2; have ZZ := hidb zz; obtain ⟨z0, z1, z2, z3⟩ := zz.four; have zf0 := zz.2.2.2 0; have zf1 := zz.2.2.2 1; have zf2 := zz.2.2.2 2; have zf3 := zz.2.2.2 3; clear zz hk2) | (have HK6 : Hid (Keeps S6 w6 r2 [.int .i64 s1, .int .i64 s2, .int .i64 s3, .int .i64 s4]) := hidb (kk6 _ _ (HK2.out.below (Below.refl wq.heap.size wq).drew)))); clear s6 kk6)))
            all_goals go_wp2_with fail
            · obtain ⟨B1, B2, _⟩ := HS6.out.made (.int .i64 s1) (.int .i64 s2) (.int .i64 s3) (.int .i64 s4) 43
              go_meet
              exact ⟨w6.heap.size, S6, rfl, rfl, hidb B1, hidb B2, hidb (HK6.out.below ((Below.refl _ _).alloc (Nat.le_refl _) _))⟩
            · have B1 := HS6.out.aside (r := wq.heap.size) ZZ.out.2.1 (fun e => by have := HRQ.out.2.2; omega) HBQ.out.size (fun a e => by have := HRQ.out.1 a e; omega) (fun a e => by have := HRQ.out.2.1 a e; omega) (.int .i64 s1) (.int .i64 s2) (.int .i64 s3) (.int .i64 s4)
              obtain ⟨B2, B3⟩ := ZZ.out.put (u0 := .int .i64 s1) (u1 := .int .i64 s2) (u2 := .int .i64 s3) (u3 := .int .i64 s4)
              have hr2 := HK2.out.1
              unfold set4 at B1
              go_meet
              exact ⟨wq.heap.size, S6, rfl, rfl, hidb B1, hidb B2, hidb (HK6.out.kept B3 (fun e => by omega))⟩
          case rest =>
            obtain ⟨r3, S6, e19, e20, HS7, HR3, HR2⟩ := hcut
            subst e19 e20
            obtain ⟨t0, t1, t2, t3⟩ := HR3.out.four
            obtain ⟨v0, v1, v2, v3⟩ := HR2.out.four
            have hq : ∀ W, (binOp .neq 43 (.agg #[.int .i64 s1, .int .i64 s2, .int .i64 s3, .int .i64 s4]) (.agg #[.int .i64 s1, .int .i64 s2, .int .i64 s3, .int .i64 s4])).run Tryz.prog W = .ok (.bool false) W := fun W => by rw [neq_span]; simp
            clear k0 k1 k2 k3 p0 p1 p2 p3 f0 f1 f2 f3 y2 y3 CM
            go_wp2
            go_roundw
            case rel => exact ⟨j + 1, S6, h', A', c', A2', n2', c2', la', by omega, by go_num, HS7⟩
            case measure => simp [intOf]; omega
    · obtain rfl : m = j := by omega
      have hk9 : m ≤ 60000 := by omega
      have HSP := hidb (fun (X : World) (hX : Below wr.heap.size wr X) => HS.out.below hX)
      have hTwo := span_two h id
      have aTwo := at_two h at'
      have HQ0 := hidb (fun (X : World) (hX : Below wr.heap.size wr X) => (HS.out.below hX).kq.four)
      have HS2 := hidb (fun (X : World) (hX : Below wr.heap.size wr X) => (HS.out.below hX).rh.s2)
      have hl1 : (hSpans h).length ≤ 1000000000 := spans_len HS.out.st.hp.ok (by have := HS.out.st.la; omega)
      have hl2 : (fList h.free).length ≤ 65536 := by have q1 := fList_len h.free; have q2 := HS.out.rh.l1; omega
      obtain ⟨sa, sb, sc, sd, sok, kz, e1, e2, e3, hkz⟩ : ∃ (sa sb sc sd : Int) (sok : Bool) (kz : Int), spanOf h.l id = (sa, sb, sc, sd) ∧ (h.l.any fun s => s.1 == id) = sok ∧ hFind h.l id = kz ∧ ((kz = -1 ∧ sa = 0 ∧ sb = 0 ∧ sc = 0 ∧ sd = 0 ∧ sok = false) ∨ ∃ kn : Nat, kz = (kn : Int) ∧ sok = true ∧ h.l[kn]? = some (sa, sb, sc, sd)) := by
        rcases hTwo with ⟨q1, q2, q3⟩ | ⟨kn, a, b, c, d, q1, q2, q3, q4⟩
        · exact ⟨0, 0, 0, 0, false, -1, q2, q3, q1, Or.inl ⟨rfl, rfl, rfl, rfl, rfl, rfl⟩⟩
        · exact ⟨a, b, c, d, true, kn, q3, q4, q1, Or.inr ⟨kn, rfl, rfl, q2⟩⟩
      obtain ⟨ta, tb, tc, td, tok, jz, e4, e5, e6, hjz⟩ : ∃ (ta tb tc td : Int) (tok : Bool) (jz : Int), (atOf h.l at').getD spanNone = (ta, tb, tc, td) ∧ (atOf h.l at').isSome = tok ∧ hAt h.l at' = jz ∧ ((jz = -1 ∧ ta = 0 ∧ tb = 0 ∧ tc = 0 ∧ td = 0 ∧ tok = false) ∨ ∃ jn : Nat, jz = (jn : Int) ∧ tok = true ∧ h.l[jn]? = some (ta, tb, tc, td)) := by
        rcases aTwo with ⟨q1, q2, q3⟩ | ⟨kn, a, b, c, d, q1, q2, q3, q4⟩
        · exact ⟨0, 0, 0, 0, false, -1, q2, q3, q1, Or.inl ⟨rfl, rfl, rfl, rfl, rfl, rfl⟩⟩
        · exact ⟨a, b, c, d, true, kn, q3, q4, q1, Or.inr ⟨kn, rfl, rfl, q2⟩⟩
      have C1 := hidb (fun (X : World) (hX : Below wr.heap.size wr X) => t_span7 (HS.out.below hX) id hid sa sb sc sd sok e1 e2)
      have C2 := hidb (fun (X : World) (hX : Below wr.heap.size wr X) => t_find7 (HS.out.below hX) hk9 id kz e3)
      have C3 := hidb (fun (X : World) (hX : Below wr.heap.size wr X) => t_at7 (HS.out.below hX) at' hat ta tb tc td tok e4 e5)
      have C4 := hidb (fun (X : World) (hX : Below wr.heap.size wr X) => t_rat7 (HS.out.below hX) hk9 at' hat jz e6)
      have D1 := hidb (fun (X : World) (hX : Below wr.heap.size wr X) => t_cspans7 HS.out hX)
      have D2 := hidb (fun (X : World) (hX : Below wr.heap.size wr X) => t_rspans7 HS.out hk9 hX)
      have D3 := hidb (fun (X : World) (hX : Below wr.heap.size wr X) => t_cruns7 HS.out hX)
      have D4 := hidb (fun (X : World) (hX : Below wr.heap.size wr X) => t_rlist7 HS.out hX)
      have D5 := hidb (fun (X : World) (hX : Below wr.heap.size wr X) => t_csize7 HS.out hX)
      have HFIN : Hid (∀ X, Below wr.heap.size wr X → Below w.heap.size w X) := hidb (fun X hX => HS.out.st.bel.trans (hX.mono HS.out.st.bel.size))
      have HKZ := hidb hkz
      have HJZ := hidb hjz
      have HL2 := hidb HS.out.rh.l2
      obtain ⟨LS, hLS⟩ : ∃ LS, hSpans h = LS := ⟨_, rfl⟩
      obtain ⟨LR, hLR⟩ : ∃ LR, fList h.free = LR := ⟨_, rfl⟩
      rw [hLS] at D1 D2 hl1
      rw [hLR] at D3 D4 hl2
      clear hTwo aTwo e1 e2 e3 e4 e5 e6 hkz hjz HR hLS hLR
      go_wp2_with (first
        | (go_at_call 12; (with_reducible refine (C1.out wr (Below.refl _ _)).mono ?_); rintro e w4 ⟨rfl, hb4⟩; have f4 := F4.made w4 (.int .i64 sa) (.int .i64 sb) (.int .i64 sc) (.int .i64 sd) 43; have HF4 := hidb f4; have HB4 : Hid (Below wr.heap.size wr (w4.alloc (.cells #[.int .i64 sa, .int .i64 sb, .int .i64 sc, .int .i64 sd] 43))) := hidb (bel_al hb4 _); obtain ⟨q0, q1, q2, q3⟩ := HQ0.out _ HB4.out; clear hb4 f4)
        | (go_at_call 13; (with_reducible refine (C2.out _ HB4.out).mono ?_); rintro e w5 ⟨rfl, hb5⟩; have HB5 := hidb (bel_tr HB4.out hb5); have HF5 := hidb (HF4.out.below hb5); clear hb5)
        | (go_at_call 14; (with_reducible refine (C3.out _ HB5.out).mono ?_); rintro e w6 ⟨rfl, hb6⟩; have HB6 : Hid (Below wr.heap.size wr (w6.alloc (.cells #[.int .i64 ta, .int .i64 tb, .int .i64 tc, .int .i64 td] 43))) := hidb (bel_al (bel_tr HB5.out hb6) _); have HF6 := hidb ((HF5.out.below hb6).alloc (.cells #[.int .i64 ta, .int .i64 tb, .int .i64 tc, .int .i64 td] 43)); have HG6 := hidb (F4.made w6 (.int .i64 ta) (.int .i64 tb) (.int .i64 tc) (.int .i64 td) 43); obtain ⟨t0, t1, t2, t3⟩ := HQ0.out _ HB6.out; clear hb6)
        | (go_at_call 15; (with_reducible refine (C4.out _ HB6.out).mono ?_); rintro e w7 ⟨rfl, hb7⟩; have HB7 := hidb (bel_tr HB6.out hb7); have HF7 := hidb (HF6.out.below hb7); have HG7 := hidb (HG6.out.below hb7); clear hb7))
      obtain ⟨q0, q1, q2, q3⟩ := HQ0.out _ HB7.out
      obtain ⟨x0, x1, x2, x3, _⟩ := HF7.out
      obtain ⟨y0, y1, y2, y3, _⟩ := HG7.out
      have SN := HS2.out _ HB7.out
      have hqn : ∀ (a b c d : Int) (W : World), (binOp .neq 43 (.agg #[.int .i64 a, .int .i64 b, .int .i64 c, .int .i64 d]) (.agg #[.int .i64 a, .int .i64 b, .int .i64 c, .int .i64 d])).run Tryz.prog W = .ok (.bool false) W := fun a b c d W => by rw [neq_span]; simp
      rcases HKZ.out with ⟨rfl, rfl, rfl, rfl, rfl, rfl⟩ | ⟨kn, rfl, rfl, hkx⟩
      · have hn1 := fun W => hqn 0 0 0 0 W
        rcases HJZ.out with ⟨rfl, rfl, rfl, rfl, rfl, rfl⟩ | ⟨jn, rfl, rfl, hjx⟩
        · clear SN hqn HKZ HJZ
          have cq0 := q0
          have cq1 := q1
          have cq2 := q2
          have cq3 := q3
          go_quiet (fail)
          go_wp2
          obtain ⟨wz, hwz⟩ : ∃ wz, wz = w7.drewN nq := ⟨_, rfl⟩
          have HBZ : Hid (Below wr.heap.size wr wz) := hidb (by rw [hwz]; exact belowN HB7.out nq)
          rw [← hwz]
          clear hwz cq0 cq1 cq2 cq3 HF7 HG7
          obtain ⟨q0, q1, q2, q3⟩ := HQ0.out _ HBZ.out
          go_region_held3 (fun W => W.cell? ⟨w2.heap.size, 0, none⟩ = some (.int .i64 pages) ∧ W.cell? ⟨w2.heap.size, 1, none⟩ = some (.slice A1 1024 c1) ∧ W.cell? ⟨w2.heap.size, 2, none⟩ = some (.slice A2 n2 c2) ∧ W.cell? ⟨w2.heap.size, 3, none⟩ = some (.int .i64 la))
            (with_reducible exact HQ0.out _ (by repeat (first | (with_reducible exact Below.refl _ _) | (with_reducible exact Hid.out (by assumption)) | (with_reducible apply bel_al) | (with_reducible apply bel_dr))))
            (first
              | (go_at_call 17; ((with_reducible refine (D1.out _ (by repeat (first | (with_reducible exact Below.refl _ _) | (with_reducible exact Hid.out (by assumption)) | (with_reducible apply bel_al) | (with_reducible apply bel_dr)))).mono ?_); rintro e wa ⟨Aa, ca, rfl, ha, hb⟩; have HAa := hidb (Sn.lift_ ha); have HBa : Hid (Below wr.heap.size wr wa) := hidb (bel_tr (by repeat (first | (with_reducible exact Below.refl _ _) | (with_reducible exact Hid.out (by assumption)) | (with_reducible apply bel_al) | (with_reducible apply bel_dr))) hb); have HBxa := hidb hb; clear ha hb))
              | (go_at_call 18; ((with_reducible refine (D2.out _ (by repeat (first | (with_reducible exact Below.refl _ _) | (with_reducible exact Hid.out (by assumption)) | (with_reducible apply bel_al) | (with_reducible apply bel_dr)))).mono ?_); rintro e wb ⟨Ab, cbb, rfl, ha, hb⟩; have HAb := hidb (Sn.lift_ ha); have HBb : Hid (Below wr.heap.size wr wb) := hidb (bel_tr (by repeat (first | (with_reducible exact Below.refl _ _) | (with_reducible exact Hid.out (by assumption)) | (with_reducible apply bel_al) | (with_reducible apply bel_dr))) hb); have HBxb := hidb hb; clear ha hb))
              | (go_at_call 16; ((with_reducible refine (u_same7 (HAa.out _ (by first | (with_reducible exact Below.refl _ _) | (with_reducible exact Hid.out (by assumption)))) (HAb.out _ (by first | (with_reducible exact Below.refl _ _) | (with_reducible exact Hid.out (by assumption)))) hl1).mono ?_); rintro e wcc ⟨rfl, hb⟩; have HBc : Hid (Below wr.heap.size wr wcc) := hidb (bel_tr (by repeat (first | (with_reducible exact Below.refl _ _) | (with_reducible exact Hid.out (by assumption)) | (with_reducible apply bel_al) | (with_reducible apply bel_dr))) hb); clear hb))
              | (go_at_call 20; ((with_reducible refine (D3.out _ (by repeat (first | (with_reducible exact Below.refl _ _) | (with_reducible exact Hid.out (by assumption)) | (with_reducible apply bel_al) | (with_reducible apply bel_dr)))).mono ?_); rintro e wd ⟨Ad, cd, rfl, ha, hb⟩; have HAd := hidb (fun (W : World) (hW : Below wd.heap.size wd W) => Rn.below ha hW); have HBd : Hid (Below wr.heap.size wr wd) := hidb (bel_tr (by repeat (first | (with_reducible exact Below.refl _ _) | (with_reducible exact Hid.out (by assumption)) | (with_reducible apply bel_al) | (with_reducible apply bel_dr))) hb); have HBxd := hidb hb; clear ha hb))
              | (go_at_call 21; ((with_reducible refine (D4.out _ (by repeat (first | (with_reducible exact Below.refl _ _) | (with_reducible exact Hid.out (by assumption)) | (with_reducible apply bel_al) | (with_reducible apply bel_dr)))).mono ?_); rintro e we ⟨Ae, ce, rfl, ha, hb⟩; have HAe := hidb (fun (W : World) (hW : Below we.heap.size we W) => Rn.below ha hW); have HBe : Hid (Below wr.heap.size wr we) := hidb (bel_tr (by repeat (first | (with_reducible exact Below.refl _ _) | (with_reducible exact Hid.out (by assumption)) | (with_reducible apply bel_al) | (with_reducible apply bel_dr))) hb); have HBxe := hidb hb; clear ha hb))
              | (go_at_call 19; ((with_reducible refine (u_same5 (HAd.out _ (by first | (with_reducible exact Below.refl _ _) | (with_reducible exact Hid.out (by assumption)))) (HAe.out _ (by first | (with_reducible exact Below.refl _ _) | (with_reducible exact Hid.out (by assumption)))) hl2).mono ?_); rintro e wf ⟨rfl, hb⟩; have HBf : Hid (Below wr.heap.size wr wf) := hidb (bel_tr (by repeat (first | (with_reducible exact Below.refl _ _) | (with_reducible exact Hid.out (by assumption)) | (with_reducible apply bel_al) | (with_reducible apply bel_dr))) hb); clear hb))
              | (go_at_call 7; ((with_reducible refine (D5.out _ (by repeat (first | (with_reducible exact Below.refl _ _) | (with_reducible exact Hid.out (by assumption)) | (with_reducible apply bel_al) | (with_reducible apply bel_dr)))).mono ?_); rintro e wg ⟨rfl, hb⟩; have HBg : Hid (Below wr.heap.size wr wg) := hidb (bel_tr (by repeat (first | (with_reducible exact Below.refl _ _) | (with_reducible exact Hid.out (by assumption)) | (with_reducible apply bel_al) | (with_reducible apply bel_dr))) hb); clear hb))
              | (go_at_call 4; ((with_reducible refine (cw _).mono ?_); rintro e wh ⟨rfl, hb⟩; have HBh : Hid (Below wr.heap.size wr wh) := hidb (bel_tr (by repeat (first | (with_reducible exact Below.refl _ _) | (with_reducible exact Hid.out (by assumption)) | (with_reducible apply bel_al) | (with_reducible apply bel_dr))) hb); clear hb)))
          all_goals go_wp2
          all_goals go_ret
          all_goals exact ⟨rfl, HFIN.out _ HBh.out⟩
        · obtain ⟨b3, off3, ja, jb, jc, jd, hA3, hjx2, u0, u1, u2, u3⟩ := sn_at SN hjx
          subst hA3
          obtain ⟨rfl, rfl, rfl, rfl⟩ := hjx2
          have hn2 := fun W => hqn ta tb tc td W
          have j0 : (0 : Int) ≤ (jn : Int) := by omega
          have j1 : (jn : Int) < (n2 : Int) := by have q5 := (List.getElem?_eq_some_iff.1 hjx).1; have q6 := HL2.out; omega
          have j2 : ¬ (jn : Int) < 0 := by omega
          clear SN hqn hjx HKZ HJZ
          have cq0 := q0
          have cq1 := q1
          have cq2 := q2
          have cq3 := q3
          go_quiet (fail)
          go_wp2
          obtain ⟨wz, hwz⟩ : ∃ wz, wz = w7.drewN nq := ⟨_, rfl⟩
          have HBZ : Hid (Below wr.heap.size wr wz) := hidb (by rw [hwz]; exact belowN HB7.out nq)
          rw [← hwz]
          clear hwz cq0 cq1 cq2 cq3 HF7 HG7
          obtain ⟨q0, q1, q2, q3⟩ := HQ0.out _ HBZ.out
          go_region_held3 (fun W => W.cell? ⟨w2.heap.size, 0, none⟩ = some (.int .i64 pages) ∧ W.cell? ⟨w2.heap.size, 1, none⟩ = some (.slice A1 1024 c1) ∧ W.cell? ⟨w2.heap.size, 2, none⟩ = some (.slice (some ⟨b3, off3, none⟩) n2 c2) ∧ W.cell? ⟨w2.heap.size, 3, none⟩ = some (.int .i64 la))
            (with_reducible exact HQ0.out _ (by repeat (first | (with_reducible exact Below.refl _ _) | (with_reducible exact Hid.out (by assumption)) | (with_reducible apply bel_al) | (with_reducible apply bel_dr))))
            (first
              | (go_at_call 17; ((with_reducible refine (D1.out _ (by repeat (first | (with_reducible exact Below.refl _ _) | (with_reducible exact Hid.out (by assumption)) | (with_reducible apply bel_al) | (with_reducible apply bel_dr)))).mono ?_); rintro e wa ⟨Aa, ca, rfl, ha, hb⟩; have HAa := hidb (Sn.lift_ ha); have HBa : Hid (Below wr.heap.size wr wa) := hidb (bel_tr (by repeat (first | (with_reducible exact Below.refl _ _) | (with_reducible exact Hid.out (by assumption)) | (with_reducible apply bel_al) | (with_reducible apply bel_dr))) hb); have HBxa := hidb hb; clear ha hb))
              | (go_at_call 18; ((with_reducible refine (D2.out _ (by repeat (first | (with_reducible exact Below.refl _ _) | (with_reducible exact Hid.out (by assumption)) | (with_reducible apply bel_al) | (with_reducible apply bel_dr)))).mono ?_); rintro e wb ⟨Ab, cbb, rfl, ha, hb⟩; have HAb := hidb (Sn.lift_ ha); have HBb : Hid (Below wr.heap.size wr wb) := hidb (bel_tr (by repeat (first | (with_reducible exact Below.refl _ _) | (with_reducible exact Hid.out (by assumption)) | (with_reducible apply bel_al) | (with_reducible apply bel_dr))) hb); have HBxb := hidb hb; clear ha hb))
              | (go_at_call 16; ((with_reducible refine (u_same7 (HAa.out _ (by first | (with_reducible exact Below.refl _ _) | (with_reducible exact Hid.out (by assumption)))) (HAb.out _ (by first | (with_reducible exact Below.refl _ _) | (with_reducible exact Hid.out (by assumption)))) hl1).mono ?_); rintro e wcc ⟨rfl, hb⟩; have HBc : Hid (Below wr.heap.size wr wcc) := hidb (bel_tr (by repeat (first | (with_reducible exact Below.refl _ _) | (with_reducible exact Hid.out (by assumption)) | (with_reducible apply bel_al) | (with_reducible apply bel_dr))) hb); clear hb))
              | (go_at_call 20; ((with_reducible refine (D3.out _ (by repeat (first | (with_reducible exact Below.refl _ _) | (with_reducible exact Hid.out (by assumption)) | (with_reducible apply bel_al) | (with_reducible apply bel_dr)))).mono ?_); rintro e wd ⟨Ad, cd, rfl, ha, hb⟩; have HAd := hidb (fun (W : World) (hW : Below wd.heap.size wd W) => Rn.below ha hW); have HBd : Hid (Below wr.heap.size wr wd) := hidb (bel_tr (by repeat (first | (with_reducible exact Below.refl _ _) | (with_reducible exact Hid.out (by assumption)) | (with_reducible apply bel_al) | (with_reducible apply bel_dr))) hb); have HBxd := hidb hb; clear ha hb))
              | (go_at_call 21; ((with_reducible refine (D4.out _ (by repeat (first | (with_reducible exact Below.refl _ _) | (with_reducible exact Hid.out (by assumption)) | (with_reducible apply bel_al) | (with_reducible apply bel_dr)))).mono ?_); rintro e we ⟨Ae, ce, rfl, ha, hb⟩; have HAe := hidb (fun (W : World) (hW : Below we.heap.size we W) => Rn.below ha hW); have HBe : Hid (Below wr.heap.size wr we) := hidb (bel_tr (by repeat (first | (with_reducible exact Below.refl _ _) | (with_reducible exact Hid.out (by assumption)) | (with_reducible apply bel_al) | (with_reducible apply bel_dr))) hb); have HBxe := hidb hb; clear ha hb))
              | (go_at_call 19; ((with_reducible refine (u_same5 (HAd.out _ (by first | (with_reducible exact Below.refl _ _) | (with_reducible exact Hid.out (by assumption)))) (HAe.out _ (by first | (with_reducible exact Below.refl _ _) | (with_reducible exact Hid.out (by assumption)))) hl2).mono ?_); rintro e wf ⟨rfl, hb⟩; have HBf : Hid (Below wr.heap.size wr wf) := hidb (bel_tr (by repeat (first | (with_reducible exact Below.refl _ _) | (with_reducible exact Hid.out (by assumption)) | (with_reducible apply bel_al) | (with_reducible apply bel_dr))) hb); clear hb))
              | (go_at_call 7; ((with_reducible refine (D5.out _ (by repeat (first | (with_reducible exact Below.refl _ _) | (with_reducible exact Hid.out (by assumption)) | (with_reducible apply bel_al) | (with_reducible apply bel_dr)))).mono ?_); rintro e wg ⟨rfl, hb⟩; have HBg : Hid (Below wr.heap.size wr wg) := hidb (bel_tr (by repeat (first | (with_reducible exact Below.refl _ _) | (with_reducible exact Hid.out (by assumption)) | (with_reducible apply bel_al) | (with_reducible apply bel_dr))) hb); clear hb))
              | (go_at_call 4; ((with_reducible refine (cw _).mono ?_); rintro e wh ⟨rfl, hb⟩; have HBh : Hid (Below wr.heap.size wr wh) := hidb (bel_tr (by repeat (first | (with_reducible exact Below.refl _ _) | (with_reducible exact Hid.out (by assumption)) | (with_reducible apply bel_al) | (with_reducible apply bel_dr))) hb); clear hb)))
          all_goals go_wp2
          all_goals go_ret
          all_goals exact ⟨rfl, HFIN.out _ HBh.out⟩
      · obtain ⟨b2, off2, ka, kb, kc, kd, hA2, hkx2, v0, v1, v2, v3⟩ := sn_at SN hkx
        subst hA2
        obtain ⟨rfl, rfl, rfl, rfl⟩ := hkx2
        have hn1 := fun W => hqn sa sb sc sd W
        have k0 : (0 : Int) ≤ (kn : Int) := by omega
        have k1 : (kn : Int) < (n2 : Int) := by have q5 := (List.getElem?_eq_some_iff.1 hkx).1; have q6 := HL2.out; omega
        have k2 : ¬ (kn : Int) < 0 := by omega
        rcases HJZ.out with ⟨rfl, rfl, rfl, rfl, rfl, rfl⟩ | ⟨jn, rfl, rfl, hjx⟩
        · have hn2 := fun W => hqn 0 0 0 0 W
          clear SN hqn hkx HKZ HJZ
          have cq0 := q0
          have cq1 := q1
          have cq2 := q2
          have cq3 := q3
          go_quiet (fail)
          go_wp2
          obtain ⟨wz, hwz⟩ : ∃ wz, wz = w7.drewN nq := ⟨_, rfl⟩
          have HBZ : Hid (Below wr.heap.size wr wz) := hidb (by rw [hwz]; exact belowN HB7.out nq)
          rw [← hwz]
          clear hwz cq0 cq1 cq2 cq3 HF7 HG7
          obtain ⟨q0, q1, q2, q3⟩ := HQ0.out _ HBZ.out
          go_region_held3 (fun W => W.cell? ⟨w2.heap.size, 0, none⟩ = some (.int .i64 pages) ∧ W.cell? ⟨w2.heap.size, 1, none⟩ = some (.slice A1 1024 c1) ∧ W.cell? ⟨w2.heap.size, 2, none⟩ = some (.slice (some ⟨b2, off2, none⟩) n2 c2) ∧ W.cell? ⟨w2.heap.size, 3, none⟩ = some (.int .i64 la))
            (with_reducible exact HQ0.out _ (by repeat (first | (with_reducible exact Below.refl _ _) | (with_reducible exact Hid.out (by assumption)) | (with_reducible apply bel_al) | (with_reducible apply bel_dr))))
            (first
              | (go_at_call 17; ((with_reducible refine (D1.out _ (by repeat (first | (with_reducible exact Below.refl _ _) | (with_reducible exact Hid.out (by assumption)) | (with_reducible apply bel_al) | (with_reducible apply bel_dr)))).mono ?_); rintro e wa ⟨Aa, ca, rfl, ha, hb⟩; have HAa := hidb (Sn.lift_ ha); have HBa : Hid (Below wr.heap.size wr wa) := hidb (bel_tr (by repeat (first | (with_reducible exact Below.refl _ _) | (with_reducible exact Hid.out (by assumption)) | (with_reducible apply bel_al) | (with_reducible apply bel_dr))) hb); have HBxa := hidb hb; clear ha hb))
              | (go_at_call 18; ((with_reducible refine (D2.out _ (by repeat (first | (with_reducible exact Below.refl _ _) | (with_reducible exact Hid.out (by assumption)) | (with_reducible apply bel_al) | (with_reducible apply bel_dr)))).mono ?_); rintro e wb ⟨Ab, cbb, rfl, ha, hb⟩; have HAb := hidb (Sn.lift_ ha); have HBb : Hid (Below wr.heap.size wr wb) := hidb (bel_tr (by repeat (first | (with_reducible exact Below.refl _ _) | (with_reducible exact Hid.out (by assumption)) | (with_reducible apply bel_al) | (with_reducible apply bel_dr))) hb); have HBxb := hidb hb; clear ha hb))
              | (go_at_call 16; ((with_reducible refine (u_same7 (HAa.out _ (by first | (with_reducible exact Below.refl _ _) | (with_reducible exact Hid.out (by assumption)))) (HAb.out _ (by first | (with_reducible exact Below.refl _ _) | (with_reducible exact Hid.out (by assumption)))) hl1).mono ?_); rintro e wcc ⟨rfl, hb⟩; have HBc : Hid (Below wr.heap.size wr wcc) := hidb (bel_tr (by repeat (first | (with_reducible exact Below.refl _ _) | (with_reducible exact Hid.out (by assumption)) | (with_reducible apply bel_al) | (with_reducible apply bel_dr))) hb); clear hb))
              | (go_at_call 20; ((with_reducible refine (D3.out _ (by repeat (first | (with_reducible exact Below.refl _ _) | (with_reducible exact Hid.out (by assumption)) | (with_reducible apply bel_al) | (with_reducible apply bel_dr)))).mono ?_); rintro e wd ⟨Ad, cd, rfl, ha, hb⟩; have HAd := hidb (fun (W : World) (hW : Below wd.heap.size wd W) => Rn.below ha hW); have HBd : Hid (Below wr.heap.size wr wd) := hidb (bel_tr (by repeat (first | (with_reducible exact Below.refl _ _) | (with_reducible exact Hid.out (by assumption)) | (with_reducible apply bel_al) | (with_reducible apply bel_dr))) hb); have HBxd := hidb hb; clear ha hb))
              | (go_at_call 21; ((with_reducible refine (D4.out _ (by repeat (first | (with_reducible exact Below.refl _ _) | (with_reducible exact Hid.out (by assumption)) | (with_reducible apply bel_al) | (with_reducible apply bel_dr)))).mono ?_); rintro e we ⟨Ae, ce, rfl, ha, hb⟩; have HAe := hidb (fun (W : World) (hW : Below we.heap.size we W) => Rn.below ha hW); have HBe : Hid (Below wr.heap.size wr we) := hidb (bel_tr (by repeat (first | (with_reducible exact Below.refl _ _) | (with_reducible exact Hid.out (by assumption)) | (with_reducible apply bel_al) | (with_reducible apply bel_dr))) hb); have HBxe := hidb hb; clear ha hb))
              | (go_at_call 19; ((with_reducible refine (u_same5 (HAd.out _ (by first | (with_reducible exact Below.refl _ _) | (with_reducible exact Hid.out (by assumption)))) (HAe.out _ (by first | (with_reducible exact Below.refl _ _) | (with_reducible exact Hid.out (by assumption)))) hl2).mono ?_); rintro e wf ⟨rfl, hb⟩; have HBf : Hid (Below wr.heap.size wr wf) := hidb (bel_tr (by repeat (first | (with_reducible exact Below.refl _ _) | (with_reducible exact Hid.out (by assumption)) | (with_reducible apply bel_al) | (with_reducible apply bel_dr))) hb); clear hb))
              | (go_at_call 7; ((with_reducible refine (D5.out _ (by repeat (first | (with_reducible exact Below.refl _ _) | (with_reducible exact Hid.out (by assumption)) | (with_reducible apply bel_al) | (with_reducible apply bel_dr)))).mono ?_); rintro e wg ⟨rfl, hb⟩; have HBg : Hid (Below wr.heap.size wr wg) := hidb (bel_tr (by repeat (first | (with_reducible exact Below.refl _ _) | (with_reducible exact Hid.out (by assumption)) | (with_reducible apply bel_al) | (with_reducible apply bel_dr))) hb); clear hb))
              | (go_at_call 4; ((with_reducible refine (cw _).mono ?_); rintro e wh ⟨rfl, hb⟩; have HBh : Hid (Below wr.heap.size wr wh) := hidb (bel_tr (by repeat (first | (with_reducible exact Below.refl _ _) | (with_reducible exact Hid.out (by assumption)) | (with_reducible apply bel_al) | (with_reducible apply bel_dr))) hb); clear hb)))
          all_goals go_wp2
          all_goals go_ret
          all_goals exact ⟨rfl, HFIN.out _ HBh.out⟩
        · obtain ⟨b3, off3, ja, jb, jc, jd, hA3, hjx2, u0, u1, u2, u3⟩ := sn_at SN hjx
          obtain ⟨rfl, rfl⟩ : b2 = b3 ∧ off2 = off3 := by simpa using hA3
          obtain ⟨rfl, rfl, rfl, rfl⟩ := hjx2
          have hn2 := fun W => hqn ta tb tc td W
          have j0 : (0 : Int) ≤ (jn : Int) := by omega
          have j1 : (jn : Int) < (n2 : Int) := by have q5 := (List.getElem?_eq_some_iff.1 hjx).1; have q6 := HL2.out; omega
          have j2 : ¬ (jn : Int) < 0 := by omega
          clear SN hqn hkx hjx HKZ HJZ
          have cq0 := q0
          have cq1 := q1
          have cq2 := q2
          have cq3 := q3
          go_quiet (fail)
          go_wp2
          obtain ⟨wz, hwz⟩ : ∃ wz, wz = w7.drewN nq := ⟨_, rfl⟩
          have HBZ : Hid (Below wr.heap.size wr wz) := hidb (by rw [hwz]; exact belowN HB7.out nq)
          rw [← hwz]
          clear hwz cq0 cq1 cq2 cq3 HF7 HG7
          obtain ⟨q0, q1, q2, q3⟩ := HQ0.out _ HBZ.out
          go_region_held3 (fun W => W.cell? ⟨w2.heap.size, 0, none⟩ = some (.int .i64 pages) ∧ W.cell? ⟨w2.heap.size, 1, none⟩ = some (.slice A1 1024 c1) ∧ W.cell? ⟨w2.heap.size, 2, none⟩ = some (.slice (some ⟨b2, off2, none⟩) n2 c2) ∧ W.cell? ⟨w2.heap.size, 3, none⟩ = some (.int .i64 la))
            (with_reducible exact HQ0.out _ (by repeat (first | (with_reducible exact Below.refl _ _) | (with_reducible exact Hid.out (by assumption)) | (with_reducible apply bel_al) | (with_reducible apply bel_dr))))
            (first
              | (go_at_call 17; ((with_reducible refine (D1.out _ (by repeat (first | (with_reducible exact Below.refl _ _) | (with_reducible exact Hid.out (by assumption)) | (with_reducible apply bel_al) | (with_reducible apply bel_dr)))).mono ?_); rintro e wa ⟨Aa, ca, rfl, ha, hb⟩; have HAa := hidb (Sn.lift_ ha); have HBa : Hid (Below wr.heap.size wr wa) := hidb (bel_tr (by repeat (first | (with_reducible exact Below.refl _ _) | (with_reducible exact Hid.out (by assumption)) | (with_reducible apply bel_al) | (with_reducible apply bel_dr))) hb); have HBxa := hidb hb; clear ha hb))
              | (go_at_call 18; ((with_reducible refine (D2.out _ (by repeat (first | (with_reducible exact Below.refl _ _) | (with_reducible exact Hid.out (by assumption)) | (with_reducible apply bel_al) | (with_reducible apply bel_dr)))).mono ?_); rintro e wb ⟨Ab, cbb, rfl, ha, hb⟩; have HAb := hidb (Sn.lift_ ha); have HBb : Hid (Below wr.heap.size wr wb) := hidb (bel_tr (by repeat (first | (with_reducible exact Below.refl _ _) | (with_reducible exact Hid.out (by assumption)) | (with_reducible apply bel_al) | (with_reducible apply bel_dr))) hb); have HBxb := hidb hb; clear ha hb))
              | (go_at_call 16; ((with_reducible refine (u_same7 (HAa.out _ (by first | (with_reducible exact Below.refl _ _) | (with_reducible exact Hid.out (by assumption)))) (HAb.out _ (by first | (with_reducible exact Below.refl _ _) | (with_reducible exact Hid.out (by assumption)))) hl1).mono ?_); rintro e wcc ⟨rfl, hb⟩; have HBc : Hid (Below wr.heap.size wr wcc) := hidb (bel_tr (by repeat (first | (with_reducible exact Below.refl _ _) | (with_reducible exact Hid.out (by assumption)) | (with_reducible apply bel_al) | (with_reducible apply bel_dr))) hb); clear hb))
              | (go_at_call 20; ((with_reducible refine (D3.out _ (by repeat (first | (with_reducible exact Below.refl _ _) | (with_reducible exact Hid.out (by assumption)) | (with_reducible apply bel_al) | (with_reducible apply bel_dr)))).mono ?_); rintro e wd ⟨Ad, cd, rfl, ha, hb⟩; have HAd := hidb (fun (W : World) (hW : Below wd.heap.size wd W) => Rn.below ha hW); have HBd : Hid (Below wr.heap.size wr wd) := hidb (bel_tr (by repeat (first | (with_reducible exact Below.refl _ _) | (with_reducible exact Hid.out (by assumption)) | (with_reducible apply bel_al) | (with_reducible apply bel_dr))) hb); have HBxd := hidb hb; clear ha hb))
              | (go_at_call 21; ((with_reducible refine (D4.out _ (by repeat (first | (with_reducible exact Below.refl _ _) | (with_reducible exact Hid.out (by assumption)) | (with_reducible apply bel_al) | (with_reducible apply bel_dr)))).mono ?_); rintro e we ⟨Ae, ce, rfl, ha, hb⟩; have HAe := hidb (fun (W : World) (hW : Below we.heap.size we W) => Rn.below ha hW); have HBe : Hid (Below wr.heap.size wr we) := hidb (bel_tr (by repeat (first | (with_reducible exact Below.refl _ _) | (with_reducible exact Hid.out (by assumption)) | (with_reducible apply bel_al) | (with_reducible apply bel_dr))) hb); have HBxe := hidb hb; clear ha hb))
              | (go_at_call 19; ((with_reducible refine (u_same5 (HAd.out _ (by first | (with_reducible exact Below.refl _ _) | (with_reducible exact Hid.out (by assumption)))) (HAe.out _ (by first | (with_reducible exact Below.refl _ _) | (with_reducible exact Hid.out (by assumption)))) hl2).mono ?_); rintro e wf ⟨rfl, hb⟩; have HBf : Hid (Below wr.heap.size wr wf) := hidb (bel_tr (by repeat (first | (with_reducible exact Below.refl _ _) | (with_reducible exact Hid.out (by assumption)) | (with_reducible apply bel_al) | (with_reducible apply bel_dr))) hb); clear hb))
              | (go_at_call 7; ((with_reducible refine (D5.out _ (by repeat (first | (with_reducible exact Below.refl _ _) | (with_reducible exact Hid.out (by assumption)) | (with_reducible apply bel_al) | (with_reducible apply bel_dr)))).mono ?_); rintro e wg ⟨rfl, hb⟩; have HBg : Hid (Below wr.heap.size wr wg) := hidb (bel_tr (by repeat (first | (with_reducible exact Below.refl _ _) | (with_reducible exact Hid.out (by assumption)) | (with_reducible apply bel_al) | (with_reducible apply bel_dr))) hb); clear hb))
              | (go_at_call 4; ((with_reducible refine (cw _).mono ?_); rintro e wh ⟨rfl, hb⟩; have HBh : Hid (Below wr.heap.size wr wh) := hidb (bel_tr (by repeat (first | (with_reducible exact Below.refl _ _) | (with_reducible exact Hid.out (by assumption)) | (with_reducible apply bel_al) | (with_reducible apply bel_dr))) hb); clear hb)))
          all_goals go_wp2
          all_goals go_ret
          all_goals exact ⟨rfl, HFIN.out _ HBh.out⟩

end Go.Proofs.YtcngcibiibchiaaGreat
