/- The walks of layer 13's statements: what a law's state is, each call's contract, the document's example. -/
import Derived.Test.YtkahpmnemabehaaDoorFnsFns
import Derived.Test.YtkahpmnemabehaaDoorFnsRef
namespace Go.Proofs.YtkahpmnemabehaaDoor
open Go.RowKit
set_option linter.unusedVariables false

/-- A law's world: what was there is as it was; a table that the law has made. -/
def S13 (w W : World) (p : Option Addr) (l : Fns) : Prop := Below w.heap.size w W ∧ ∃ lo hi, TbO W lo hi p l ∧ hi ≤ W.heap.size ∧ w.heap.size ≤ lo
theorem S13.start (w : World) : S13 w w none [] := ⟨Below.refl _ _, _, _, TbO.nil_ w w.heap.size w.heap.size, Nat.le_refl _, Nat.le_refl _⟩
theorem S13.step {w W w' : World} {p : Option Addr} {l : Fns} (h : S13 w W p l) (hb : Below W.heap.size W w') : S13 w w' p l := by
  obtain ⟨h1, lo, hi, h2, h3, h4⟩ := h
  exact ⟨h1.trans (hb.mono h1.size), lo, hi, h2.below (hb.mono h3), Nat.le_trans h3 hb.size, h4⟩
theorem S13.drewN {w W : World} {p : Option Addr} {l : Fns} (h : S13 w W p l) (q : Nat) : S13 w (W.drewN q) p l := h.step (belowN (Below.refl _ _) q)
theorem S13.alloc {w W : World} {p : Option Addr} {l : Fns} (h : S13 w W p l) (o : Obj) : S13 w (W.alloc o) p l := h.step (belF_al (Below.refl _ _) o)
theorem S13.bel {w W : World} {p : Option Addr} {l : Fns} (h : S13 w W p l) : Below w.heap.size w W := h.1
/-- What a law's rows are: functions that came in, not too great. -/
structure In13 (w : World) (A : Option Addr) (n : Nat) (ys : List FnV) : Prop where
  row : FnRow w 0 w.heap.size A n ys
  few : n ≤ 120
  small : ∀ y ∈ ys, y.n ≤ 40
section
variable {w : World} {A : Option Addr} {n c : Nat} {ys : List FnV}
theorem In13.at_ (h : In13 w A n ys) {W : World} (hb : Below w.heap.size w W) : FnRow W 0 W.heap.size A n ys := (h.row.below hb).more (Nat.le_refl _) hb.size
theorem In13.s1 (h : In13 w A n ys) : ∀ y ∈ ys, y.n ≤ 1000 := fun y hy => by have := h.small y hy; omega
theorem t_fMay (h : In13 w A n ys) (W : World) (p : Option Addr) (l : Fns) (s : Hid (S13 w W p l)) (r : Bool) (hr : fAll (vals ys) = r) :
    Calls Tryd.prog 28 #[.slice A n c] W fun e w' => e = .returned (.bool r) ∧ Hid (S13 w w' p l) := by
  rw [← hr]
  exact (code_fMay A n c ys 0 W (h.at_ s.out.bel) (by have := h.few; omega) h.s1).mono fun e w' ⟨h1, h2⟩ => ⟨h1, hidb (s.out.step h2)⟩
theorem t_fAll (h : In13 w A n ys) (W : World) (p : Option Addr) (l : Fns) (s : Hid (S13 w W p l)) (r : Bool) (hr : fTab (vals ys) = r) :
    Calls Tryd.prog 9 #[.slice A n c] W fun e w' => e = .returned (.bool r) ∧ Hid (S13 w w' p l) := by
  rw [← hr]
  exact (ref_fall A n c ys 0 W (h.at_ s.out.bel) (by have := h.few; omega) h.s1).mono fun e w' ⟨h1, h2⟩ => ⟨h1, hidb (s.out.step h2)⟩
theorem t_fNew (h : In13 w A n ys) (ht : TabDB w) (W : World) (p : Option Addr) (l : Fns) (s : Hid (S13 w W p l)) (hr : fTab (vals ys) = true) :
    Calls Tryd.prog 13 #[.slice A n c] W fun e w' => ∃ b, e = .returned (.tuple #[.pointer (some ⟨b, 0, none⟩), .int .i64 0]) ∧ Hid (S13 w w' (some ⟨b, 0, none⟩) (fOwns (vals ys))) :=
  (code_fNew A n c ys 0 W (h.at_ s.out.bel) (by have := h.few; omega) h.s1 (TabDB.below ht s.out.bel) hr).mono fun e w' ⟨b, h1, h2, h3⟩ => ⟨b, h1, hidb ⟨s.out.bel.trans (h3.mono s.out.bel.size), _, _, h2.o, Nat.le_refl _, s.out.bel.size⟩⟩
theorem t_fNew_no (h : In13 w A n ys) (W : World) (p : Option Addr) (l : Fns) (s : Hid (S13 w W p l)) (hr : fTab (vals ys) = false) :
    Calls Tryd.prog 13 #[.slice A n c] W fun e w' => e = .returned (.tuple #[.pointer none, .int .i64 1]) ∧ Hid (S13 w w' none []) :=
  (code_fNew_no A n c ys 0 W (h.at_ s.out.bel) (by have := h.few; omega) h.s1 hr).mono fun e w' ⟨h1, h3⟩ => ⟨h1, hidb ⟨s.out.bel.trans (h3.mono s.out.bel.size), _, _, TbO.nil_ w' w.heap.size w.heap.size, Nat.le_trans s.out.bel.size h3.size, Nat.le_refl _⟩⟩
theorem t_fmay1 (h : In13 w A n ys) {W : World} {p : Option Addr} {l : Fns} (s : Hid (S13 w W p l)) {j : Nat} {y : FnV} (hy : ys[j]? = some y) (r : Bool) (hr : fMay y.sz y.ws = r) :
    Calls Tryd.prog 22 #[.agg #[.int .i64 y.sz, .slice y.A y.n y.c]] W fun e w' => e = .returned (.bool r) ∧ Hid (S13 w w' p l) := by
  rw [← hr]
  exact (ref_fmayB y 0 _ W (((h.row.fns y (List.mem_of_getElem? hy)).below s.out.bel).more (Nat.le_refl _) s.out.bel.size) (Nat.le_refl _) (h.s1 y (List.mem_of_getElem? hy))).mono fun e w' ⟨h1, h2⟩ => ⟨h1, hidb (s.out.step h2)⟩
end
section
variable {w : World} {p : Option Addr} {l : Fns}
theorem t_flen (W : World) (s : Hid (S13 w W p l)) (k : Nat) (hk : l.length = k) : Calls Tryd.prog 45 #[.pointer p] W fun e w' => e = .returned (.int .i64 (k : Int)) ∧ Hid (S13 w w' p l) := by
  obtain ⟨_, lo, hi, h2, _⟩ := s.out
  rw [← hk]
  exact (code_flen h2).mono fun e w' ⟨h1, h3⟩ => ⟨h1, by rw [← h3]; exact s⟩
theorem t_fsize (W : World) (s : Hid (S13 w W p l)) (f r : Int) (hr : fSize l f = r) : Calls Tryd.prog 30 #[.pointer p, .int .i64 f] W fun e w' => e = .returned (.int .i64 r) ∧ Hid (S13 w w' p l) := by
  obtain ⟨_, lo, hi, h2, h3, _⟩ := s.out
  rw [← hr]
  exact (code_fsize h2 h3 f).mono fun e w' ⟨h1, h3⟩ => ⟨h1, hidb (s.out.step h3)⟩
theorem t_fwords (W : World) (s : Hid (S13 w W p l)) (f r : Int) (hl : ∀ x ∈ l, 0 ≤ x.1 ∧ x.1 ≤ 1000) (hr : fWords l f = r) : Calls Tryd.prog 27 #[.pointer p, .int .i64 f] W fun e w' => e = .returned (.int .i64 r) ∧ Hid (S13 w w' p l) := by
  obtain ⟨_, lo, hi, h2, h3, _⟩ := s.out
  rw [← hr]
  exact (code_fwordsT h2 h3 f hl).mono fun e w' ⟨h1, h3⟩ => ⟨h1, hidb (s.out.step h3)⟩
end

theorem aw13_tab : fTab [((3 : Int), [2])] = true := by decide
theorem aw13_own : fOwns [((3 : Int), [2])] = [(3, [2])] := by decide
theorem aw13_1 : fPtr [((3 : Int), [2])] 0 1 = true := by decide
theorem aw13_0 : fPtr [((3 : Int), [2])] 0 0 = false := by decide
theorem aw13_w : fWords [((3 : Int), [2])] 0 = 5 := by decide
end Go.Proofs.YtkahpmnemabehaaDoor
