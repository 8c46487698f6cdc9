/- The walks of layer 13's statements: what a law's state is, each call's contract, the document's example. -/
import Derived.Test.YtieknifbmamdaaaDoorFnsFns
import Derived.Test.YtieknifbmamdaaaDoorFnsRef
namespace Go.Proofs.YtieknifbmamdaaaDoor
open Go.RowKit
set_option linter.unusedVariables false

/-- A law's world: what was there is as it was; a table that the law has made. -/
def S13 (w W : World) (p : Option Addr) (l : Fns) : Prop := Below w.heap.size w W ∧ ∃ lo hi, TbO W lo hi p l ∧ hi ≤ W.heap.size ∧ w.heap.size ≤ lo
theorem S13.start (w : World) : S13 w w none [] := ⟨Below.refl _ _, _, _, TbO.nil_ w w.heap.size w.heap.size, Nat.le_refl _, Nat.le_refl _⟩
theorem S13.step {w W w' : World} {p : Option Addr} {l : Fns} (h : S13 w W p l) (hb : Below W.heap.size W w') : S13 w w' p l := by
  obtain ⟨h1, lo, hi, h2, h3, h4⟩ := h
  exact ⟨h1.trans (hb.mono h1.size), lo, hi, h2.below (hb.mono h3), Nat.le_trans h3 hb.size, h4⟩
theorem S13.drewN {w W : World} {p : Option Addr} {l : Fns} (h : S13 w W p l) (q : Nat) : S13 w (W.drewN q) p l := h.step (belowN (Below.refl _ _) q)
theorem S13.alloc {w W : World} {p : Option Addr} {l : Fns} (h : S13 w W p l) (o : Obj) : S13 w (W.alloc o) p l := h.step (belF_al (Below.refl _ _) o)
theorem S13.bel {w W : World} {p : Option Addr} {l : Fns} (h : S13 w W p l) : Below w.heap.size w W := h.1
/-- What a law's rows are: functions that came in, not too great. -/
structure In13 (w : World) (A : Option Addr) (n : Nat) (ys : List FnV) : Prop where
  row : FnRow w 0 w.heap.size A n ys
  few : n ≤ 120
  small : ∀ y ∈ ys, y.n ≤ 40
section
variable {w : World} {A : Option Addr} {n c : Nat} {ys : List FnV}
theorem In13.at_ (h : In13 w A n ys) {W : World} (hb : Below w.heap.size w W) : FnRow W 0 W.heap.size A n ys := (h.row.below hb).more (Nat.le_refl _) hb.size
theorem In13.s1 (h : In13 w A n ys) : ∀ y ∈ ys, y.n ≤ 1000 := fun y hy => by have := h.small y hy; omega
theorem t_fMay (h : In13 w A n ys) (W : World) (p : Option Addr) (l : Fns) (s : Hid (S13 w W p l)) (r : Bool) (hr : fAll (vals ys) = r) :
    Calls Tryd.prog 11 #[.slice A n c] W fun e w' => e = .returned (.bool r) ∧ Hid (S13 w w' p l) := by
  rw [← hr]
  exact (code_fMay A n c ys 0 W (h.at_ s.out.bel) (by have := h.few; omega) h.s1).mono fun e w' ⟨h1, h2⟩ => ⟨h1, hidb (s.out.step h2)⟩
theorem t_fLeast (h : In13 w A n ys) (W : World) (p : Option Addr) (l : Fns) (s : Hid (S13 w W p l)) (r : Int) (hr : fLeast (vals ys) = r) :
    Calls Tryd.prog 12 #[.slice A n c] W fun e w' => e = .returned (.int .i64 r) ∧ Hid (S13 w w' p l) := by
  rw [← hr]
  exact (code_fLeast A n c ys 0 W (h.at_ s.out.bel) (by have := h.few; omega) h.s1).mono fun e w' ⟨h1, h2⟩ => ⟨h1, hidb (s.out.step h2)⟩
theorem t_fAll (h : In13 w A n ys) (W : World) (p : Option Addr) (l : Fns) (s : Hid (S13 w W p l)) (r : Bool) (hr : fTab (vals ys) = r) :
    Calls Tryd.prog 13 #[.slice A n c] W fun e w' => e = .returned (.bool r) ∧ Hid (S13 w w' p l) := by
  rw [← hr]
  exact (ref_fall A n c ys 0 W (h.at_ s.out.bel) (by have := h.few; omega) h.s1).mono fun e w' ⟨h1, h2⟩ => ⟨h1, hidb (s.out.step h2)⟩
theorem t_fNew (h : In13 w A n ys) (ht : TabDB w) (W : World) (p : Option Addr) (l : Fns) (s : Hid (S13 w W p l)) (hr : fTab (vals ys) = true) :
    Calls Tryd.prog 10 #[.slice A n c] W fun e w' => ∃ b, e = .returned (.tuple #[.pointer (some ⟨b, 0, none⟩), .int .i64 0]) ∧ Hid (S13 w w' (some ⟨b, 0, none⟩) (fOwns (vals ys))) :=
  (code_fNew A n c ys 0 W (h.at_ s.out.bel) (by have := h.few; omega) h.s1 (TabDB.below ht s.out.bel) hr).mono fun e w' ⟨b, h1, h2, h3⟩ => ⟨b, h1, hidb ⟨s.out.bel.trans (h3.mono s.out.bel.size), _, _, h2.o, Nat.le_refl _, s.out.bel.size⟩⟩
theorem t_fNew_no (h : In13 w A n ys) (W : World) (p : Option Addr) (l : Fns) (s : Hid (S13 w W p l)) (hr : fTab (vals ys) = false) :
    Calls Tryd.prog 10 #[.slice A n c] W fun e w' => e = .returned (.tuple #[.pointer none, .int .i64 1]) ∧ Hid (S13 w w' none []) :=
  (code_fNew_no A n c ys 0 W (h.at_ s.out.bel) (by have := h.few; omega) h.s1 hr).mono fun e w' ⟨h1, h3⟩ => ⟨h1, hidb ⟨s.out.bel.trans (h3.mono s.out.bel.size), _, _, TbO.nil_ w' w.heap.size w.heap.size, Nat.le_trans s.out.bel.size h3.size, Nat.le_refl _⟩⟩
theorem t_fmay1 (h : In13 w A n ys) {W : World} {p : Option Addr} {l : Fns} (s : Hid (S13 w W p l)) {j : Nat} {y : FnV} (hy : ys[j]? = some y) (r : Bool) (hr : fMay y.sz y.ws = r) :
    Calls Tryd.prog 9 #[.agg #[.int .i64 y.sz, .slice y.A y.n y.c]] W fun e w' => e = .returned (.bool r) ∧ Hid (S13 w w' p l) := by
  rw [← hr]
  exact (ref_fmayB y 0 _ W (((h.row.fns y (List.mem_of_getElem? hy)).below s.out.bel).more (Nat.le_refl _) s.out.bel.size) (Nat.le_refl _) (h.s1 y (List.mem_of_getElem? hy))).mono fun e w' ⟨h1, h2⟩ => ⟨h1, hidb (s.out.step h2)⟩
end
section
variable {w : World} {p : Option Addr} {l : Fns}
theorem t_flen (W : World) (s : Hid (S13 w W p l)) (k : Nat) (hk : l.length = k) : Calls Tryd.prog 14 #[.pointer p] W fun e w' => e = .returned (.int .i64 (k : Int)) ∧ Hid (S13 w w' p l) := by
  obtain ⟨_, lo, hi, h2, _⟩ := s.out
  rw [← hk]
  exact (code_flen h2).mono fun e w' ⟨h1, h3⟩ => ⟨h1, by rw [← h3]; exact s⟩
theorem t_fsize (W : World) (s : Hid (S13 w W p l)) (f r : Int) (hr : fSize l f = r) : Calls Tryd.prog 17 #[.pointer p, .int .i64 f] W fun e w' => e = .returned (.int .i64 r) ∧ Hid (S13 w w' p l) := by
  obtain ⟨_, lo, hi, h2, h3, _⟩ := s.out
  rw [← hr]
  exact (code_fsize h2 h3 f).mono fun e w' ⟨h1, h3⟩ => ⟨h1, hidb (s.out.step h3)⟩
theorem t_fwords (W : World) (s : Hid (S13 w W p l)) (f r : Int) (hl : ∀ x ∈ l, 0 ≤ x.1 ∧ x.1 ≤ 1000) (hr : fWords l f = r) : Calls Tryd.prog 18 #[.pointer p, .int .i64 f] W fun e w' => e = .returned (.int .i64 r) ∧ Hid (S13 w w' p l) := by
  obtain ⟨_, lo, hi, h2, h3, _⟩ := s.out
  rw [← hr]
  exact (code_fwordsT h2 h3 f hl).mono fun e w' ⟨h1, h3⟩ => ⟨h1, hidb (s.out.step h3)⟩
theorem t_fptr (W : World) (s : Hid (S13 w W p l)) (f i : Int) (hi : in64 i) (r : Bool) (hr : fPtr l f i = r) : Calls Tryd.prog 19 #[.pointer p, .int .i64 f, .int .i64 i] W fun e w' => e = .returned (.bool r) ∧ Hid (S13 w w' p l) := by
  obtain ⟨_, lo, hi, h2, h3, _⟩ := s.out
  rw [← hr]
  exact (code_fptr h2 h3 f i ‹in64 i›).mono fun e w' ⟨h1, h3⟩ => ⟨h1, hidb (s.out.step h3)⟩
theorem t_fptrs (ht : TabDB w) (W : World) (s : Hid (S13 w W p l)) (f : Int) (L : List Int) (hr : fPtrs l f = L) : Calls Tryd.prog 20 #[.pointer p, .int .i64 f] W fun e w' => ∃ A c, e = .returned (.slice A L.length c) ∧ Hid (S13 w w' p l) ∧ Hid (Sl w' w'.heap.size A L.length (L.map iv)) := by
  obtain ⟨_, lo, hi, h2, h3, _⟩ := s.out
  rw [← hr]
  exact (code_fptrs h2 h3 f (TabDB.below ht s.out.bel)).mono fun e w' ⟨A, c, h1, h2, h3⟩ => ⟨A, c, h1, hidb (s.out.step h3), hidb (Sl.of_own h2)⟩
end

theorem aw13_tab : fTab [((3 : Int), [2])] = true := by decide
theorem aw13_own : fOwns [((3 : Int), [2])] = [(3, [2])] := by decide
theorem aw13_1 : fPtr [((3 : Int), [2])] 0 1 = true := by decide
theorem aw13_0 : fPtr [((3 : Int), [2])] 0 0 = false := by decide
theorem aw13_w : fWords [((3 : Int), [2])] 0 = 5 := by decide
theorem awake13 (w : World) (ht : TabDB w) : Calls Tryd.prog 8 #[] w fun e w' => e = .returned (.bool true) ∧ Below w.heap.size w w' := by
  obtain ⟨X, hX⟩ : ∃ X, X = (w.alloc (.cells #[.int .u64 2] 46)).alloc (.cells #[.int .i64 3, .slice (some ⟨w.heap.size, 0, none⟩) 1 1] 28) := ⟨_, rfl⟩
  have hbX : Below w.heap.size w X := by rw [hX]; exact belF_al (belF_al (Below.refl _ _) _) _
  have hzX : X.heap.size = w.heap.size + 2 := by rw [hX]; simp
  have hrow : FnRow X 0 X.heap.size (some ⟨w.heap.size + 1, 0, none⟩) 1 [⟨3, some ⟨w.heap.size, 0, none⟩, 1, 1, [2]⟩] := by
    refine ⟨⟨rfl, fun _ => ⟨w.heap.size + 1, 0, rfl, by omega, fun j y hj => ?_⟩⟩, fun _ _ _ => Nat.zero_le _, fun y hy => ?_⟩
    · match j, hj with
      | 0, hj =>
        obtain rfl := Option.some.inj hj
        refine ⟨_, rfl, fun k hk => ?_, rfl⟩
        have h2 : C2 X (w.heap.size + 1) (.int .i64 3) (.slice (some ⟨w.heap.size, 0, none⟩) 1 1) := by rw [hX]; simp [C2]
        match k, hk with
        | 0, _ => exact h2.1
        | 1, _ => exact h2.2
      | j + 1, hj => simp at hj
    · rw [List.mem_singleton.1 hy]
      refine ⟨⟨rfl, fun _ => ⟨w.heap.size, 0, rfl, by omega, fun j hj => ?_⟩⟩, fun _ _ _ => Nat.zero_le _, Nat.le_refl _, by simp, fun e => (by cases e), fun x hx => (by rw [List.mem_singleton.1 hx]; omega), ⟨by simp, by simp⟩⟩
      have hj : j < 1 := hj
      obtain rfl : j = 0 := by omega
      rw [hX]; simp [wv]
  have cn := code_fNew (some ⟨w.heap.size + 1, 0, none⟩) 1 1 _ 0 X hrow (by omega) (fun y hy => by rw [List.mem_singleton.1 hy]; simp) (TabDB.below ht hbX) aw13_tab
  have CN : Hid (Calls Tryd.prog 10 #[.slice (some ⟨w.heap.size + 1, 0, none⟩) 1 1] X fun e w1 => ∃ p, e = .returned (.tuple #[.pointer (some ⟨p, 0, none⟩), .int .i64 0]) ∧ Hid (S13 w w1 (some ⟨p, 0, none⟩) [(3, [2])])) := hidb (cn.mono fun e w1 ⟨p, h1, h2, h3⟩ => ⟨p, h1, hidb ⟨hbX.trans (h3.mono (by omega)), _, _, by rw [show fOwns (vals [⟨3, some ⟨w.heap.size, 0, none⟩, 1, 1, [2]⟩]) = [(3, [2])] from aw13_own] at h2; exact h2.o, Nat.le_refl _, by omega⟩⟩)
  rw [hX] at CN
  have i0 : in64 0 := ⟨by omega, by omega⟩
  have i1 : in64 1 := ⟨by omega, by omega⟩
  clear cn hrow hbX hzX hX
  go_enter Tryd.func8, Tryd.ntmps8
  go_wp2_with (first
    | (go_at_call 10; (with_reducible refine CN.out.mono ?_); rintro e w1 ⟨p, rfl, hs1⟩)
    | (go_at_call 19; (with_reducible refine (t_fptr _ hs1 _ 1 i1 true aw13_1).mono ?_); rintro e w2 ⟨rfl, hs2⟩)
    | (go_at_call 19; (with_reducible refine (t_fptr _ hs2 _ 0 i0 false aw13_0).mono ?_); rintro e w3 ⟨rfl, hs3⟩)
    | (go_at_call 18; (with_reducible refine (t_fwords _ hs3 _ 5 (fun x hx => (by rw [List.mem_singleton.1 hx]; omega)) aw13_w).mono ?_); rintro e w4 ⟨rfl, hs4⟩))
  go_ret
  exact ⟨rfl, hs4.out.bel⟩
theorem t_awake13 {w : World} (ht : TabDB w) (W : World) (p : Option Addr) (l : Fns) (s : Hid (S13 w W p l)) : Calls Tryd.prog 8 #[] W fun e w' => e = .returned (.bool true) ∧ Hid (S13 w w' p l) :=
  (awake13 W (TabDB.below ht s.out.bel)).mono fun e w' ⟨h1, h2⟩ => ⟨h1, hidb (s.out.step h2)⟩
end Go.Proofs.YtieknifbmamdaaaDoor
