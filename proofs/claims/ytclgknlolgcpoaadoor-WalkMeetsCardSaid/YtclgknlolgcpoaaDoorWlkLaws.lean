/- The walks of layer 15's statements: an arena and a table in either order; the document's example. -/
import Derived.Test.YtclgknlolgcpoaaDoorWlkAll
import Derived.Test.YtclgknlolgcpoaaDoorFrmAll
namespace Go.Proofs.YtclgknlolgcpoaaDoor
open Go.RowKit Go.ChangeShapes Go.WideShapes
set_option linter.unusedVariables false

/-- Beside a table an arena is made. -/
theorem AT.made2 {w W W' : World} {p g : Nat} {xs : List Nat} {tp : Option Addr} {l : Fns} (h : S13 w W tp l) (ha : Ar W' W.heap.size p g 256 xs) (hb : Below W.heap.size W W') : AT w W' p g 256 xs tp l := by
  obtain ⟨h1, lo, hi, h2, h3, h4⟩ := h
  exact ⟨h1.trans (hb.mono h1.size), ha.more h1.size, lo, hi, h2.below (hb.mono h3), Nat.le_trans h3 hb.size, h4, Or.inr (by have := ha.geg; omega)⟩
theorem AT.s13 {w W : World} {p g len : Nat} {xs : List Nat} {tp : Option Addr} {l : Fns} (h : AT w W p g len xs tp l) : S13 w W tp l := by
  obtain ⟨lo, hi, h2, h3, h4, _⟩ := h.tb
  exact ⟨h.bel, lo, hi, h2, h3, h4⟩
section
variable {w : World} {p g : Nat} {xs : List Nat} {tp : Option Addr} {l : Fns}
theorem t_laid {A : Option Addr} {n c : Nat} {us : List Nat} {W : World} (hs : Sl W W.heap.size A n (us.map wv)) (hn : n ≤ 256) :
    Calls Tryd.prog 8 #[.slice A n c] W fun e w' => ∃ p g, e = .returned (.pointer (some ⟨p, 0, none⟩)) ∧ Ar w' W.heap.size p g 256 (frLaid us) ∧ Below W.heap.size W w' := by
  have ca := code_anewZ W
  have CS : Hid (∀ W1 p g, Below W.heap.size W W1 → Ar W1 W.heap.size p g 256 frZ → Calls Tryd.prog 19 #[.pointer (some ⟨p, 0, none⟩), .int .i64 0, .slice A n c] W1 fun e w' => e = .returned (.int .i64 0) ∧ Ar w' W.heap.size p g 256 (frLaid us) ∧ Below W.heap.size W w') := hidb (fun W1 p g hb ha => by
    refine (code_astore 0 A n c ha ((hs.below hb).more hb.size) (by omega)).mono ?_
    rintro e w' ⟨h1, h2, h3⟩
    exact ⟨h1, h2, hb.grown h3 hb.size (fun k hk => by cases hk; exact ha.geg)⟩)
  clear hs hn
  go_enter Tryd.func8, Tryd.ntmps8
  go_wp2_with (first
    | (go_at_call 22; (with_reducible refine ca.mono ?_); rintro e w1 ⟨p, g, rfl, ha1, hb1⟩; have CS1 := CS.out w1 p g hb1 ha1; clear ha1 hb1)
    | (go_at_call 19; (with_reducible refine CS1.mono ?_); rintro e w2 ⟨rfl, ha2, hb2⟩))
  go_ret
  exact ⟨p, g, rfl, ha2, hb2⟩
theorem t_wframes {W : World} (s : Hid (AT w W p g 256 xs tp l)) (hl : ∀ x ∈ l, 0 ≤ x.1 ∧ x.1 ≤ 1000) (hx : Wd xs) (v : StV) (h0 : in64 v.lo) (h1 : in64 v.size) (h2 : in64 v.sp) (L : List FrV) (no : Int) (hv : wkFrames xs l v = (L, no)) :
    Calls Tryd.prog 11 #[.pointer (some ⟨p, 0, none⟩), .pointer tp, stC v] W fun e w' => ∃ A c, e = .returned (.tuple #[.slice A L.length c, .int .i64 no]) ∧ Hid (AT w w' p g 256 xs tp l) ∧ Hid (FrRow w' w'.heap.size A L.length L) ∧ Hid (Below W.heap.size W w') := by
  obtain ⟨lo, hi, hh2, h3, _⟩ := s.out.tb
  have c := code_wframes v s.out.ar hh2 h3 hl hx h0 h1 h2
  rw [hv] at c
  refine c.mono ?_
  rintro e w' ⟨A, c, e1, e2, e3⟩
  exact ⟨A, c, e1, hidb (s.out.step e3), hidb e2, hidb e3⟩
end

theorem aw15_tab : fTab [((0 : Int), ([] : List Nat))] = true := by decide
theorem aw15_own : fOwns [((0 : Int), ([] : List Nat))] = [(0, [])] := by decide
theorem aw15_frames : wkFrames frZ [(0, [])] ⟨0, 16, 16⟩ = ([], 0) := by decide +kernel

set_option maxRecDepth 100000 in
theorem awake15 (w : World) (ht : TabDB w) : Calls Tryd.prog 7 #[] w fun e w' => e = .returned (.bool true) ∧ Below w.heap.size w w' := by
  have i0 : in64 0 := ⟨by omega, by omega⟩
  have i16 : in64 16 := ⟨by omega, by omega⟩
  have ca := code_anewZ w
  have hsz : ∀ x ∈ [((0 : Int), ([] : List Nat))], 0 ≤ x.1 ∧ x.1 ≤ 1000 := fun x hx => by rw [List.mem_singleton.1 hx]; omega
  have CN : Hid (∀ W p g, Below w.heap.size w W → Ar W w.heap.size p g 256 frZ → Calls Tryd.prog 9 #[.slice (some ⟨W.heap.size, 0, none⟩) 1 1] (W.alloc (.cells #[.int .i64 0, .slice none 0 0] 58)) fun e w1 => ∃ b, e = .returned (.tuple #[.pointer (some ⟨b, 0, none⟩), .int .i64 0]) ∧ Hid (AT w w1 p g 256 frZ (some ⟨b, 0, none⟩) [(0, [])])) := hidb (fun W p g hb ha => by
    obtain ⟨X, hX⟩ : ∃ X, X = W.alloc (.cells #[.int .i64 0, .slice none 0 0] 58) := ⟨_, rfl⟩
    have hbX : Below W.heap.size W X := by rw [hX]; exact belF_al (Below.refl _ _) _
    have hzX : X.heap.size = W.heap.size + 1 := by rw [hX]; simp
    have hrow : FnRow X 0 X.heap.size (some ⟨W.heap.size, 0, none⟩) 1 [⟨0, none, 0, 0, []⟩] := by
      refine ⟨⟨rfl, fun _ => ⟨W.heap.size, 0, rfl, by omega, fun j y hj => ?_⟩⟩, fun _ _ _ => Nat.zero_le _, fun y hy => ?_⟩
      · match j, hj with
        | 0, hj =>
          obtain rfl := Option.some.inj hj
          refine ⟨_, rfl, fun k hk => ?_, rfl⟩
          have h2 : C2 X W.heap.size (.int .i64 0) (.slice none 0 0) := by rw [hX]; simp [C2]
          match k, hk with
          | 0, _ => exact h2.1
          | 1, _ => exact h2.2
        | j + 1, hj => simp at hj
      · rw [List.mem_singleton.1 hy]
        exact ⟨Sl.nil_, fun _ _ _ => Nat.zero_le _, Nat.le_refl _, Nat.zero_le _, fun _ => rfl, fun x hx => (by cases hx), ⟨by simp, by simp⟩⟩
    have cn := code_fNew (some ⟨W.heap.size, 0, none⟩) 1 1 _ 0 X hrow (by omega) (fun y hy => by rw [List.mem_singleton.1 hy]; simp) (TabDB.below ht (hb.trans (hbX.mono hb.size))) aw15_tab
    rw [← hX]
    refine cn.mono fun e w1 ⟨b, h1, h2, h3⟩ => ⟨b, h1, hidb ?_⟩
    rw [show fOwns (vals [⟨0, none, 0, 0, []⟩]) = [(0, [])] from aw15_own] at h2
    exact AT.made (hb.trans (hbX.mono hb.size)) (ha.below hbX (Nat.le_refl _)) h2 h3)
  have KF := fun W p g b (s : Hid (AT w W p g 256 frZ (some ⟨b, 0, none⟩) [(0, [])])) => t_wframes s hsz frZ_wd ⟨0, 16, 16⟩ i0 i16 i16 [] 0 aw15_frames
  have hnr : StNear ⟨0, 16, 16⟩ := by unfold StNear; simp only; omega
  have KU := fun W => code_wused ⟨0, 16, 16⟩ hnr W
  have KM := fun W => code_wroom ⟨0, 16, 16⟩ hnr W
  have HAL : Hid (∀ W p g b o, Hid (AT w W p g 256 frZ (some ⟨b, 0, none⟩) [(0, [])]) → Hid (AT w (W.alloc o) p g 256 frZ (some ⟨b, 0, none⟩) [(0, [])])) := hidb (fun W p g b o s => hidb (s.out.alloc o))
  unfold stC at KF KU KM
  simp only [List.length_nil] at KF KU KM
  clear ht
  go_enter Tryd.func7, Tryd.ntmps7
  go_wp2_with (first
    | (go_at_call 22; (with_reducible refine ca.mono ?_); rintro e w1 ⟨p, g, rfl, ha1, hb1⟩; have CN1 := CN.out w1 p g hb1 ha1; clear ha1 hb1)
    | (go_at_call 9; (with_reducible refine CN1.mono ?_); rintro e w2 ⟨b, rfl, hs2⟩)
    | (go_at_call 11; (with_reducible refine (KF _ _ _ _ (HAL.out _ _ _ _ _ hs2)).mono ?_); rintro e w3 ⟨A, c, rfl, hs3, _, hb3⟩; have c0 : w3.cell? ⟨w2.heap.size, 0, none⟩ = some (.int .i64 0) := (hb3.out.cell (by simp)).trans (by simp); have c1 : w3.cell? ⟨w2.heap.size, 1, none⟩ = some (.int .i64 16) := (hb3.out.cell (by simp)).trans (by simp); have c2 : w3.cell? ⟨w2.heap.size, 2, none⟩ = some (.int .i64 16) := (hb3.out.cell (by simp)).trans (by simp))
    | (go_at_call 18; (with_reducible refine (KM _).mono ?_); rintro e w4 ⟨rfl, hb4⟩; have d0 := (hb4.cell (lt_of_cell' c0)).trans c0; have d1 := (hb4.cell (lt_of_cell' c1)).trans c1; have d2 := (hb4.cell (lt_of_cell' c2)).trans c2)
    | (go_at_call 17; (with_reducible refine (KU _).mono ?_); rintro e w5 ⟨rfl, hb5⟩))
  go_ret
  exact ⟨rfl, belF_tr (belF_tr hs3.out.bel hb4) hb5⟩
theorem g_awake15 {w : World} {p : Option Addr} {l : Fns} {St : World → Prop} (k : Stab w p l St) (ht : TabDB w) (W : World) (s : Hid (St W)) : Calls Tryd.prog 7 #[] W fun e w' => e = .returned (.bool true) ∧ Hid (St w') :=
  (awake15 W (TabDB.below ht (k.get _ s.out).bel)).mono fun e w' ⟨h1, h2⟩ => ⟨h1, hidb (k.step _ _ s.out h2)⟩
end Go.Proofs.YtclgknlolgcpoaaDoor
