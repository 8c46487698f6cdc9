/- The walks of layer 14's statements: an arena as told, beside a table; the document's example; what comes in. -/
import Derived.Test.YtkahpmnemabehaaDoorFrmRead
import Derived.Test.YtkahpmnemabehaaDoorFrmSlot
import Derived.Test.YtkahpmnemabehaaDoorFrmPush
import Derived.Test.YtkahpmnemabehaaDoorFrmRef
import Derived.Laws.StructEq
namespace Go.Proofs.YtkahpmnemabehaaDoor
open Go.RowKit Go.ChangeShapes Go.WideShapes
set_option linter.unusedVariables false

/-- 256 words, all 0. -/
def frZ : List Nat := List.replicate 256 0
theorem frZ_length : frZ.length = 256 := by unfold frZ; exact List.length_replicate
/-- 256 words, the first ones as told. -/
def frLaid (xs : List Nat) : List Nat := aStore frZ 0 xs
theorem frLaid_length (xs : List Nat) (h : xs.length ≤ 256) : (frLaid xs).length = 256 := by unfold frLaid; rw [aStore_length _ _ _ (by rw [frZ_length]; omega), frZ_length]
theorem aStore_wd {xs ys : List Nat} (hx : Wd xs) (hy : Wd ys) (i : Nat) : Wd (aStore xs i ys) := fun z hz => by
  unfold aStore at hz
  rcases List.mem_append.1 hz with hz | hz
  · rcases List.mem_append.1 hz with hz | hz
    · exact hx z (List.mem_of_mem_take hz)
    · exact hy z hz
  · exact hx z (List.mem_of_mem_drop hz)
theorem frZ_wd : Wd frZ := fun z hz => by unfold frZ at hz; rw [List.eq_of_mem_replicate hz]; omega
theorem frLaid_wd {xs : List Nat} (h : Wd xs) : Wd (frLaid xs) := aStore_wd frZ_wd h 0

theorem code_anewZ (w : World) : Calls Tryd.prog 20 #[.int .i64 4] w fun e w' => ∃ p g, e = .returned (.tuple #[.pointer (some ⟨p, 0, none⟩), .int .i64 0]) ∧ Ar w' w.heap.size p g 256 frZ ∧ Below w.heap.size w w' := by
  refine (code_anew 4 w (by omega) (by omega)).mono ?_
  rintro e w1 ⟨p, g, rfl, har, hb⟩
  exact ⟨p, g, rfl, har, hb⟩

/-- Beside an arena a table is made. -/
theorem AT.made {w W W' : World} {p g len : Nat} {xs : List Nat} {b : Nat} {l : Fns} (hb : Below w.heap.size w W) (ha : Ar W w.heap.size p g len xs) (ht : TbIs W' W.heap.size W'.heap.size b l) (hb2 : Below W.heap.size W W') : AT w W' p g len xs (some ⟨b, 0, none⟩) l :=
  ⟨hb.trans (hb2.mono hb.size), ha.below hb2 (Nat.le_refl _), _, _, ht.o, Nat.le_refl _, hb.size, Or.inl ha.lt⟩

section
variable {w : World} {p g : Nat} {xs : List Nat} {tp : Option Addr} {l : Fns}
theorem t_frread {W : World} (s : Hid (AT w W p g 256 xs tp l)) (hl : ∀ x ∈ l, 0 ≤ x.1 ∧ x.1 ≤ 1000) (hx : Wd xs) (a : Int) (h0 : in64 a) (v : FrV) (no : Int) (hv : frRead xs l a = (v, no)) :
    Calls Tryd.prog 11 #[.pointer (some ⟨p, 0, none⟩), .pointer tp, .int .i64 a] W fun e w' => e = .returned (.tuple #[frC v, .int .i64 no]) ∧ Hid (AT w w' p g 256 xs tp l) := by
  obtain ⟨lo, hi, h2, h3, _⟩ := s.out.tb
  have c := code_frread s.out.ar h2 h3 hl hx a h0
  rw [hv] at c
  exact c.mono fun e w' ⟨h1, h2⟩ => ⟨h1, hidb (s.out.step h2)⟩
theorem t_frpush {W : World} (s : Hid (AT w W p g 256 xs tp l)) (hl : ∀ x ∈ l, 0 ≤ x.1 ∧ x.1 ≤ 1000) (lo sp f link : Int) (h1 : in64 lo) (h2 : in64 sp) (h3 : in64 link) (ys : List Nat) (at' no : Int) (hv : frPush xs l lo sp f link = (ys, at', no)) :
    Calls Tryd.prog 18 #[.pointer (some ⟨p, 0, none⟩), .pointer tp, .int .i64 lo, .int .i64 sp, .int .i64 f, .int .i64 link] W fun e w' => e = .returned (.tuple #[.int .i64 at', .int .i64 no]) ∧ Hid (AT w w' p g 256 ys tp l) := by
  obtain ⟨lo', hi, h2', h3', _⟩ := s.out.tb
  have c := code_frpush s.out.ar h2' h3' hl lo sp f link h1 h2 h3
  rw [hv] at c
  exact c.mono fun e w' ⟨e1, e2, e3⟩ => ⟨e1, hidb (s.out.wrote e2 e3)⟩
end

theorem eql_frame (x y : FrV) (W : World) : (binOp .eql 33 (.agg #[.int .i64 x.at_, .int .i64 x.fn, .int .i64 x.link]) (.agg #[.int .i64 y.at_, .int .i64 y.fn, .int .i64 y.link])).run Tryd.prog W = .ok (.bool (decide (x = y))) W := by
  obtain ⟨a, b, c⟩ := x
  obtain ⟨a', b', c'⟩ := y
  simp [go_sem]
  by_cases h1 : a = a' <;> by_cases h2 : b = b' <;> by_cases h3 : c = c' <;> simp [h1, h2, h3]

theorem aw14_tab : fTab [((3 : Int), ([] : List Nat))] = true := by decide
theorem aw14_own : fOwns [((3 : Int), ([] : List Nat))] = [(3, [])] := by decide
theorem aw14_push : frPush frZ [(3, [])] 0 64 0 (-1) = (aStore frZ 59 [0, 1, 0, 0, 0], 59, 0) := by decide +kernel
theorem aw14_read : frRead (aStore frZ 59 [0, 1, 0, 0, 0]) [(3, [])] 59 = (⟨59, 0, -1⟩, 0) := by decide +kernel
theorem aw14_wd : Wd (aStore frZ 59 [0, 1, 0, 0, 0]) := aStore_wd frZ_wd (by unfold Wd; decide) 59

set_option maxRecDepth 100000 in
theorem awake14 (w : World) (ht : TabDB w) : Calls Tryd.prog 7 #[] w fun e w' => e = .returned (.bool true) ∧ Below w.heap.size w w' := by
  have i0 : in64 0 := ⟨by omega, by omega⟩
  have i59 : in64 59 := ⟨by omega, by omega⟩
  have i64' : in64 64 := ⟨by omega, by omega⟩
  have im1 : in64 (-1) := ⟨by omega, by omega⟩
  have ca := code_anewZ w
  have hsz : ∀ x ∈ [((3 : Int), ([] : List Nat))], 0 ≤ x.1 ∧ x.1 ≤ 1000 := fun x hx => by rw [List.mem_singleton.1 hx]; omega
  have CN : Hid (∀ W p g, Below w.heap.size w W → Ar W w.heap.size p g 256 frZ → Calls Tryd.prog 13 #[.slice (some ⟨W.heap.size, 0, none⟩) 1 1] (W.alloc (.cells #[.int .i64 3, .slice none 0 0] 47)) fun e w1 => ∃ b, e = .returned (.tuple #[.pointer (some ⟨b, 0, none⟩), .int .i64 0]) ∧ Hid (AT w w1 p g 256 frZ (some ⟨b, 0, none⟩) [(3, [])])) := hidb (fun W p g hb ha => by
    obtain ⟨X, hX⟩ : ∃ X, X = W.alloc (.cells #[.int .i64 3, .slice none 0 0] 47) := ⟨_, rfl⟩
    have hbX : Below W.heap.size W X := by rw [hX]; exact belF_al (Below.refl _ _) _
    have hzX : X.heap.size = W.heap.size + 1 := by rw [hX]; simp
    have hrow : FnRow X 0 X.heap.size (some ⟨W.heap.size, 0, none⟩) 1 [⟨3, none, 0, 0, []⟩] := by
      refine ⟨⟨rfl, fun _ => ⟨W.heap.size, 0, rfl, by omega, fun j y hj => ?_⟩⟩, fun _ _ _ => Nat.zero_le _, fun y hy => ?_⟩
      · match j, hj with
        | 0, hj =>
          obtain rfl := Option.some.inj hj
          refine ⟨_, rfl, fun k hk => ?_, rfl⟩
          have h2 : C2 X W.heap.size (.int .i64 3) (.slice none 0 0) := by rw [hX]; simp [C2]
          match k, hk with
          | 0, _ => exact h2.1
          | 1, _ => exact h2.2
        | j + 1, hj => simp at hj
      · rw [List.mem_singleton.1 hy]
        exact ⟨Sl.nil_, fun _ _ _ => Nat.zero_le _, Nat.le_refl _, Nat.zero_le _, fun _ => rfl, fun x hx => (by cases hx), ⟨by simp, by simp⟩⟩
    have cn := code_fNew (some ⟨W.heap.size, 0, none⟩) 1 1 _ 0 X hrow (by omega) (fun y hy => by rw [List.mem_singleton.1 hy]; simp) (TabDB.below ht (hb.trans (hbX.mono hb.size))) aw14_tab
    rw [← hX]
    refine cn.mono fun e w1 ⟨b, h1, h2, h3⟩ => ⟨b, h1, hidb ?_⟩
    rw [show fOwns (vals [⟨3, none, 0, 0, []⟩]) = [(3, [])] from aw14_own] at h2
    exact AT.made (hb.trans (hbX.mono hb.size)) (ha.below hbX (Nat.le_refl _)) h2 h3)
  have heq := fun W => eql_frame ⟨59, 0, -1⟩ ⟨59, 0, -1⟩ W
  rw [decide_eq_true (rfl : (⟨59, 0, -1⟩ : FrV) = ⟨59, 0, -1⟩)] at heq
  simp only at heq
  clear ht
  go_enter Tryd.func7, Tryd.ntmps7
  go_wp2_with (first
    | (go_at_call 20; (with_reducible refine ca.mono ?_); rintro e w1 ⟨p, g, rfl, ha1, hb1⟩; have CN1 := CN.out w1 p g hb1 ha1; clear ha1 hb1)
    | (go_at_call 13; (with_reducible refine CN1.mono ?_); rintro e w2 ⟨b, rfl, hs2⟩)
    | (go_at_call 18; (with_reducible refine (t_frpush hs2 hsz 0 64 0 (-1) i0 i64' im1 _ _ _ aw14_push).mono ?_); rintro e w3 ⟨rfl, hs3⟩)
    | (go_at_call 11; (with_reducible refine (t_frread hs3 hsz aw14_wd 59 i59 _ _ aw14_read).mono ?_); rintro e w4 ⟨rfl, hs4⟩; unfold frC))
  go_ret
  exact ⟨rfl, belF_al hs4.out.bel _⟩
end Go.Proofs.YtkahpmnemabehaaDoor
