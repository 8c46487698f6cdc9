/- The walks of layer 16's statements: what comes in, the document's example, an arena as told. -/
import Derived.Test.YthjodcojhlfnfaaDoorSltPutC
import Derived.Test.YthjodcojhlfnfaaDoorWlkTop0
namespace Go.Proofs.YthjodcojhlfnfaaDoor
open Go.RowKit Go.ChangeShapes Go.WideShapes
set_option linter.unusedVariables false

section
variable {H : Type} {enc : TypeId × Value → H} {W : World} {sp : Nat → Bool} {hd : Bool}
/-- Frames that came in. -/
theorem read_frames {v : Value} {d : DataW H} {ps : List MemPlace} (h : DataW.Trod enc Tryd.prog W 0 sp hd 23 v d ps) :
    ∃ (A : Option Addr) (len cap : Nat) (L : List FrV), v.cells.toList = [.slice A len cap] ∧ len ≤ maxLen ∧ (FrRow W W.heap.size A len L ∧ ∀ x ∈ L, in64 x.at_ ∧ in64 x.fn ∧ in64 x.link) := by
  obtain ⟨fuel, hf⟩ := h
  obtain ⟨A, len, cap, l, e, hm, hr⟩ := read_row FrCells 3 Tryd.underlying23 fx_cells (by decide) (fun fuel cs x h => read_frameF fuel cs x h) hf
  refine ⟨A, len, cap, l, e, hm, ⟨hr.1, fun hn => ?_⟩, fun x hx => ?_⟩
  · obtain ⟨b, off, e, hb, hc⟩ := hr.2 hn
    refine ⟨b, off, e, hb, fun j y hj => ?_⟩
    obtain ⟨cs, c1, c2, c3⟩ := hc j y hj
    exact ⟨cs, c1, c2, c3.1⟩
  · obtain ⟨j, hj, rfl⟩ := List.getElem_of_mem hx
    obtain ⟨b, off, y, cs, _, _, h1, _, _, hR⟩ := hr.at_ (j := j) (by have := hr.1; omega)
    rw [List.getElem?_eq_getElem hj] at h1
    injection h1 with h1
    rw [h1]; exact hR.2
theorem vl_cells : Tryd.prog.cellsOf 42 = 4 := by kernel_rfl
theorem vl_u8 : Tryd.prog.cellsOf 5 = 1 := by kernel_rfl
theorem vl_u64 : Tryd.prog.cellsOf 40 = 1 := by kernel_rfl
theorem vl_int : Tryd.prog.cellsOf 3 = 1 := by kernel_rfl
theorem wf_u8 {z : Int} (h : (Lit.int .u8 z).wf = true) : 0 ≤ z ∧ z < 256 := by
  have h1 : IntKind.u8.min = 0 := rfl
  have h2 : IntKind.u8.max = 255 := rfl
  simp only [Lit.wf, Bool.and_eq_true, decide_eq_true_eq] at h
  exact ⟨by omega, by omega⟩
def VlOk (v : VlV) : Prop := v.kind < 256 ∧ v.bits < 18446744073709551616 ∧ in64 v.depth ∧ in64 v.slot
def VlIs (cs : List Value) (v : VlV) : Prop := cs = vlcells v ∧ VlOk v
theorem read_valF (fuel : Nat) (cs : List Value) (x : DataW H × List MemPlace) (h : DataW.trod enc Tryd.prog W 0 sp hd fuel 42 cs = some x) : ∃ v, VlIs cs v := by
  obtain ⟨hl, hf⟩ := read_field Tryd.underlying42 h
  rw [vl_cells] at hl
  obtain ⟨c0, n0, y0, g0, t0⟩ := hf 0 _ rfl vl_u8 (by rw [hl]; decide)
  obtain ⟨c1, n1, y1, g1, t1⟩ := hf 1 _ rfl vl_u64 (by rw [hl]; decide)
  obtain ⟨c2, n2, y2, g2, t2⟩ := hf 2 _ rfl vl_int (by rw [hl]; decide)
  obtain ⟨c3, n3, y3, g3, t3⟩ := hf 3 _ rfl vl_int (by rw [hl]; decide)
  obtain ⟨z0, e0, _, w0⟩ := DataW.trod_int Tryd.underlying5 t0
  obtain ⟨z1, e1, _, w1⟩ := DataW.trod_int Tryd.underlying40 t1
  obtain ⟨z2, e2, _, w2⟩ := DataW.trod_int Tryd.underlying3 t2
  obtain ⟨z3, e3, _, w3⟩ := DataW.trod_int Tryd.underlying3 t3
  simp only [List.cons.injEq, and_true] at e0 e1 e2 e3
  subst e0 e1 e2 e3
  have k0 := wf_u8 w0
  have k1 := wf_word w1
  refine ⟨⟨z0.toNat, z1.toNat, z2, z3⟩, ?_, by show z0.toNat < 256; omega, by show z1.toNat < _; omega, wf_in64 w2, wf_in64 w3⟩
  unfold vlcells
  simp only
  rw [Int.toNat_of_nonneg k0.1, Int.toNat_of_nonneg k1.1]
  match cs, hl with
  | [a0, a1, a2, a3], _ => simp_all
/-- Values that came in. -/
theorem read_vals {v : Value} {d : DataW H} {ps : List MemPlace} (h : DataW.Trod enc Tryd.prog W 0 sp hd 38 v d ps) :
    ∃ (A : Option Addr) (len cap : Nat) (L : List VlV), v.cells.toList = [.slice A len cap] ∧ len ≤ maxLen ∧ (VlRow W W.heap.size A len L ∧ ∀ x ∈ L, VlOk x) := by
  obtain ⟨fuel, hf⟩ := h
  obtain ⟨A, len, cap, l, e, hm, hr⟩ := read_row VlIs 4 Tryd.underlying38 vl_cells (by decide) (fun fuel cs x h => read_valF fuel cs x h) hf
  refine ⟨A, len, cap, l, e, hm, ⟨hr.1, fun hn => ?_⟩, fun x hx => ?_⟩
  · obtain ⟨b, off, e, hb, hc⟩ := hr.2 hn
    refine ⟨b, off, e, hb, fun j y hj => ?_⟩
    obtain ⟨cs, c1, c2, c3⟩ := hc j y hj
    exact ⟨cs, c1, c2, c3.1⟩
  · obtain ⟨j, hj, rfl⟩ := List.getElem_of_mem hx
    obtain ⟨b, off, y, cs, _, _, h1, _, _, hR⟩ := hr.at_ (j := j) (by have := hr.1; omega)
    rw [List.getElem?_eq_getElem hj] at h1
    injection h1 with h1
    rw [h1]; exact hR.2
end

/-- What is more than is gone through. -/
def gr16 (n : Nat) (l : Fns) (m : Nat) : Bool := decide (256 < n) || fGreat l || decide (40 < m)
theorem c_great16 {w : World} {A A2 A3 : Option Addr} {n c n2 c2 m c3 lo hi : Nat} {ys : List FnV} (hr : FnRow w lo hi A2 n2 ys) (hn2 : n2 ≤ 9223372036854775807) (b : Bool) (hb : gr16 n (vals ys) m = b) :
    Calls Tryd.prog 7 #[.slice A n c, .slice A2 n2 c2, .slice A3 m c3] w fun e w' => e = .returned (.bool b) ∧ w = w' := by
  have cg := ref_fgreat A2 n2 c2 ys lo hi w hr hn2
  unfold gr16 at hb
  clear hr
  by_cases h1 : 256 < n
  · have g1 : (256 : Int) < (n : Int) := by omega
    rw [decide_eq_true h1, Bool.true_or, Bool.true_or] at hb
    subst hb
    clear cg h1
    --@1
    go_enter Tryd.func7, Tryd.ntmps7
    go_wp2
    go_ret
    exact ⟨rfl, rfl⟩
  rw [decide_eq_false h1, Bool.false_or] at hb
  have g1 : ¬ ((256 : Int) < (n : Int)) := by omega
  cases hG : fGreat (vals ys) with
  | true =>
    rw [hG, Bool.true_or] at hb
    subst hb
    rw [hG] at cg
    clear h1 hG
    --@2
    go_enter Tryd.func7, Tryd.ntmps7
    go_wp2_with (first | (go_at_call 20; (with_reducible refine cg.mono ?_); rintro e w' ⟨rfl, rfl⟩))
    go_ret
    exact ⟨rfl, rfl⟩
  | false =>
    rw [hG, Bool.false_or] at hb
    rw [hG] at cg
    have g2 : decide ((40 : Int) < (m : Int)) = b := by rw [← hb, decide_eq_decide]; omega
    clear h1 hG hb
    --@3
    go_enter Tryd.func7, Tryd.ntmps7
    go_wp2_with (first | (go_at_call 20; (with_reducible refine cg.mono ?_); rintro e w' ⟨rfl, rfl⟩))
    go_ret
    exact ⟨by first | exact congrArg Ending.returned (congrArg Value.bool g2) | (rw [← g2]; rfl), rfl⟩

theorem aw16_tab : fTab [((3 : Int), ([] : List Nat))] = true := by decide
theorem aw16_own : fOwns [((3 : Int), ([] : List Nat))] = [(3, [])] := by decide
theorem aw16_adr : slAdr [((3 : Int), ([] : List Nat))] [⟨59, 0, -1⟩] 0 0 = (61, 0) := by decide +kernel
theorem aw16_yes : vMay ⟨1, 7, 0, 0⟩ = true := by decide
theorem aw16_no : vMay ⟨0, 7, 0, 0⟩ = false := by decide

set_option maxRecDepth 100000 in
theorem awake16 (w : World) (ht : TabDB w) : Calls Tryd.prog 8 #[] w fun e w' => e = .returned (.bool true) ∧ Below w.heap.size w w' := by
  have hsz : ∀ x ∈ [((3 : Int), ([] : List Nat))], 0 ≤ x.1 ∧ x.1 ≤ 1000 := fun x hx => by rw [List.mem_singleton.1 hx]; omega
  have CN : Calls Tryd.prog 6 #[.slice (some ⟨w.heap.size, 0, none⟩) 1 1] (w.alloc (.cells #[.int .i64 3, .slice none 0 0] 58)) fun e w1 => ∃ b, e = .returned (.tuple #[.pointer (some ⟨b, 0, none⟩), .int .i64 0]) ∧ Hid (S13 w w1 (some ⟨b, 0, none⟩) [(3, [])]) := by
    obtain ⟨X, hX⟩ : ∃ X, X = w.alloc (.cells #[.int .i64 3, .slice none 0 0] 58) := ⟨_, rfl⟩
    have hbX : Below w.heap.size w X := by rw [hX]; exact belF_al (Below.refl _ _) _
    have hzX : X.heap.size = w.heap.size + 1 := by rw [hX]; simp
    have hrow : FnRow X 0 X.heap.size (some ⟨w.heap.size, 0, none⟩) 1 [⟨3, none, 0, 0, []⟩] := by
      refine ⟨⟨rfl, fun _ => ⟨w.heap.size, 0, rfl, by omega, fun j y hj => ?_⟩⟩, fun _ _ _ => Nat.zero_le _, fun y hy => ?_⟩
      · match j, hj with
        | 0, hj =>
          obtain rfl := Option.some.inj hj
          refine ⟨_, rfl, fun k hk => ?_, rfl⟩
          have h2 : C2 X w.heap.size (.int .i64 3) (.slice none 0 0) := by rw [hX]; simp [C2]
          match k, hk with
          | 0, _ => exact h2.1
          | 1, _ => exact h2.2
        | j + 1, hj => simp at hj
      · rw [List.mem_singleton.1 hy]
        exact ⟨Sl.nil_, fun _ _ _ => Nat.zero_le _, Nat.le_refl _, Nat.zero_le _, fun _ => rfl, fun x hx => (by cases hx), ⟨by simp, by simp⟩⟩
    have cn := code_fNew (some ⟨w.heap.size, 0, none⟩) 1 1 _ 0 X hrow (by omega) (fun y hy => by rw [List.mem_singleton.1 hy]; simp) (TabDB.below ht hbX) aw16_tab
    rw [← hX]
    refine cn.mono fun e w1 ⟨b, h1, h2, h3⟩ => ⟨b, h1, hidb ?_⟩
    rw [show fOwns (vals [⟨3, none, 0, 0, []⟩]) = [(3, [])] from aw16_own] at h2
    exact ⟨belF_tr hbX h3, _, _, h2.o, Nat.le_refl _, hbX.size⟩
  have CA : Hid (∀ W b, Hid (S13 w W (some ⟨b, 0, none⟩) [(3, [])]) → Calls Tryd.prog 9 #[.pointer (some ⟨b, 0, none⟩), .slice (some ⟨W.heap.size, 0, none⟩) 1 1, .int .i64 0, .int .i64 0] (W.alloc (.cells #[.int .i64 59, .int .i64 0, .int .i64 (-1)] 64)) fun e w1 => e = .returned (.tuple #[.int .i64 61, .int .i64 0]) ∧ Hid (Below w.heap.size w w1)) := hidb (fun W b s => by
    have hb0 := belF_al (Below.refl W.heap.size W) (.cells #[.int .i64 59, .int .i64 0, .int .i64 (-1)] 64)
    have s2 := s.out.step hb0
    obtain ⟨h1, lo, hi, h2, h3, h4⟩ := s2
    have hrow := FrRow.of_own (L := [⟨59, 0, -1⟩]) (frlit_own W ⟨59, 0, -1⟩ W.heap.size W.heap.size rfl (Nat.le_refl _)) rfl
    refine (code_sladdr (c := 1) h2 h3 hsz hrow (by omega) 0 0 _ aw16_adr).mono ?_
    rintro e w1 ⟨rfl, h⟩
    exact ⟨rfl, hidb (belF_tr h1 h)⟩)
  have CM : Hid (∀ W, Hid (Below w.heap.size w W) → Calls Tryd.prog 14 #[.slice (some ⟨W.heap.size, 0, none⟩) 1 1] (W.alloc (.cells #[.int .u8 1, .int .u64 7, .int .i64 0, .int .i64 0] 42)) fun e w1 => e = .returned (.bool true) ∧ Hid (Below w.heap.size w w1)) := hidb (fun W hb => by
    refine (code_vmay _ 1 1 [⟨1, 7, 0, 0⟩] _ _ (vlit_row W ⟨1, 7, 0, 0⟩) (by simp) (by omega) (fun u hu => by rw [List.mem_singleton.1 hu]; exact ⟨show in64 0 by unfold in64; omega, show in64 0 by unfold in64; omega⟩) true (by simp [aw16_yes])).mono ?_
    rintro e w1 ⟨rfl, h⟩
    exact ⟨rfl, hidb (belF_tr hb.out (belF_tr (belF_al (Below.refl _ _) _) h))⟩)
  have CM0 : Hid (∀ W, Hid (Below w.heap.size w W) → Calls Tryd.prog 14 #[.slice (some ⟨W.heap.size, 0, none⟩) 1 1] (W.alloc (.cells #[.int .u8 0, .int .u64 7, .int .i64 0, .int .i64 0] 42)) fun e w1 => e = .returned (.bool false) ∧ Hid (Below w.heap.size w w1)) := hidb (fun W hb => by
    refine (code_vmay _ 1 1 [⟨0, 7, 0, 0⟩] _ _ (vlit_row W ⟨0, 7, 0, 0⟩) (by simp) (by omega) (fun u hu => by rw [List.mem_singleton.1 hu]; exact ⟨show in64 0 by unfold in64; omega, show in64 0 by unfold in64; omega⟩) false (by simp [aw16_no])).mono ?_
    rintro e w1 ⟨rfl, h⟩
    exact ⟨rfl, hidb (belF_tr hb.out (belF_tr (belF_al (Below.refl _ _) _) h))⟩)
  clear ht
  have tok : True := True.intro
  --@4
  go_enter Tryd.func8, Tryd.ntmps8
  go_wp2_with (first
    | (go_at_call 6; (with_reducible refine CN.mono ?_); rintro e w1 ⟨b, rfl, hs1⟩)
    | (go_at_call 9; (with_reducible refine (CA.out _ _ hs1).mono ?_); rintro e w2 ⟨rfl, hb2⟩)
    | (go_at_call 14; (with_reducible refine (CM.out _ hb2).mono ?_); rintro e w3 ⟨rfl, hb3⟩)
    | (go_at_call 14; (with_reducible refine (CM0.out _ hb3).mono ?_); rintro e w4 ⟨rfl, hb4⟩))
  go_ret
  exact ⟨rfl, hb4.out⟩

theorem t_laid16 {A : Option Addr} {n c : Nat} {us : List Nat} {W : World} (hs : Sl W W.heap.size A n (us.map wv)) (hn : n ≤ 256) :
    Calls Tryd.prog 15 #[.slice A n c] W fun e w' => ∃ p g, e = .returned (.pointer (some ⟨p, 0, none⟩)) ∧ Ar w' W.heap.size p g 256 (frLaid us) ∧ Below W.heap.size W w' := by
  have ca := code_anewZ W
  have CS : Hid (∀ W1 p g, Below W.heap.size W W1 → Ar W1 W.heap.size p g 256 frZ → Calls Tryd.prog 27 #[.pointer (some ⟨p, 0, none⟩), .int .i64 0, .slice A n c] W1 fun e w' => e = .returned (.int .i64 0) ∧ Ar w' W.heap.size p g 256 (frLaid us) ∧ Below W.heap.size W w') := hidb (fun W1 p g hb ha => by
    refine (code_astore 0 A n c ha ((hs.below hb).more hb.size) (by omega)).mono ?_
    rintro e w' ⟨h1, h2, h3⟩
    exact ⟨h1, h2, hb.grown h3 hb.size (fun k hk => by cases hk; exact ha.geg)⟩)
  clear hs hn
  --@5
  go_enter Tryd.func15, Tryd.ntmps15
  go_wp2_with (first
    | (go_at_call 26; (with_reducible refine ca.mono ?_); rintro e w1 ⟨p, g, rfl, ha1, hb1⟩; have CS1 := CS.out w1 p g hb1 ha1; clear ha1 hb1)
    | (go_at_call 27; (with_reducible refine CS1.mono ?_); rintro e w2 ⟨rfl, ha2, hb2⟩))
  go_ret
  exact ⟨p, g, rfl, ha2, hb2⟩

section
variable {w X : World} {A2 : Option Addr} {n2 c2 : Nat} {ys : List FnV}
/-- A table of whatever functions come in. -/
theorem t_new_no (hr : FnRow X 0 X.heap.size A2 n2 ys) (hy : ∀ y ∈ ys, y.n ≤ 17592186044416) (hm2 : n2 ≤ 9223372036854775807) (hT : fTab (vals ys) = false) :
    Calls Tryd.prog 6 #[.slice A2 n2 c2] X fun e w' => e = .returned (.tuple #[.pointer none, .int .i64 1]) ∧ Hid (Below X.heap.size X w') := by
  by_cases h100 : 100 < n2
  · exact (code_fNew_big A2 n2 c2 X h100 (by omega)).mono fun e w' h => ⟨h.1, hidb h.2⟩
  · exact (code_fNew_no A2 n2 c2 ys 0 X hr (by omega) hy hT).mono fun e w' h => ⟨h.1, hidb h.2⟩
theorem t_new_yes (hr : FnRow X 0 X.heap.size A2 n2 ys) (hy : ∀ y ∈ ys, y.n ≤ 17592186044416) (ht : TabDB X) (hT : fTab (vals ys) = true) :
    Calls Tryd.prog 6 #[.slice A2 n2 c2] X fun e w' => ∃ q, e = .returned (.tuple #[.pointer (some ⟨q, 0, none⟩), .int .i64 0]) ∧ Hid (S13 X w' (some ⟨q, 0, none⟩) (fOwns (vals ys))) := by
  have h100 : n2 ≤ 100 := by unfold fTab at hT; rw [Bool.and_eq_true, decide_eq_true_iff, vals_length, hr.len] at hT; omega
  exact (code_fNew A2 n2 c2 ys 0 X hr (by omega) hy ht hT).mono fun e w' ⟨q, h1, h2, h3⟩ => ⟨q, h1, hidb ⟨h3, _, _, h2.o, Nat.le_refl _, Nat.le_refl _⟩⟩
end
end Go.Proofs.YthjodcojhlfnfaaDoor
