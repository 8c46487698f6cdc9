/- Layer 14's statement FrameSlots. -/
import Derived.Test.YtkahpmnemabehaaDoorFrmLaws
import Derived.BigQuiet
namespace Go.Proofs.YtkahpmnemabehaaDoor
open Go.RowKit Go.ChangeShapes Go.WideShapes
set_option linter.unusedVariables false

section
variable {H : Type} {enc : TypeId × Value → H} {W : World} {sp : Nat → Bool} {hd : Bool}
theorem fx_cells : Tryd.prog.cellsOf 33 = 3 := by kernel_rfl
theorem fx_int : Tryd.prog.cellsOf 3 = 1 := by kernel_rfl
def FrCells (cs : List Value) (x : FrV) : Prop := cs = [.int .i64 x.at_, .int .i64 x.fn, .int .i64 x.link] ∧ in64 x.at_ ∧ in64 x.fn ∧ in64 x.link
theorem read_frameF (fuel : Nat) (cs : List Value) (x : DataW H × List MemPlace) (h : DataW.trod enc Tryd.prog W 0 sp hd fuel 33 cs = some x) : ∃ r, FrCells cs r := by
  obtain ⟨hl, hf⟩ := read_field Tryd.underlying33 h
  rw [fx_cells] at hl
  obtain ⟨c0, n0, y0, g0, t0⟩ := hf 0 _ rfl fx_int (by rw [hl]; decide)
  obtain ⟨c1, n1, y1, g1, t1⟩ := hf 1 _ rfl fx_int (by rw [hl]; decide)
  obtain ⟨c2, n2, y2, g2, t2⟩ := hf 2 _ rfl fx_int (by rw [hl]; decide)
  obtain ⟨z0, e0, _, w0⟩ := DataW.trod_int Tryd.underlying3 t0
  obtain ⟨z1, e1, _, w1⟩ := DataW.trod_int Tryd.underlying3 t1
  obtain ⟨z2, e2, _, w2⟩ := DataW.trod_int Tryd.underlying3 t2
  simp only [List.cons.injEq, and_true] at e0 e1 e2
  subst e0 e1 e2
  refine ⟨⟨z0, z1, z2⟩, ?_, wf_in64 w0, wf_in64 w1, wf_in64 w2⟩
  match cs, hl with
  | [a0, a1, a2], _ => simp_all
theorem read_frame {v : Value} {d : DataW H} {ps : List MemPlace} (h : DataW.Trod enc Tryd.prog W 0 sp hd 33 v d ps) : ∃ r : FrV, v.cells.toList = [.int .i64 r.at_, .int .i64 r.fn, .int .i64 r.link] ∧ in64 r.at_ ∧ in64 r.fn ∧ in64 r.link := by
  obtain ⟨fuel, hf⟩ := h
  obtain ⟨r, h1, h2⟩ := read_frameF fuel _ _ hf
  exact ⟨r, h1, h2⟩
end

/-- A frame that lies in a block. -/
def XAt (b : Nat) (x : FrV) (W : World) : Prop := W.cell? ⟨b, 0, none⟩ = some (.int .i64 x.at_) ∧ W.cell? ⟨b, 1, none⟩ = some (.int .i64 x.fn) ∧ W.cell? ⟨b, 2, none⟩ = some (.int .i64 x.link)
theorem XAt.step {b : Nat} {x : FrV} {W W' : World} (h : XAt b x W) (hb : Below W.heap.size W W') : XAt b x W' := by
  have hl : b < W.heap.size := lt_of_cell' h.1
  exact ⟨(hb.cell (p := ⟨b, 0, none⟩) hl).trans h.1, (hb.cell (p := ⟨b, 1, none⟩) hl).trans h.2.1, (hb.cell (p := ⟨b, 2, none⟩) hl).trans h.2.2⟩
/-- A law's world: a table, and a frame in a block. -/
def SX (w : World) (b : Nat) (x : FrV) (p : Option Addr) (l : Fns) (W : World) : Prop := S13 w W p l ∧ XAt b x W
theorem stab_x (w : World) (b : Nat) (x : FrV) (p : Option Addr) (l : Fns) : Stab w p l (SX w b x p l) := ⟨fun _ h => h.1, fun _ _ h hb => ⟨h.1.step hb, h.2.step hb⟩⟩
section
variable {w : World} {b : Nat} {x : FrV} {p : Option Addr} {l : Fns} {A : Option Addr} {n c : Nat} {ys : List FnV}
theorem x_new (h : In13 w A n ys) (ht : TabDB w) {W : World} (s : Hid (SX w b x p l W)) (hr : fTab (vals ys) = true) :
    Calls Tryd.prog 13 #[.slice A n c] W fun e w' => ∃ q, e = .returned (.tuple #[.pointer (some ⟨q, 0, none⟩), .int .i64 0]) ∧ Hid (SX w b x (some ⟨q, 0, none⟩) (fOwns (vals ys)) w') :=
  (code_fNew A n c ys 0 W (h.at_ s.out.1.bel) (by have := h.few; omega) h.s1 (TabDB.below ht s.out.1.bel) hr).mono fun e w' ⟨q, h1, h2, h3⟩ => ⟨q, h1, hidb ⟨⟨s.out.1.bel.trans (h3.mono s.out.1.bel.size), _, _, h2.o, Nat.le_refl _, s.out.1.bel.size⟩, s.out.2.step h3⟩⟩
theorem x_new_no (h : In13 w A n ys) {W : World} (s : Hid (SX w b x p l W)) (hr : fTab (vals ys) = false) :
    Calls Tryd.prog 13 #[.slice A n c] W fun e w' => e = .returned (.tuple #[.pointer none, .int .i64 1]) ∧ Hid (SX w b x none [] w') :=
  (code_fNew_no A n c ys 0 W (h.at_ s.out.1.bel) (by have := h.few; omega) h.s1 hr).mono fun e w' ⟨h1, h3⟩ => ⟨h1, hidb ⟨⟨s.out.1.bel.trans (h3.mono s.out.1.bel.size), _, _, TbO.nil_ w' w.heap.size w.heap.size, Nat.le_trans s.out.1.bel.size h3.size, Nat.le_refl _⟩, s.out.2.step h3⟩⟩
theorem x_slot {W : World} (s : Hid (SX w b x p l W)) (hl : ∀ y ∈ l, 0 ≤ y.1 ∧ y.1 ≤ 1000) (hx : frNear x) (i r no : Int) (hv : frSlot l x i = (r, no)) :
    Calls Tryd.prog 14 #[.pointer p, .agg #[.int .i64 x.at_, .int .i64 x.fn, .int .i64 x.link], .int .i64 i] W fun e w' => e = .returned (.tuple #[.int .i64 r, .int .i64 no]) ∧ Hid (SX w b x p l w') := by
  obtain ⟨lo, hi, h2, h3, _⟩ := s.out.1.2
  have c := code_frslot h2 h3 hl x hx i
  rw [hv] at c
  exact c.mono fun e w' ⟨h1, h2⟩ => ⟨h1, hidb ((stab_x w b x p l).step _ _ s.out h2)⟩
theorem x_end {W : World} (s : Hid (SX w b x p l W)) (hl : ∀ y ∈ l, 0 ≤ y.1 ∧ y.1 ≤ 1000) (hx : frNear x) (r : Int) (hv : frEnd l x = r) :
    Calls Tryd.prog 15 #[.pointer p, .agg #[.int .i64 x.at_, .int .i64 x.fn, .int .i64 x.link]] W fun e w' => e = .returned (.int .i64 r) ∧ Hid (SX w b x p l w') := by
  obtain ⟨lo, hi, h2, h3, _⟩ := s.out.1.2
  have c := code_frend h2 h3 hl x hx
  rw [hv] at c
  exact c.mono fun e w' ⟨h1, h2⟩ => ⟨h1, hidb ((stab_x w b x p l).step _ _ s.out h2)⟩
end
section
variable {w : World} {p : Option Addr} {l : Fns} {St : World → Prop} {A : Option Addr} {n c : Nat} {ys : List FnV}
theorem g_rall (k : Stab w p l St) (h : In13 w A n ys) {W : World} (s : Hid (St W)) (r : Bool) (hr : fTab (vals ys) = r) :
    Calls Tryd.prog 9 #[.slice A n c] W fun e w' => e = .returned (.bool r) ∧ Hid (St w') := by
  rw [← hr]
  exact (ref_fall A n c ys 0 W (h.at_ (k.get _ s.out).bel) (by have := h.few; omega) h.s1).mono fun e w' ⟨h1, h2⟩ => ⟨h1, hidb (k.step _ _ s.out h2)⟩
theorem g_awake14 (k : Stab w p l St) (ht : TabDB w) (W : World) (s : Hid (St W)) : Calls Tryd.prog 7 #[] W fun e w' => e = .returned (.bool true) ∧ Hid (St w') :=
  (awake14 W (TabDB.below ht (k.get _ s.out).bel)).mono fun e w' ⟨h1, h2⟩ => ⟨h1, hidb (k.step _ _ s.out h2)⟩
theorem q_rwords (k : Stab w p l St) (h : In13 w A n ys) {W : World} (s : Hid (St W)) (q : Nat) (f r : Int) (h1 : fSize (vals ys) f ≤ 1000) (h2 : -9223372036854775808 ≤ fSize (vals ys) f) (hr : fWords (vals ys) f = r) :
    Calls Tryd.prog 17 #[.slice A n c, .int .i64 f] (W.drewN q) fun e w'' => e = .returned (.int .i64 r) ∧ ∃ m, w'' = W.drewN m := by
  rw [← hr]
  exact (ref_fwordsR A n c ys _ _ (W.drewN q) f ((h.at_ (k.get _ s.out).bel).drewN q) (by have := h.few; omega) h1 h2).mono fun e w' ⟨h1, h2⟩ => ⟨h1, q, h2.symm⟩
end

theorem fSize_nil (f : Int) : fSize [] f = -1 := by unfold fSize; rw [if_pos (by simp only [List.length_nil]; omega)]
theorem frSlot_none {l : Fns} {x : FrV} (h : fSize l x.fn < 0) (i : Int) : frSlot l x i = (0, 2) := by
  unfold frSlot; rw [if_pos (by omega)]
theorem frEnd_none {l : Fns} {x : FrV} (h : fSize l x.fn < 0) : frEnd l x = -1 := by
  unfold frEnd fWords; rw [if_pos h, if_pos (by omega)]

set_option maxRecDepth 100000 in
set_option maxHeartbeats 4000000 in
theorem frameSlots_any (A : Option Addr) (n c : Nat) (ys : List FnV) (x : FrV) (i : Int) (w : World) (hs : FnRow w 0 w.heap.size A n ys) (hm : n ≤ maxLen) (hf : in64 x.fn) (hi : in64 i) (ht : TabDB w) :
    Calls Tryd.prog 4 #[.slice A n c, .agg #[.int .i64 x.at_, .int .i64 x.fn, .int .i64 x.link], .int .i64 i] w fun e w' => e = .returned (.bool true) ∧ Below w.heap.size w w' := by
  unfold maxLen at hm
  have hb0 := belF_al (Below.refl w.heap.size w) (.cells #[.int .i64 x.at_, .int .i64 x.fn, .int .i64 x.link] 33)
  have hx0 : XAt w.heap.size x (w.alloc (.cells #[.int .i64 x.at_, .int .i64 x.fn, .int .i64 x.link] 33)) := ⟨by simp, by simp, by simp⟩
  have hs0 := hidb (show SX w w.heap.size x none [] (w.alloc (.cells #[.int .i64 x.at_, .int .i64 x.fn, .int .i64 x.link] 33)) from ⟨(S13.start w).alloc _, hx0⟩)
  have cg := ref_fgreat A n c ys 0 _ (w.alloc (.cells #[.int .i64 x.at_, .int .i64 x.fn, .int .i64 x.link] 33)) ((hs.below hb0).more (Nat.le_refl _) hb0.size) (by omega)
  have cw := fun (St : World → Prop) (p : Option Addr) (l : Fns) (k : Stab w p l St) W (s : Hid (St W)) => g_awake14 k ht W s
  have kw0 := cw _ _ _ (stab_x w w.heap.size x none []) _ hs0
  obtain ⟨xa, xf, xl⟩ := x
  simp only at *
  obtain ⟨x0, x1, x2⟩ := hs0.out.2
  cases hG : fGreat (vals ys) with
  | true =>
    rw [hG] at cg
    clear hs hG ht cw hb0
    --@1
    go_enter Tryd.func4, Tryd.ntmps4
    go_wp2_with (first
      | (go_at_call 6; (with_reducible refine cg.mono ?_); rintro e w' ⟨rfl, rfl⟩)
      | (go_at_call 7; (with_reducible refine kw0.mono ?_); rintro e w1 ⟨rfl, hs1⟩))
    go_ret
    exact ⟨rfl, hs1.out.1.bel⟩
  | false =>
    rw [hG] at cg
    by_cases far1 : 1099511627776 < xa
    · clear hs hG ht cw hb0
      --@2
      go_enter Tryd.func4, Tryd.ntmps4
      go_wp2_with (first
        | (go_at_call 6; (with_reducible refine cg.mono ?_); rintro e w' ⟨rfl, rfl⟩)
        | (go_at_call 7; (with_reducible refine kw0.mono ?_); rintro e w1 ⟨rfl, hs1⟩))
      go_ret
      exact ⟨rfl, hs1.out.1.bel⟩
    by_cases far2 : xa < -1099511627776
    · clear hs hG ht cw hb0
      --@3
      go_enter Tryd.func4, Tryd.ntmps4
      go_wp2_with (first
        | (go_at_call 6; (with_reducible refine cg.mono ?_); rintro e w' ⟨rfl, rfl⟩)
        | (go_at_call 7; (with_reducible refine kw0.mono ?_); rintro e w1 ⟨rfl, hs1⟩))
      go_ret
      exact ⟨rfl, hs1.out.1.bel⟩
    have HI := hidb (great_in hs hG)
    have HL := hidb hs.len
    have HX : Hid (frNear ⟨xa, xf, xl⟩) := hidb (by unfold frNear; simp only; omega)
    cases hT : fTab (vals ys) with
    | false =>
      have k1 := x_new_no (c := c) HI.out hs0 hT
      have k2 := fun W (s : Hid (SX w w.heap.size ⟨xa, xf, xl⟩ none [] W)) => x_slot s (fun y hy => by cases hy) HX.out i 0 2 (frSlot_none (by rw [fSize_nil]; omega) i)
      have k3 := fun W (s : Hid (SX w w.heap.size ⟨xa, xf, xl⟩ none [] W)) => x_end s (fun y hy => by cases hy) HX.out (-1) (frEnd_none (by rw [fSize_nil]; omega))
      have k4 := fun W (s : Hid (SX w w.heap.size ⟨xa, xf, xl⟩ none [] W)) => g_rall (c := c) (stab_x w w.heap.size ⟨xa, xf, xl⟩ none []) HI.out s false hT
      have k5 := fun W s => cw _ _ _ (stab_x w w.heap.size ⟨xa, xf, xl⟩ none []) W s
      clear hs hG ht cw hb0 hT kw0
      --@4
      go_enter Tryd.func4, Tryd.ntmps4
      go_wp2_with (first
        | (go_at_call 6; (with_reducible refine cg.mono ?_); rintro e w' ⟨rfl, rfl⟩)
        | (go_at_call 13; (with_reducible refine k1.mono ?_); rintro e w1 ⟨rfl, hs1⟩; obtain ⟨x3, x4, x5⟩ := hs1.out.2)
        | (go_at_call 14; (with_reducible refine (k2 _ hs1).mono ?_); rintro e w2 ⟨rfl, hs2⟩; obtain ⟨x6, x7, x8⟩ := hs2.out.2)
        | (go_at_call 15; (with_reducible refine (k3 _ hs2).mono ?_); rintro e w3 ⟨rfl, hs3⟩; obtain ⟨x9, x10, x11⟩ := hs3.out.2)
        | (go_at_call 9; (with_reducible refine (k4 _ hs3).mono ?_); rintro e w4 ⟨rfl, hs4⟩)
        | (go_at_call 7; (with_reducible refine (k5 _ hs4).mono ?_); rintro e w5 ⟨rfl, hs5⟩))
      go_ret
      exact ⟨rfl, hs5.out.1.bel⟩
    | true =>
      have hsz := fTab_sizes hT
      have hrg := fSize_range hsz xf
      have HSZ2 := hidb (fOwns_sizes hsz)
      obtain ⟨z, hz⟩ : ∃ z, fSize (vals ys) xf = z := ⟨_, rfl⟩
      have HZ1 := hidb ((fSize_owns (vals ys) xf).trans hz)
      have HZ := hidb hz
      have SB := fun q => stab_x w w.heap.size ⟨xa, xf, xl⟩ (some ⟨q, 0, none⟩) (fOwns (vals ys))
      have k1 := x_new (c := c) HI.out ht hs0 hT
      have k4 := fun q W s => g_rall (c := c) (SB q) HI.out (W := W) s true hT
      have k5 := fun q W s => cw _ _ _ (SB q) W s
      have k6 := fun q W s => g_rsize (c := c) (SB q) HI.out W s xf z hz
      rw [hz] at hrg
      by_cases hz0 : z < 0
      · have k2 := fun q W (s : Hid (SX w w.heap.size ⟨xa, xf, xl⟩ (some ⟨q, 0, none⟩) (fOwns (vals ys)) W)) => x_slot s HSZ2.out HX.out i 0 2 (frSlot_none (by rw [HZ1.out]; exact hz0) i)
        have k3 := fun q W (s : Hid (SX w w.heap.size ⟨xa, xf, xl⟩ (some ⟨q, 0, none⟩) (fOwns (vals ys)) W)) => x_end s HSZ2.out HX.out (-1) (frEnd_none (by rw [HZ1.out]; exact hz0))
        generalize fOwns (vals ys) = O at *
        clear hs hG ht cw hb0 hT kw0 hz hsz SB hf hi hm HZ1
        --@5
        go_enter Tryd.func4, Tryd.ntmps4
        go_wp2_with (first
          | (go_at_call 6; (with_reducible refine cg.mono ?_); rintro e w' ⟨rfl, rfl⟩)
          | (go_at_call 13; (with_reducible refine k1.mono ?_); rintro e w1 ⟨tb, rfl, hs1⟩; obtain ⟨x3, x4, x5⟩ := hs1.out.2)
          | (go_at_call 14; (with_reducible refine (k2 _ _ hs1).mono ?_); rintro e w2 ⟨rfl, hs2⟩; obtain ⟨x6, x7, x8⟩ := hs2.out.2)
          | (go_at_call 15; (with_reducible refine (k3 _ _ hs2).mono ?_); rintro e w3 ⟨rfl, hs3⟩; obtain ⟨x9, x10, x11⟩ := hs3.out.2)
          | (go_at_call 9; (with_reducible refine (k4 _ _ hs3).mono ?_); rintro e w4 ⟨rfl, hs4⟩; obtain ⟨y1, y2, y3⟩ := hs4.out.2)
          | (go_at_call 16; (with_reducible refine (k6 _ _ hs4).mono ?_); rintro e w5 ⟨rfl, hs5⟩)
          | (go_at_call 7; (with_reducible refine (k5 _ _ hs5).mono ?_); rintro e w6 ⟨rfl, hs6⟩))
        go_ret
        exact ⟨rfl, hs6.out.1.bel⟩
      · have hr : ¬ (xf < 0 ∨ (n : Int) ≤ xf) := fun h => by
          have e : fSize (vals ys) xf = -1 := by unfold fSize; rw [vals_length, HL.out, if_pos h]
          omega
        have hwd : fWords (vals ys) xf = z + 2 := by unfold fWords; rw [hz, if_neg hz0]
        have HW1 := hidb ((fWords_owns (vals ys) xf).trans hwd)
        obtain ⟨b2, off, y, rfl, hy, hyin, HQ⟩ := HI.out.cells (j := xf.toNat) (by omega)
        have hyz : y.sz = z := by
          rw [← hz]; unfold fSize
          rw [vals_length, HL.out, if_neg hr, getD_at _ _ _ _ (vals_at hy)]
        rw [hyz] at HQ
        have HQ2 : Hid (∀ W, SX w w.heap.size ⟨xa, xf, xl⟩ none [] W → True) := hidb (fun _ _ => trivial)
        have k7 := fun q W s m => q_rwords (c := c) (SB q) HI.out (W := W) s m xf (z + 2) (by omega) (by omega) hwd
        have HQB : Hid (∀ q W, Hid (SX w w.heap.size ⟨xa, xf, xl⟩ (some ⟨q, 0, none⟩) (fOwns (vals ys)) W) → W.cell? ⟨b2, off + xf.toNat * 2, none⟩ = some (.int .i64 z)) := hidb (fun q W s => (HQ.out W s.out.1.bel).1)
        have f1 : xf < (n : Int) := by omega
        have f2 : 0 ≤ xf := by omega
        have HE : Hid (frEnd (fOwns (vals ys)) ⟨xa, xf, xl⟩ = xa + (z + 2)) := hidb (by unfold frEnd; simp only; rw [HW1.out, if_neg (by omega)])
        have k3 := fun q W (s : Hid (SX w w.heap.size ⟨xa, xf, xl⟩ (some ⟨q, 0, none⟩) (fOwns (vals ys)) W)) => x_end s HSZ2.out HX.out _ HE.out
        by_cases hi0 : i < 0
        · have k2 := fun q W (s : Hid (SX w w.heap.size ⟨xa, xf, xl⟩ (some ⟨q, 0, none⟩) (fOwns (vals ys)) W)) => x_slot s HSZ2.out HX.out i 0 2 (by unfold frSlot; rw [if_pos (Or.inl hi0)])
          have hw : wrap64 (xa + (z + 2)) = xa + (z + 2) := by have := HX.out; unfold frNear at this; simp only at this; unfold wrap64; omega
          generalize fOwns (vals ys) = O at *
          clear hs hG ht cw hb0 hT kw0 hz hsz SB hm HZ1 hyz hy hyin HQ HQ2 hwd HW1 hf hi hr
          --@6
          go_enter Tryd.func4, Tryd.ntmps4
          go_wp2_with (first
            | (go_at_call 6; (with_reducible refine cg.mono ?_); rintro e w' ⟨rfl, rfl⟩)
            | (go_at_call 13; (with_reducible refine k1.mono ?_); rintro e w1 ⟨tb, rfl, hs1⟩; obtain ⟨x3, x4, x5⟩ := hs1.out.2)
            | (go_at_call 14; (with_reducible refine (k2 _ _ hs1).mono ?_); rintro e w2 ⟨rfl, hs2⟩; obtain ⟨x6, x7, x8⟩ := hs2.out.2)
            | (go_at_call 15; (with_reducible refine (k3 _ _ hs2).mono ?_); rintro e w3 ⟨rfl, hs3⟩; obtain ⟨x9, x10, x11⟩ := hs3.out.2)
            | (go_at_call 9; (with_reducible refine (k4 _ _ hs3).mono ?_); rintro e w4 ⟨rfl, hs4⟩; obtain ⟨y1, y2, y3⟩ := hs4.out.2)
            | (go_at_call 16; (with_reducible refine (k6 _ _ hs4).mono ?_); rintro e w5 ⟨rfl, hs5⟩; obtain ⟨z1, z2, z3⟩ := hs5.out.2; have zq := HQB.out _ _ hs5))
          go_quiet (first | (go_at_call 17; (with_reducible exact k7 _ _ hs5 _)))
          obtain ⟨wz, hwz⟩ : ∃ wz, wz = w5.drewN nq := ⟨_, rfl⟩
          have hs7 := hidb (hs5.out.1.drewN nq)
          have hx7 : XAt w.heap.size ⟨xa, xf, xl⟩ wz := by rw [hwz]; exact hs5.out.2
          have zq7 : wz.cell? ⟨b2, off + xf.toNat * 2, none⟩ = some (.int .i64 z) := by rw [hwz]; exact zq
          have hs8 : Hid (SX w w.heap.size ⟨xa, xf, xl⟩ (some ⟨tb, 0, none⟩) O wz) := hidb ⟨by rw [hwz]; exact hs7.out, hx7⟩
          rw [← hwz]
          clear hwz hs7 z1 z2 z3 zq
          obtain ⟨z1, z2, z3⟩ := hx7
          go_wp2_with (first
            | (go_at_call 7; (with_reducible refine (k5 _ _ hs8).mono ?_); rintro e w6 ⟨rfl, hs6⟩))
          go_ret
          exact ⟨rfl, hs6.out.1.bel⟩
        by_cases hi1 : z ≤ i
        · have k2 := fun q W (s : Hid (SX w w.heap.size ⟨xa, xf, xl⟩ (some ⟨q, 0, none⟩) (fOwns (vals ys)) W)) => x_slot s HSZ2.out HX.out i 0 2 (by unfold frSlot; rw [if_pos (Or.inr (by simp only; rw [HZ1.out]; exact hi1))])
          have hw : wrap64 (xa + (z + 2)) = xa + (z + 2) := by have := HX.out; unfold frNear at this; simp only at this; unfold wrap64; omega
          generalize fOwns (vals ys) = O at *
          clear hs hG ht cw hb0 hT kw0 hz hsz SB hm HZ1 hyz hy hyin HQ HQ2 hwd HW1 hf hi hr
          --@7
          go_enter Tryd.func4, Tryd.ntmps4
          go_wp2_with (first
            | (go_at_call 6; (with_reducible refine cg.mono ?_); rintro e w' ⟨rfl, rfl⟩)
            | (go_at_call 13; (with_reducible refine k1.mono ?_); rintro e w1 ⟨tb, rfl, hs1⟩; obtain ⟨x3, x4, x5⟩ := hs1.out.2)
            | (go_at_call 14; (with_reducible refine (k2 _ _ hs1).mono ?_); rintro e w2 ⟨rfl, hs2⟩; obtain ⟨x6, x7, x8⟩ := hs2.out.2)
            | (go_at_call 15; (with_reducible refine (k3 _ _ hs2).mono ?_); rintro e w3 ⟨rfl, hs3⟩; obtain ⟨x9, x10, x11⟩ := hs3.out.2)
            | (go_at_call 9; (with_reducible refine (k4 _ _ hs3).mono ?_); rintro e w4 ⟨rfl, hs4⟩; obtain ⟨y1, y2, y3⟩ := hs4.out.2)
            | (go_at_call 16; (with_reducible refine (k6 _ _ hs4).mono ?_); rintro e w5 ⟨rfl, hs5⟩; obtain ⟨z1, z2, z3⟩ := hs5.out.2; have zq := HQB.out _ _ hs5))
          go_quiet (first | (go_at_call 17; (with_reducible exact k7 _ _ hs5 _)))
          obtain ⟨wz, hwz⟩ : ∃ wz, wz = w5.drewN nq := ⟨_, rfl⟩
          have hs7 := hidb (hs5.out.1.drewN nq)
          have hx7 : XAt w.heap.size ⟨xa, xf, xl⟩ wz := by rw [hwz]; exact hs5.out.2
          have zq7 : wz.cell? ⟨b2, off + xf.toNat * 2, none⟩ = some (.int .i64 z) := by rw [hwz]; exact zq
          have hs8 : Hid (SX w w.heap.size ⟨xa, xf, xl⟩ (some ⟨tb, 0, none⟩) O wz) := hidb ⟨by rw [hwz]; exact hs7.out, hx7⟩
          rw [← hwz]
          clear hwz hs7 z1 z2 z3 zq
          obtain ⟨z1, z2, z3⟩ := hx7
          go_wp2_with (first
            | (go_at_call 7; (with_reducible refine (k5 _ _ hs8).mono ?_); rintro e w6 ⟨rfl, hs6⟩))
          go_ret
          exact ⟨rfl, hs6.out.1.bel⟩
        · have k2 := fun q W (s : Hid (SX w w.heap.size ⟨xa, xf, xl⟩ (some ⟨q, 0, none⟩) (fOwns (vals ys)) W)) => x_slot s HSZ2.out HX.out i (xa + 2 + i) 0 (by unfold frSlot; rw [if_neg (by simp only; rw [HZ1.out]; omega)])
          have hw : wrap64 (xa + (z + 2)) = xa + (z + 2) := by have := HX.out; unfold frNear at this; simp only at this; unfold wrap64; omega
          generalize fOwns (vals ys) = O at *
          clear hs hG ht cw hb0 hT kw0 hz hsz SB hm HZ1 hyz hy hyin HQ HQ2 hwd HW1 hf hi hr
          --@8
          go_enter Tryd.func4, Tryd.ntmps4
          go_wp2_with (first
            | (go_at_call 6; (with_reducible refine cg.mono ?_); rintro e w' ⟨rfl, rfl⟩)
            | (go_at_call 13; (with_reducible refine k1.mono ?_); rintro e w1 ⟨tb, rfl, hs1⟩; obtain ⟨x3, x4, x5⟩ := hs1.out.2)
            | (go_at_call 14; (with_reducible refine (k2 _ _ hs1).mono ?_); rintro e w2 ⟨rfl, hs2⟩; obtain ⟨x6, x7, x8⟩ := hs2.out.2)
            | (go_at_call 15; (with_reducible refine (k3 _ _ hs2).mono ?_); rintro e w3 ⟨rfl, hs3⟩; obtain ⟨x9, x10, x11⟩ := hs3.out.2)
            | (go_at_call 9; (with_reducible refine (k4 _ _ hs3).mono ?_); rintro e w4 ⟨rfl, hs4⟩; obtain ⟨y1, y2, y3⟩ := hs4.out.2)
            | (go_at_call 16; (with_reducible refine (k6 _ _ hs4).mono ?_); rintro e w5 ⟨rfl, hs5⟩; obtain ⟨z1, z2, z3⟩ := hs5.out.2; have zq := HQB.out _ _ hs5))
          go_quiet (first | (go_at_call 17; (with_reducible exact k7 _ _ hs5 _)))
          obtain ⟨wz, hwz⟩ : ∃ wz, wz = w5.drewN nq := ⟨_, rfl⟩
          have hs7 := hidb (hs5.out.1.drewN nq)
          have hx7 : XAt w.heap.size ⟨xa, xf, xl⟩ wz := by rw [hwz]; exact hs5.out.2
          have zq7 : wz.cell? ⟨b2, off + xf.toNat * 2, none⟩ = some (.int .i64 z) := by rw [hwz]; exact zq
          have hs8 : Hid (SX w w.heap.size ⟨xa, xf, xl⟩ (some ⟨tb, 0, none⟩) O wz) := hidb ⟨by rw [hwz]; exact hs7.out, hx7⟩
          rw [← hwz]
          clear hwz hs7 z1 z2 z3 zq
          obtain ⟨z1, z2, z3⟩ := hx7
          go_wp2_with (first
            | (go_at_call 7; (with_reducible refine (k5 _ _ hs8).mono ?_); rintro e w6 ⟨rfl, hs6⟩))
          go_ret
          exact ⟨rfl, hs6.out.1.bel⟩
end Go.Proofs.YtkahpmnemabehaaDoor
