/- Layer 16's statement SlotsOne. -/
import Derived.Test.YthjodcojhlfnfaaDoorSltLaws
namespace Go.Proofs.YthjodcojhlfnfaaDoor
open Go.RowKit Go.ChangeShapes Go.WideShapes
set_option linter.unusedVariables false

/-- What is put in a slot writes one word. -/
theorem slPut_one {xs ys : List Nat} {l : Fns} {L : List FrV} {d i no : Int} {v : VlV} (h : slPut xs l L d i v = (ys, no)) (j : Nat) : ys[j]? = xs[j]? ∨ (no = 0 ∧ slAddr l L d i = (j : Int)) := by
  unfold slPut at h
  by_cases h1 : slAddr l L d i < 0 ∨ (xs.length : Int) ≤ slAddr l L d i
  · rw [if_pos h1] at h; injection h with h _; subst h; exact Or.inl rfl
  rw [if_neg h1] at h
  have hset : ∀ u : Nat, (xs.set (slAddr l L d i).toNat u)[j]? = xs[j]? ∨ slAddr l L d i = (j : Int) := fun u => by
    rw [List.getElem?_set]
    by_cases e : (slAddr l L d i).toNat = j
    · exact Or.inr (by omega)
    · rw [if_neg e]; exact Or.inl rfl
  split at h
  · injection h with h _; subst h; exact Or.inl rfl
  split at h
  · injection h with h _; subst h; exact Or.inl rfl
  split at h
  · split at h
    · injection h with h _; subst h; exact Or.inl rfl
    split at h
    · injection h with h _; subst h; exact Or.inl rfl
    · injection h with h h2; subst h h2; exact (hset _).imp id fun e => ⟨rfl, e⟩
  · injection h with h h2; subst h h2; exact (hset _).imp id fun e => ⟨rfl, e⟩
theorem slPut_wd {xs ys : List Nat} {l : Fns} (hl : ∀ x ∈ l, 0 ≤ x.1 ∧ x.1 ≤ 1000) {L : List FrV} {d i no : Int} {v : VlV} (hx : Wd xs) (hv : v.bits < 18446744073709551616) (h : slPut xs l L d i v = (ys, no)) : Wd ys := by
  unfold slPut at h
  have hset : ∀ u k : Nat, u < 18446744073709551616 → Wd (xs.set k u) := fun u k hu z hz => by
    rcases List.mem_or_eq_of_mem_set hz with h | h
    · exact hx z h
    · rw [h]; exact hu
  have ht := slAddr_top l hl L v.depth v.slot
  split at h
  · injection h with h _; subst h; exact hx
  split at h
  · injection h with h _; subst h; exact hx
  split at h
  · injection h with h _; subst h; exact hx
  split at h
  · split at h
    · injection h with h _; subst h; exact hx
    split at h
    · injection h with h _; subst h; exact hx
    · injection h with h h2; subst h h2; exact hset _ _ (by omega)
  · injection h with h h2; subst h h2; exact hset _ _ hv

structure A16 where
  d : Int
  i : Int
  v : VlV
section
variable {H : Type} {enc : TypeId × Value → H} {W : World} {sp : Nat → Bool} {hd : Bool}
theorem a16_cells : Tryd.prog.cellsOf 46 = 6 := by kernel_rfl
theorem read_act16 {v : Value} {d : DataW H} {ps : List MemPlace} (h : DataW.Trod enc Tryd.prog W 0 sp hd 46 v d ps) : ∃ r : A16, v.cells.toList = [.int .i64 r.d, .int .i64 r.i, .int .u8 r.v.kind, .int .u64 r.v.bits, .int .i64 r.v.depth, .int .i64 r.v.slot] ∧ in64 r.d ∧ in64 r.i ∧ VlOk r.v := by
  obtain ⟨fuel, hf0⟩ := h
  generalize v.cells.toList = cs at *
  obtain ⟨hl, hf⟩ := read_field Tryd.underlying46 hf0
  rw [a16_cells] at hl
  obtain ⟨c0, n0, y0, g0, t0⟩ := hf 0 _ rfl vl_int (by rw [hl]; decide)
  obtain ⟨c1, n1, y1, g1, t1⟩ := hf 1 _ rfl vl_int (by rw [hl]; decide)
  obtain ⟨n2, y2, t2⟩ := read_fieldN 4 Tryd.underlying46 hf0 2 _ rfl vl_cells (by rw [hl]; decide)
  obtain ⟨z0, e0, _, w0⟩ := DataW.trod_int Tryd.underlying3 t0
  obtain ⟨z1, e1, _, w1⟩ := DataW.trod_int Tryd.underlying3 t1
  obtain ⟨v, hv, hok⟩ := read_valF _ _ _ t2
  simp only [List.cons.injEq, and_true] at e0 e1
  subst e0 e1
  refine ⟨⟨z0, z1, v⟩, ?_, wf_in64 w0, wf_in64 w1, hok⟩
  unfold vlcells at hv
  match cs, hl with
  | [a0, a1, a2, a3, a4, a5], _ => simp_all
end

/-- The law's world: an arena and a table; words that were read. -/
def S16 (X : World) (p g : Nat) (xs : List Nat) (tp : Option Addr) (O : Fns) (D : Option Addr) (k : Nat) (us : List Nat) (W : World) : Prop :=
  AT X W p g 256 xs tp O ∧ ∃ base, g < base ∧ W.ownsRow base 40 1 (.slice D 256 k) 256 (us.map wv)
theorem S16.step {X W W' : World} {p g : Nat} {xs : List Nat} {tp D : Option Addr} {O : Fns} {k : Nat} {us : List Nat} (h : S16 X p g xs tp O D k us W) (hb : Below W.heap.size W W') : S16 X p g xs tp O D k us W' := by
  obtain ⟨h1, base, h2, h3⟩ := h
  exact ⟨h1.step hb, base, h2, own_same h3 fun b hb2 => hb.block b (h3.lt b hb2).2⟩
theorem S16.wrote {X W W' : World} {p g : Nat} {xs ys : List Nat} {tp D : Option Addr} {O : Fns} {k : Nat} {us : List Nat} (h : S16 X p g xs tp O D k us W) (ha : Ar W' X.heap.size p g 256 ys) (hg : W.grownBy W' (some g)) : S16 X p g ys tp O D k us W' := by
  obtain ⟨h1, base, h2, h3⟩ := h
  refine ⟨h1.wrote ha hg, base, h2, own_grown h3 hg fun b hb e => ?_⟩
  have := (h3.lt b e).1
  injection hb with hb
  omega
theorem S16.row {X W : World} {p g : Nat} {xs : List Nat} {tp D : Option Addr} {O : Fns} {k : Nat} {us : List Nat} (h : S16 X p g xs tp O D k us W) : Sl W W.heap.size D 256 (us.map wv) := by
  obtain ⟨_, _, _, h3⟩ := h
  exact Sl.of_own h3

set_option maxRecDepth 100000 in
set_option maxHeartbeats 8000000 in
theorem slotsOne_any (A : Option Addr) (n c : Nat) (us : List Nat) (A2 : Option Addr) (n2 c2 : Nat) (ys : List FnV) (A3 : Option Addr) (m c3 : Nat) (L : List FrV) (y : A16) (w : World) (hs : Sl w w.heap.size A n (us.map wv)) (hu : Wd us) (hm : n ≤ maxLen) (hr : FnRow w 0 w.heap.size A2 n2 ys) (hy : ∀ y ∈ ys, y.n ≤ 17592186044416) (hm2 : n2 ≤ maxLen) (hL : FrRow w w.heap.size A3 m L) (hm3 : m ≤ maxLen) (h0 : in64 y.d) (h1 : in64 y.i) (hv : VlOk y.v) (ht : TabDB w) :
    Calls Tryd.prog 5 #[.slice A n c, .slice A2 n2 c2, .slice A3 m c3, .agg #[.int .i64 y.d, .int .i64 y.i, .int .u8 y.v.kind, .int .u64 y.v.bits, .int .i64 y.v.depth, .int .i64 y.v.slot]] w fun e w' => e = .returned (.bool true) ∧ Below w.heap.size w w' := by
  unfold maxLen at hm hm2 hm3
  obtain ⟨X, hX⟩ : ∃ X, X = w.alloc (.cells #[.int .i64 y.d, .int .i64 y.i, .int .u8 y.v.kind, .int .u64 y.v.bits, .int .i64 y.v.depth, .int .i64 y.v.slot] 46) := ⟨_, rfl⟩
  have hbX : Below w.heap.size w X := by rw [hX]; exact belF_al (Below.refl _ _) _
  have hzX : X.heap.size = w.heap.size + 1 := by rw [hX]; simp
  have HBX := hidb hbX
  have HC : Hid (∀ W, Below X.heap.size X W → (W.cell? ⟨w.heap.size, 0, none⟩ = some (.int .i64 y.d) ∧ W.cell? ⟨w.heap.size, 1, none⟩ = some (.int .i64 y.i)) ∧ (W.cell? ⟨w.heap.size, 2, none⟩ = some (.int .u8 y.v.kind) ∧ W.cell? ⟨w.heap.size, 3, none⟩ = some (.int .u64 y.v.bits)) ∧ W.cell? ⟨w.heap.size, 4, none⟩ = some (.int .i64 y.v.depth) ∧ W.cell? ⟨w.heap.size, 5, none⟩ = some (.int .i64 y.v.slot)) := hidb (fun W hb => by refine ⟨⟨?_, ?_⟩, ⟨?_, ?_⟩, ?_, ?_⟩ <;> (rw [hb.cell (by show w.heap.size < _; omega), hX]; simp))
  have hrX : FnRow X 0 X.heap.size A2 n2 ys := (hr.below hbX).more (Nat.le_refl _) hbX.size
  have hLX : FrRow X X.heap.size A3 m L := hL.step hbX
  have HRX := hidb hrX
  have HLX := hidb hLX
  have HT := hidb (TabDB.below ht hbX)
  have KA := fun W (s : Hid (Below X.heap.size X W)) => (awake16 W (TabDB.below HT.out s.out)).mono fun e w' h => (⟨h.1, hidb (belF_tr s.out h.2)⟩ : e = _ ∧ Hid (Below X.heap.size X w'))
  obtain ⟨b, hb⟩ : ∃ b, gr16 n (vals ys) m = b := ⟨_, rfl⟩
  have KG : Hid (∀ W, Hid (Below X.heap.size X W) → Calls Tryd.prog 7 #[.slice A n c, .slice A2 n2 c2, .slice A3 m c3] W fun e w' => e = .returned (.bool b) ∧ W = w') := hidb (fun W hbw => c_great16 ((HRX.out.below hbw.out).more (Nat.le_refl _) hbw.out.size) (by omega) b hb)
  have HXX := hidb hX
  cases hT : fTab (vals ys) with
  | false =>
    have kn := t_new_no (c2 := c2) hrX hy (by omega) hT
    clear hr hrX hL hLX ht hT hy hb hs hX hbX hzX hu hv
    cases b with
    | true =>
      --@1
      go_enter Tryd.func5, Tryd.ntmps5
      go_wp2_with (first
        | (go_at_call 6; rw [← HXX.out]; (with_reducible refine kn.mono ?_); rintro e w1 ⟨rfl, hs1⟩)
        | (go_at_call 7; (with_reducible refine (KG.out _ hs1).mono ?_); rintro e w2 ⟨rfl, rfl⟩)
        | (go_at_call 8; (with_reducible refine (KA _ hs1).mono ?_); rintro e w3 ⟨rfl, hs3⟩))
      go_ret
      exact ⟨rfl, belF_tr HBX.out hs3.out⟩
    | false =>
      --@2
      go_enter Tryd.func5, Tryd.ntmps5
      go_wp2_with (first
        | (go_at_call 6; rw [← HXX.out]; (with_reducible refine kn.mono ?_); rintro e w1 ⟨rfl, hs1⟩)
        | (go_at_call 7; (with_reducible refine (KG.out _ hs1).mono ?_); rintro e w2 ⟨rfl, rfl⟩)
        | (go_at_call 8; (with_reducible refine (KA _ hs1).mono ?_); rintro e w3 ⟨rfl, hs3⟩))
      go_ret
      exact ⟨rfl, belF_tr HBX.out hs3.out⟩
  | true =>
    have kn := t_new_yes (c2 := c2) hrX hy HT.out hT
    have hsz := fTab_sizes hT
    have HSZ := hidb hsz
    have HSZ2 := hidb (fOwns_sizes hsz)
    cases b with
    | true =>
      clear hr hrX hL hLX ht hT hy hb hs hX hbX hzX hu hv
      --@3
      go_enter Tryd.func5, Tryd.ntmps5
      go_wp2_with (first
        | (go_at_call 6; rw [← HXX.out]; (with_reducible refine kn.mono ?_); rintro e w1 ⟨tb, rfl, hs1⟩; have hw1 := hidb hs1.out.1)
        | (go_at_call 7; (with_reducible refine (KG.out _ hw1).mono ?_); rintro e w2 ⟨rfl, rfl⟩)
        | (go_at_call 8; (with_reducible refine (KA _ hw1).mono ?_); rintro e w3 ⟨rfl, hs3⟩))
      go_ret
      exact ⟨rfl, belF_tr HBX.out hs3.out⟩
    | false =>
      have hm40 : m ≤ 40 ∧ n ≤ 256 := by unfold gr16 at hb; simp at hb; omega
      have hn120 : n2 ≤ 100 := by unfold fTab at hT; rw [Bool.and_eq_true, decide_eq_true_iff, vals_length, hr.len] at hT; omega
      have hul : us.length = n := by have := hs.1; simpa using this
      have hfl : (frLaid us).length = 256 := frLaid_length us (by omega)
      have HU : Hid (Wd (frLaid us)) := hidb (frLaid_wd hu)
      have HS := hidb ((hs.below hbX).more hbX.size)
      generalize hxs : frLaid us = xs at *
      obtain ⟨zs, no, hput⟩ : ∃ zs no, slPut xs (fOwns (vals ys)) L y.d y.i y.v = (zs, no) := ⟨_, _, rfl⟩
      obtain ⟨u, hua⟩ : ∃ u, slAddr (vals ys) L y.d y.i = u := ⟨_, rfl⟩
      have HONE : Hid (∀ j : Nat, zs[j]? = xs[j]? ∨ (no = 0 ∧ u = (j : Int))) := hidb (fun j => by rw [← hua, ← slAddr_owns]; exact slPut_one hput j)
      have HZL : Hid (zs.length = 256) := hidb (by have := slPut_length xs (fOwns (vals ys)) L y.d y.i y.v; rw [hput] at this; simp only at this; omega)
      have HXL := hidb hfl
      have KL : Hid (∀ W tp O, Hid (S13 X W tp O) → Calls Tryd.prog 15 #[.slice A n c] W fun e w' => ∃ p g, e = .returned (.pointer (some ⟨p, 0, none⟩)) ∧ Hid (AT X w' p g 256 xs tp O)) := hidb (fun W tp O st => by
        refine (t_laid16 (W := W) (c := c) ((HS.out.below st.out.1).more st.out.1.size) hm40.2).mono ?_
        rintro e w' ⟨p, g, rfl, h2, h3⟩
        rw [hxs] at h2
        exact ⟨p, g, rfl, hidb (AT.made2 st.out h2 h3)⟩)
      have KW1 : Hid (∀ W p g tp O, Hid (AT X W p g 256 xs tp O) → Calls Tryd.prog 16 #[.pointer (some ⟨p, 0, none⟩), .int .i64 0, .int .i64 256] W fun e w' => ∃ D k, e = .returned (.tuple #[.slice D 256 k, .int .i64 0]) ∧ Hid (S16 X p g xs tp O D k xs w')) := hidb (fun W p g tp O st => by
        refine (code_arow_ok 0 256 st.out.ar (by omega)).mono ?_
        rintro e w' ⟨D, k, rfl, h2, h3⟩
        have e1 : aRow xs 0 256 = xs := by unfold aRow; rw [List.drop_zero, List.take_of_length_le (by omega)]
        rw [e1, hfl] at h2
        exact ⟨D, k, by rw [e1, hfl], hidb ⟨st.out.step h3, _, st.out.ar.lt, h2⟩⟩)
      have KP : Hid (∀ W p g tp D k, Hid (S16 X p g xs tp (fOwns (vals ys)) D k xs W) → Calls Tryd.prog 17 #[.pointer (some ⟨p, 0, none⟩), .pointer tp, .slice A3 m c3, .int .i64 y.d, .int .i64 y.i, .agg #[.int .u8 y.v.kind, .int .u64 y.v.bits, .int .i64 y.v.depth, .int .i64 y.v.slot]] W fun e w' => e = .returned (.int .i64 no) ∧ Hid (S16 X p g zs tp (fOwns (vals ys)) D k xs w')) := hidb (fun W p g tp D k st => by
        obtain ⟨lo, hi, g1, g2, _⟩ := st.out.1.tb
        refine (code_slput (c := c3) st.out.1.ar g1 g2 HSZ2.out ((HLX.out.below st.out.1.bel).more st.out.1.bel.size) (by omega) y.d y.i h1 y.v hv.2.2.1 hv.2.2.2 hv.1 hv.2.1 zs no hput).mono ?_
        rintro e w' ⟨rfl, h2, h3⟩
        exact ⟨rfl, hidb (st.out.wrote h2 h3)⟩)
      have KW2 : Hid (∀ W p g tp O D k, Hid (S16 X p g zs tp O D k xs W) → Calls Tryd.prog 16 #[.pointer (some ⟨p, 0, none⟩), .int .i64 0, .int .i64 256] W fun e w' => ∃ E k2, e = .returned (.tuple #[.slice E 256 k2, .int .i64 0]) ∧ Hid (S16 X p g zs tp O D k xs w') ∧ Hid (Sl w' w'.heap.size E 256 (zs.map wv))) := hidb (fun W p g tp O D k st => by
        refine (code_arow_ok 0 256 st.out.1.ar (by omega)).mono ?_
        rintro e w' ⟨E, k2, rfl, h2, h3⟩
        have e1 : aRow zs 0 256 = zs := by unfold aRow; rw [List.drop_zero, List.take_of_length_le (by have := HZL.out; omega)]
        rw [e1, HZL.out] at h2
        exact ⟨E, k2, by rw [e1, HZL.out], hidb (st.out.step h3), hidb (Sl.of_own h2)⟩)
      have KR : Hid (∀ W p g tp O D k E, Hid (S16 X p g zs tp O D k xs W) → Hid (Sl W W.heap.size E 256 (zs.map wv)) → Calls Tryd.prog 10 #[.slice A2 n2 c2, .slice A3 m c3, .int .i64 y.d, .int .i64 y.i] W fun e w' => e = .returned (.int .i64 u) ∧ Hid (S16 X p g zs tp O D k xs w') ∧ Hid (Sl w' w'.heap.size E 256 (zs.map wv))) := hidb (fun W p g tp O D k E st hE => by
        have hbl := st.out.1.bel
        rw [← hua]
        refine (ref_sladdr (c := c3) (c2 := c2) ((HRX.out.below hbl).more (Nat.le_refl _) hbl.size) (Nat.le_refl _) (by omega) HSZ.out ((HLX.out.below hbl).more hbl.size) (by omega) y.d y.i).mono ?_
        rintro e w1 ⟨rfl, h⟩
        exact ⟨rfl, hidb (st.out.step h), hidb ((hE.out.below h).more h.size)⟩)
      have HCS : Hid (∀ W p g xs2 tp O D k, Hid (S16 X p g xs2 tp O D k xs W) → (W.cell? ⟨w.heap.size, 0, none⟩ = some (.int .i64 y.d) ∧ W.cell? ⟨w.heap.size, 1, none⟩ = some (.int .i64 y.i)) ∧ (W.cell? ⟨w.heap.size, 2, none⟩ = some (.int .u8 y.v.kind) ∧ W.cell? ⟨w.heap.size, 3, none⟩ = some (.int .u64 y.v.bits)) ∧ W.cell? ⟨w.heap.size, 4, none⟩ = some (.int .i64 y.v.depth) ∧ W.cell? ⟨w.heap.size, 5, none⟩ = some (.int .i64 y.v.slot)) := hidb (fun W p g xs2 tp O D k st => HC.out W st.out.1.bel)
      generalize fOwns (vals ys) = O at *
      obtain ⟨yd, yi, vk, vb, vd, vi⟩ := y
      simp only at *
      clear hr hrX hL hLX ht hT hy hb hs hX hbX hzX hu hv hput hua hfl hxs hul h0 h1
      go_enter Tryd.func5, Tryd.ntmps5
      go_wp2_with (first
        | (go_at_call 6; rw [← HXX.out]; (with_reducible refine kn.mono ?_); rintro e w1 ⟨tb, rfl, hs1⟩; have hw1 := hidb hs1.out.1)
        | (go_at_call 7; (with_reducible refine (KG.out _ hw1).mono ?_); rintro e w2 ⟨rfl, rfl⟩)
        | (go_at_call 15; (with_reducible refine (KL.out _ _ _ hs1).mono ?_); rintro e w3 ⟨p, g, rfl, hs3⟩)
        | (go_at_call 16; (with_reducible refine (KW1.out _ _ _ _ _ hs3).mono ?_); rintro e w4 ⟨D, k, rfl, hs4⟩; clear hs3; obtain ⟨⟨c0, c1⟩, ⟨c2, c3⟩, c4, c5⟩ := HCS.out _ _ _ _ _ _ _ _ hs4)
        | (go_at_call 17; (with_reducible refine (KP.out _ _ _ _ _ _ hs4).mono ?_); rintro e w5 ⟨rfl, hs5⟩; obtain ⟨⟨d0, d1⟩, ⟨d2, d3⟩, d4, d5⟩ := HCS.out _ _ _ _ _ _ _ _ hs5)
        | (go_at_call 16; (with_reducible refine (KW2.out _ _ _ _ _ _ _ hs5).mono ?_); rintro e w6 ⟨E, k2, rfl, hs6, hE6⟩; obtain ⟨⟨f0, f1⟩, ⟨f2, f3⟩, f4, f5⟩ := HCS.out _ _ _ _ _ _ _ _ hs6)
        | (go_at_call 10; (with_reducible refine (KR.out _ _ _ _ _ _ _ _ hs6 hE6).mono ?_); rintro e w7 ⟨rfl, hs7, hE7⟩))
      have HBEL : Hid (Below X.heap.size X w7) := hidb hs7.out.1.bel
      have HD7 := hidb hs7.out.row
      clear c0 c1 c2 c3 c4 c5 d0 d1 d2 d3 d4 d5 f0 f1 f2 f3 f4 f5 kn
      go_loopw [18] (fun k wr => ∃ j : Nat, j ≤ 256 ∧ k = .int .i64 j ∧ Hid (Below X.heap.size X wr ∧ ∀ p, wr.cell? p = w7.cell? p)) (fun k _ => (256 - intOf k).toNat)
      case atStart => exact ⟨0, by omega, rfl, hidb ⟨HBEL.out, fun _ => rfl⟩⟩
      case round =>
        obtain ⟨j, hj, rfl, HQ⟩ := hrel
        by_cases hlt : j < 256
        · obtain ⟨bD, oD, x, rfl, hx, hcx⟩ := HD7.out.word hlt
          obtain ⟨bE, oE, z, rfl, hz, hcz⟩ := hE7.out.word hlt
          have t0 : wr.cell? ⟨bD, oD + j, none⟩ = some (.int .u64 (x : Int)) := (HQ.out.2 _).trans hcx
          have t1 : wr.cell? ⟨bE, oE + j, none⟩ = some (.int .u64 (z : Int)) := (HQ.out.2 _).trans hcz
          have hone := HONE.out j
          have g0 : (0 : Int) ≤ (j : Int) := by omega
          have g1 : (j : Int) < 256 := by omega
          rw [hx, hz] at hone
          clear hcx hcz
          by_cases heq : z = x
          · have hd : ((z : Int) != (x : Int)) = false := by simp [heq]
            clear hone heq hx hz
            --@5
            go_wp2
            go_quiet (fail)
            go_wp2
            go_roundw
            case rel => exact ⟨j + 1, by omega, by go_num, hidb ⟨belowN HQ.out.1 _, fun p => HQ.out.2 p⟩⟩
            case measure => simp [intOf]; omega
          · have hd : ((z : Int) != (x : Int)) = true := by simp; omega
            obtain ⟨rfl, rfl⟩ : no = 0 ∧ u = (j : Int) := hone.elim (fun h => absurd (by injection h) heq) id
            have hdj : ((j : Int) != (j : Int)) = false := by simp
            clear heq hx hz
            --@6
            go_wp2
            go_quiet (fail)
            go_wp2
            go_roundw
            case rel => exact ⟨j + 1, by omega, by go_num, hidb ⟨belowN HQ.out.1 _, fun p => HQ.out.2 p⟩⟩
            case measure => simp [intOf]; omega
        · have HBQ : Hid (Below X.heap.size X wr) := hidb HQ.out.1
          --@7
          go_wp2_with (first | (go_at_call 8; (with_reducible refine (KA _ HBQ).mono ?_); rintro e w8 ⟨rfl, hs8⟩))
          go_ret
          exact ⟨rfl, belF_tr HBX.out hs8.out⟩
end Go.Proofs.YthjodcojhlfnfaaDoor
