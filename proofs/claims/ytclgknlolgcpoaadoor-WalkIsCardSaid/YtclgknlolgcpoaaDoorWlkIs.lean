/- Layer 15's statement WalkIs. -/
import Derived.Test.YtclgknlolgcpoaaDoorWlkLaws
import Derived.Test.YtclgknlolgcpoaaDoorFrmAll
namespace Go.Proofs.YtclgknlolgcpoaaDoor
open Go.RowKit Go.ChangeShapes Go.WideShapes
set_option linter.unusedVariables false

section
variable {H : Type} {enc : TypeId × Value → H} {W : World} {sp : Nat → Bool} {hd : Bool}
theorem st_cells : Tryd.prog.cellsOf 25 = 3 := by kernel_rfl
theorem st_int : Tryd.prog.cellsOf 3 = 1 := by kernel_rfl
def StCells (cs : List Value) (x : StV) : Prop := cs = [.int .i64 x.lo, .int .i64 x.size, .int .i64 x.sp] ∧ in64 x.lo ∧ in64 x.size ∧ in64 x.sp
theorem read_stackF (fuel : Nat) (cs : List Value) (x : DataW H × List MemPlace) (h : DataW.trod enc Tryd.prog W 0 sp hd fuel 25 cs = some x) : ∃ r, StCells cs r := by
  obtain ⟨hl, hf⟩ := read_field Tryd.underlying25 h
  rw [st_cells] at hl
  obtain ⟨c0, n0, y0, g0, t0⟩ := hf 0 _ rfl st_int (by rw [hl]; decide)
  obtain ⟨c1, n1, y1, g1, t1⟩ := hf 1 _ rfl st_int (by rw [hl]; decide)
  obtain ⟨c2, n2, y2, g2, t2⟩ := hf 2 _ rfl st_int (by rw [hl]; decide)
  obtain ⟨z0, e0, _, w0⟩ := DataW.trod_int Tryd.underlying3 t0
  obtain ⟨z1, e1, _, w1⟩ := DataW.trod_int Tryd.underlying3 t1
  obtain ⟨z2, e2, _, w2⟩ := DataW.trod_int Tryd.underlying3 t2
  simp only [List.cons.injEq, and_true] at e0 e1 e2
  subst e0 e1 e2
  refine ⟨⟨z0, z1, z2⟩, ?_, wf_in64 w0, wf_in64 w1, wf_in64 w2⟩
  match cs, hl with
  | [a0, a1, a2], _ => simp_all
theorem read_stack {v : Value} {d : DataW H} {ps : List MemPlace} (h : DataW.Trod enc Tryd.prog W 0 sp hd 25 v d ps) : ∃ r : StV, v.cells.toList = [.int .i64 r.lo, .int .i64 r.size, .int .i64 r.sp] ∧ in64 r.lo ∧ in64 r.size ∧ in64 r.sp := by
  obtain ⟨fuel, hf⟩ := h
  obtain ⟨r, h1, h2⟩ := read_stackF fuel _ _ hf
  exact ⟨r, h1, h2⟩
end

/-- The law's world: an arena and a table, made since the stack's cells; the words once more. -/
theorem a_rframes {w : World} {p g : Nat} {xs : List Nat} {tp D A2 : Option Addr} {l : Fns} {n2 c2 d : Nat} {ys : List FnV} (h : In13 w A2 n2 ys) {W : World} (s : Hid (AW w p g xs tp l D W)) (hl : ∀ x ∈ vals ys, 0 ≤ x.1 ∧ x.1 ≤ 1000) (hx : Wd xs) (v : StV) (h0 : in64 v.lo) (h1 : in64 v.size) (h2 : in64 v.sp) (L : List FrV) (no : Int) (hv : wkFrames xs (vals ys) v = (L, no)) :
    Calls Tryd.prog 12 #[.slice D 256 d, .slice A2 n2 c2, stC v] W fun e w' => ∃ A c, e = .returned (.tuple #[.slice A L.length c, .int .i64 no]) ∧ Hid (AW w p g xs tp l D w') ∧ Hid (FrRow w' w'.heap.size A L.length L) ∧ Hid (Below W.heap.size W w') := by
  have c := ref_frames (c := d) (c2 := c2) s.out.2 (by omega) hx (h.at_ s.out.1.bel) (Nat.le_refl _) (by have := h.few; omega) hl v h0 h1 h2
  rw [hv] at c
  refine c.mono ?_
  rintro e w' ⟨A, k, e1, e2, e3⟩
  exact ⟨A, k, e1, hidb (s.out.step e3), hidb e2, hidb e3⟩
theorem wkOne_owns (xs : List Nat) (l : Fns) (hi a : Int) : wkOne xs (fOwns l) hi a = wkOne xs l hi a := by
  unfold wkOne; rw [frRead_owns]; simp only [fWords_owns]
theorem wkGo_owns (xs : List Nat) (l : Fns) (hi : Int) : ∀ (n : Nat) (a : Int) (acc : List FrV), wkGo xs (fOwns l) hi n a acc = wkGo xs l hi n a acc
  | 0, a, acc => rfl
  | n + 1, a, acc => by
    unfold wkGo
    rw [wkOne_owns]
    split
    · cases wkOne xs l hi a with
      | none => rfl
      | some xe => exact wkGo_owns xs l hi n xe.2 (xe.1 :: acc)
    · rfl
theorem wkFrames_owns (xs : List Nat) (l : Fns) (s : StV) : wkFrames xs (fOwns l) s = wkFrames xs l s := by
  unfold wkFrames; rw [wkGo_owns]
/-- No more frames than words. -/
theorem wkGo_len {xs : List Nat} {l : Fns} (hl : ∀ x ∈ l, 0 ≤ x.1 ∧ x.1 ≤ 1000) {hi : Int} : ∀ (n : Nat) (a : Int) (acc L : List FrV), wkGo xs l hi n a acc = some L → a ≤ hi → (L.length : Int) ≤ acc.length + (hi - a)
  | 0, a, acc, L, h, ha => by
    unfold wkGo at h
    split at h
    · cases h
    · injection h with h; subst h; omega
  | n + 1, a, acc, L, h, ha => by
    unfold wkGo at h
    split at h
    · cases hw : wkOne xs l hi a with
      | none => rw [hw] at h; cases h
      | some xe =>
        rw [hw] at h
        have hg := wkOne_good hl (x := xe.1) (e := xe.2) hw
        have := wkGo_len hl n xe.2 (xe.1 :: acc) L h hg.2.2.2.2.1
        rw [List.length_cons] at this
        omega
    · injection h with h; subst h; omega
theorem wkFrames_len {xs : List Nat} {l : Fns} (hl : ∀ x ∈ l, 0 ≤ x.1 ∧ x.1 ≤ 1000) (s : StV) (L : List FrV) (no : Int) (h : wkFrames xs l s = (L, no)) : L.length ≤ xs.length := by
  unfold wkFrames at h
  split at h
  · injection h with h; subst h; simp
  · rename_i hm
    have hf := wkGo_few (l := l) (xs := xs) (s := s) (by simpa using hm)
    split at h
    · injection h with h; subst h; simp
    · rename_i f hf2
      injection h with h
      subst h
      have := wkGo_len hl _ _ _ _ hf2 hf.2.2.2.1
      simp at this
      omega

set_option maxRecDepth 100000 in
set_option maxHeartbeats 4000000 in
theorem walkIs_any (A : Option Addr) (n c : Nat) (us : List Nat) (A2 : Option Addr) (n2 c2 : Nat) (ys : List FnV) (s : StV) (w : World) (hs : Sl w w.heap.size A n (us.map wv)) (hu : Wd us) (hm : n ≤ maxLen) (hr : FnRow w 0 w.heap.size A2 n2 ys) (hm2 : n2 ≤ maxLen) (h0 : in64 s.lo) (h1 : in64 s.size) (h2 : in64 s.sp) (ht : TabDB w) :
    Calls Tryd.prog 3 #[.slice A n c, .slice A2 n2 c2, .agg #[.int .i64 s.lo, .int .i64 s.size, .int .i64 s.sp]] w fun e w' => e = .returned (.bool true) ∧ Below w.heap.size w w' := by
  unfold maxLen at hm hm2
  obtain ⟨X, hX⟩ : ∃ X, X = w.alloc (.cells #[.int .i64 s.lo, .int .i64 s.size, .int .i64 s.sp] 25) := ⟨_, rfl⟩
  have hbX : Below w.heap.size w X := by rw [hX]; exact belF_al (Below.refl _ _) _
  have hzX : X.heap.size = w.heap.size + 1 := by rw [hX]; simp
  have HBX := hidb hbX
  have HC : Hid (∀ W, Below X.heap.size X W → W.cell? ⟨w.heap.size, 0, none⟩ = some (.int .i64 s.lo) ∧ W.cell? ⟨w.heap.size, 1, none⟩ = some (.int .i64 s.size) ∧ W.cell? ⟨w.heap.size, 2, none⟩ = some (.int .i64 s.sp)) := hidb (fun W hb => by refine ⟨?_, ?_, ?_⟩ <;> (rw [hb.cell (by show w.heap.size < _; omega), hX]; simp))
  have cg := ref_fgreat A2 n2 c2 ys 0 X.heap.size X ((hr.below hbX).more (Nat.le_refl _) hbX.size) (by omega)
  have kw0 := awake15 X (TabDB.below ht hbX)
  have HXX := hidb hX
  by_cases hbig : 256 < n
  · have hb : (256 : Int) < (n : Int) := by omega
    clear hs hr cg ht hX hbX hzX hbig
    --@1
    go_enter Tryd.func3, Tryd.ntmps3
    go_wp2_with (first
      | (go_at_call 7; rw [← HXX.out]; (with_reducible refine kw0.mono ?_); rintro e w1 ⟨rfl, hs1⟩))
    go_ret
    exact ⟨rfl, belF_tr HBX.out hs1⟩
  have hnb : ¬ ((256 : Int) < (n : Int)) := by omega
  have hn : n ≤ 256 := by omega
  cases hG : fGreat (vals ys) with
  | true =>
    rw [hG] at cg
    clear hs hr hG ht hbig hX hbX hzX
    --@2
    go_enter Tryd.func3, Tryd.ntmps3
    go_wp2_with (first
      | (go_at_call 6; rw [← HXX.out]; (with_reducible refine cg.mono ?_); rintro e w' ⟨rfl, rfl⟩)
      | (go_at_call 7; (with_reducible refine kw0.mono ?_); rintro e w1 ⟨rfl, hs1⟩))
    go_ret
    exact ⟨rfl, belF_tr HBX.out hs1⟩
  | false =>
    rw [hG] at cg
    obtain ⟨i0, hi, hz0, hz1, hz2⟩ := info_parts info_u64
    have HI : Hid (In13 X A2 n2 ys) := hidb (by have := great_in hr hG; exact ⟨(this.row.below hbX).more (Nat.le_refl _) hbX.size, this.few, this.small⟩)
    have HT := hidb (TabDB.below ht hbX)
    have HS := hidb ((hs.below hbX).more hbX.size)
    have kl := t_laid (W := X) (c := c) HS.out hn
    have hb0 : in64 0 := by unfold in64; omega
    cases hT : fTab (vals ys) with
    | false =>
      have KN : Hid (∀ W1, Below X.heap.size X W1 → Calls Tryd.prog 9 #[.slice A2 n2 c2] W1 fun e w1 => e = .returned (.tuple #[.pointer none, .int .i64 1]) ∧ Hid (Below X.heap.size X w1)) := hidb (fun W1 hb1 => by
        refine (code_fNew_no A2 n2 c2 ys 0 W1 (HI.out.at_ hb1) (by have := HI.out.few; omega) HI.out.s1 hT).mono ?_
        rintro e w' ⟨h1, h3⟩
        exact ⟨h1, hidb (belF_tr hb1 h3)⟩)
      have KS : Hid (∀ W B cB, Below X.heap.size X W → Sl W W.heap.size B 256 (frZ.map wv) → Calls Tryd.prog 10 #[.slice B 256 cB, .int .i64 0, .slice A n c] W fun e w' => ∃ D d, e = .returned (.tuple #[.slice D 256 d, .int .i64 0]) ∧ Hid (Below X.heap.size X w')) := hidb (fun W B cB hb hB => by
        have hl : us.length = n := by have := hs.1; simpa using this
        refine Calls.mono (ref_astore B A 256 cB n c frZ us 0 W hB ((HS.out.below hb).more hb.size) (by omega) (by omega) (by omega)) ?_
        rintro e w' ⟨D, d, rfl, ho, hb1⟩
        have e256 : (aStore frZ 0 us).length = 256 := frLaid_length us (by omega)
        exact ⟨D, d, by rw [e256], hidb (belF_tr hb hb1)⟩)
      have KA := fun W (s : Hid (Below X.heap.size X W)) => (awake15 W (TabDB.below HT.out s.out)).mono fun e w' h => (⟨h.1, hidb (belF_tr s.out h.2)⟩ : e = _ ∧ Hid (Below X.heap.size X w'))
      clear hs hr hG ht hbig hX hbX hzX kw0 hT HS
      --@3
      go_enter Tryd.func3, Tryd.ntmps3
      go_wp2_with (first
        | (go_at_call 6; rw [← HXX.out]; (with_reducible refine cg.mono ?_); rintro e w' ⟨rfl, rfl⟩)
        | (go_at_call 8; (with_reducible refine kl.mono ?_); rintro e w1 ⟨p, g, rfl, ha1, hb1⟩)
        | (go_at_call 9; (with_reducible refine (KN.out _ hb1).mono ?_); rintro e w2 ⟨rfl, hs2⟩)
        | (at_make; refine wpList_make_full w2 rfl _ _ 22 rfl w2.heap.size 46 i0 (.int .u64 0) 1 Tryd.underlying22 hi hz0 hz1 .i64 .i64 _ _ 256 rfl rfl (by omega) (by omega) (by rw [hz2]; omega) (by unfold maxLen; omega) (Nat.le_refl _) ?_; intro w3 hown hgrow; rw [zero_words] at hown; have hs3 := hidb (belF_tr hs2.out ((Below.refl _ _).grown hgrow (Nat.le_refl _) (fun k hk => by cases hk))); have hB3 : Hid (Sl w3 w3.heap.size (some ⟨w2.heap.size, 0, none⟩) 256 (frZ.map wv)) := hidb (Sl.of_own hown); clear hown hgrow)
        | (go_at_call 10; (with_reducible refine (KS.out _ _ _ hs3.out hB3.out).mono ?_); rintro e w4 ⟨D, d, rfl, hs4⟩)
        | (go_at_call 7; (with_reducible refine (KA _ hs4).mono ?_); rintro e w5 ⟨rfl, hs5⟩))
      go_ret
      exact ⟨rfl, belF_tr HBX.out hs5.out⟩
    | true =>
      have hsz := fTab_sizes hT
      have HSZ := hidb hsz
      have HSZ2 := hidb (fOwns_sizes hsz)
      have HU : Hid (Wd (frLaid us)) := hidb (frLaid_wd hu)
      have hul : us.length = n := by have := hs.1; simpa using this
      have hfl : (frLaid us).length = 256 := frLaid_length us (by omega)
      obtain ⟨L, no, hv⟩ : ∃ L no, wkFrames (frLaid us) (vals ys) s = (L, no) := ⟨_, _, rfl⟩
      have HLL : Hid (L.length ≤ 256) := hidb (by rw [← hfl]; exact wkFrames_len hsz s L no hv)
      have HV1 := hidb ((wkFrames_owns (frLaid us) (vals ys) s).trans hv)
      have HV := hidb hv
      obtain ⟨b, hb⟩ : ∃ b, stMay s 256 = b := ⟨_, rfl⟩
      have HBM := hidb hb
      have H0 := hidb h0
      have H1 := hidb h1
      have H2 := hidb h2
      have KN : Hid (∀ W1 p g, Below X.heap.size X W1 → Ar W1 X.heap.size p g 256 (frLaid us) → Calls Tryd.prog 9 #[.slice A2 n2 c2] W1 fun e w1 => ∃ q, e = .returned (.tuple #[.pointer (some ⟨q, 0, none⟩), .int .i64 0]) ∧ Hid (AT X w1 p g 256 (frLaid us) (some ⟨q, 0, none⟩) (fOwns (vals ys)))) := hidb (fun W1 p g hb1 ha => by
        refine (code_fNew A2 n2 c2 ys 0 W1 (HI.out.at_ hb1) (by have := HI.out.few; omega) HI.out.s1 (TabDB.below HT.out hb1) hT).mono ?_
        rintro e w' ⟨q, h1, h2, h3⟩
        exact ⟨q, h1, hidb (AT.made hb1 ha h2 h3)⟩)
      generalize fOwns (vals ys) = O at *
      have k2 := fun p g tb W s B cB hB => a_store (w := X) (p := p) (g := g) (xs := frLaid us) (tp := some ⟨tb, 0, none⟩) (l := O) (A := A) (B := B) (n := n) (c := c) (cB := cB) (us := us) (W := W) s HS.out hn hB
      have K3 : Hid (∀ p g tb D W, Hid (AW X p g (frLaid us) (some ⟨tb, 0, none⟩) O D W) → Calls Tryd.prog 11 #[.pointer (some ⟨p, 0, none⟩), .pointer (some ⟨tb, 0, none⟩), .agg #[.int .i64 s.lo, .int .i64 s.size, .int .i64 s.sp]] W fun e w' => ∃ A c, e = .returned (.tuple #[.slice A L.length c, .int .i64 no]) ∧ Hid (AW X p g (frLaid us) (some ⟨tb, 0, none⟩) O D w') ∧ Hid (FrRow w' w'.heap.size A L.length L) ∧ Hid (Below W.heap.size W w')) := hidb (fun p g tb D W st => (t_wframes (hidb st.out.1) HSZ2.out HU.out s H0.out H1.out H2.out L no HV1.out).mono fun e w' ⟨A', c', e1, e2, e3, e4⟩ => ⟨A', c', e1, hidb ⟨e2.out, (st.out.2.below e4.out).more e4.out.size⟩, e3, e4⟩)
      have K4 : Hid (∀ p g tb D d W, Hid (AW X p g (frLaid us) (some ⟨tb, 0, none⟩) O D W) → Calls Tryd.prog 12 #[.slice D 256 d, .slice A2 n2 c2, .agg #[.int .i64 s.lo, .int .i64 s.size, .int .i64 s.sp]] W fun e w' => ∃ A c, e = .returned (.tuple #[.slice A L.length c, .int .i64 no]) ∧ Hid (AW X p g (frLaid us) (some ⟨tb, 0, none⟩) O D w') ∧ Hid (FrRow w' w'.heap.size A L.length L) ∧ Hid (Below W.heap.size W w')) := hidb (fun p g tb D d W st => a_rframes HI.out st HSZ.out HU.out s H0.out H1.out H2.out L no HV.out)
      have KA : Hid (∀ p g tb D W, Hid (AW X p g (frLaid us) (some ⟨tb, 0, none⟩) O D W) → Calls Tryd.prog 7 #[] W fun e w' => e = .returned (.bool true) ∧ Below W.heap.size W w') := hidb (fun p g tb D W st => awake15 W (TabDB.below HT.out st.out.1.bel))
      have KM : Hid (∀ p g tb D W q, Hid (AW X p g (frLaid us) (some ⟨tb, 0, none⟩) O D W) → W.cell? ⟨q, 0, none⟩ = some (.int .i64 s.lo) ∧ W.cell? ⟨q, 1, none⟩ = some (.int .i64 s.size) ∧ W.cell? ⟨q, 2, none⟩ = some (.int .i64 s.sp) → Calls Tryd.prog 14 #[.pointer (some ⟨p, 0, none⟩), .slice (some ⟨q, 0, none⟩) 1 1] W fun e w' => e = .returned (.bool b) ∧ Below W.heap.size W w') := hidb (fun p g tb D W q st hq => code_wmay s q st.out.1.ar hq H0.out H1.out H2.out b HBM.out)
      have KR : Hid (∀ W, Calls Tryd.prog 15 #[.agg #[.int .i64 s.lo, .int .i64 s.size, .int .i64 s.sp], .int .i64 256] W fun e w' => e = .returned (.bool b) ∧ Below W.heap.size W w') := hidb (fun W => ref_stmay s 256 W H0.out H1.out H2.out (by omega) b HBM.out)
      have HBEL : Hid (∀ p g tb D W, Hid (AW X p g (frLaid us) (some ⟨tb, 0, none⟩) O D W) → Below X.heap.size X W) := hidb (fun p g tb D W st => st.out.1.bel)
      obtain ⟨lo, size, sp⟩ := s
      simp only at *
      clear hs hr hG ht hbig hX hbX hzX kw0 hT hsz hu hv hul hfl hb h0 h1 h2 hb0
      --@4
      go_enter Tryd.func3, Tryd.ntmps3
      go_wp2_with (first
        | (go_at_call 6; rw [← HXX.out]; (with_reducible refine cg.mono ?_); rintro e w' ⟨rfl, rfl⟩)
        | (go_at_call 8; (with_reducible refine kl.mono ?_); rintro e w1 ⟨p, g, rfl, ha1, hb1⟩)
        | (go_at_call 9; (with_reducible refine (KN.out _ _ _ hb1 ha1).mono ?_); rintro e w2 ⟨tb, rfl, hs2⟩; clear ha1 hb1)
        | (at_make; refine wpList_make_full w2 rfl _ _ 22 rfl w2.heap.size 46 i0 (.int .u64 0) 1 Tryd.underlying22 hi hz0 hz1 .i64 .i64 _ _ 256 rfl rfl (by omega) (by omega) (by rw [hz2]; omega) (by unfold maxLen; omega) (Nat.le_refl _) ?_; intro w3 hown hgrow; rw [zero_words] at hown; have hs3 := hidb (hs2.out.step ((Below.refl _ _).grown hgrow (Nat.le_refl _) (fun k hk => by cases hk))); have hB3 : Hid (Sl w3 w3.heap.size (some ⟨w2.heap.size, 0, none⟩) 256 (frZ.map wv)) := hidb (Sl.of_own hown); clear hown hgrow)
        | (go_at_call 10; (with_reducible refine (k2 _ _ _ _ hs3 _ _ hB3.out).mono ?_); rintro e w4 ⟨D, d, rfl, hs4, hD4⟩; have st4 := hidb (show AW X p g (frLaid us) (some ⟨tb, 0, none⟩) O D w4 from ⟨hs4.out, hD4.out⟩); obtain ⟨c0, c1, c2⟩ := HC.out w4 hs4.out.bel)
        | (go_at_call 11; (with_reducible refine (K3.out _ _ _ _ _ st4).mono ?_); rintro e w5 ⟨G, kG, rfl, st5, hG5, hb5⟩; obtain ⟨d0, d1, d2⟩ := HC.out w5 (HBEL.out _ _ _ _ _ st5))
        | (go_at_call 12; (with_reducible refine (K4.out _ _ _ _ _ _ st5).mono ?_); rintro e w6 ⟨Q, kQ, rfl, st6, hQ6, hb6⟩; have HC6 := hidb (HC.out w6 (HBEL.out _ _ _ _ _ st6))))
      have HX6 := hidb (HBEL.out _ _ _ _ _ st6)
      have HCW : Hid (∀ W, Below w6.heap.size w6 W → W.cell? ⟨w.heap.size, 0, none⟩ = some (.int .i64 lo) ∧ W.cell? ⟨w.heap.size, 1, none⟩ = some (.int .i64 size) ∧ W.cell? ⟨w.heap.size, 2, none⟩ = some (.int .i64 sp)) := hidb (fun W hb => HC.out W (belF_tr HX6.out hb))
      have KSm : Hid (∀ W, Below w6.heap.size w6 W → Calls Tryd.prog 13 #[.slice G L.length kG, .slice Q L.length kQ] W fun e w' => e = .returned (.bool true) ∧ Below W.heap.size W w') := hidb (fun W hb => by
        have hll := HLL.out
        have h := ref_frsame G Q L.length kG L.length kQ L L W w5.heap.size w6.heap.size (hG5.out.below ((belF_tr hb6.out hb).mono (Nat.le_refl _))) (hQ6.out.below hb) (by omega) (by omega)
        rw [decide_eq_true (rfl : L = L)] at h
        exact h.mono fun e w' h => ⟨h.1, by obtain ⟨q, h2⟩ := h.2; rw [h2]; exact belowN (Below.refl _ _) q⟩)
      have KMq : Hid (∀ W q, Below w6.heap.size w6 W → W.cell? ⟨q, 0, none⟩ = some (.int .i64 lo) ∧ W.cell? ⟨q, 1, none⟩ = some (.int .i64 size) ∧ W.cell? ⟨q, 2, none⟩ = some (.int .i64 sp) → Calls Tryd.prog 14 #[.pointer (some ⟨p, 0, none⟩), .slice (some ⟨q, 0, none⟩) 1 1] W fun e w' => e = .returned (.bool b) ∧ Below W.heap.size W w') := hidb (fun W q hb hq => KM.out _ _ _ _ W q (hidb (st6.out.step hb)) hq)
      have KM0 : Hid (∀ W, Calls Tryd.prog 14 #[.pointer (some ⟨p, 0, none⟩), .slice none 0 0] W fun e w' => e = .returned (.bool true) ∧ Below W.heap.size W w') := hidb (fun W => code_wmay0 _ W)
      have KAw : Hid (∀ W, Below w6.heap.size w6 W → Calls Tryd.prog 7 #[] W fun e w' => e = .returned (.bool true) ∧ Below W.heap.size W w') := hidb (fun W hb => KA.out _ _ _ _ W (hidb (st6.out.step hb)))
      have e0 : (no == no) = true := by simp
      have e1 : (b == b) = true := by simp
      clear c0 c1 c2 d0 d1 d2 cg kl k2
      (first | go_region_held3 (fun W => W.cell? ⟨w.heap.size, 0, none⟩ = some (.int .i64 lo) ∧ W.cell? ⟨w.heap.size, 1, none⟩ = some (.int .i64 size) ∧ W.cell? ⟨w.heap.size, 2, none⟩ = some (.int .i64 sp))
        (first | ((with_reducible refine HCW.out _ ?_); (repeat (first | with_reducible exact Below.refl _ _ | with_reducible exact Hid.out (by assumption) | with_reducible apply belF_al | with_reducible apply belF_dr)); done) | (go_keep; done))
        (first
          | (go_at_call 13; (with_reducible refine (KSm.out _ (by (repeat (first | with_reducible exact Below.refl _ _ | with_reducible exact Hid.out (by assumption) | with_reducible apply belF_al | with_reducible apply belF_dr)))).mono ?_); rintro e u1 ⟨rfl, hv1⟩; have HV1 : Hid (Below w6.heap.size w6 u1) := hidb (belF_tr (by (repeat (first | with_reducible exact Below.refl _ _ | with_reducible exact Hid.out (by assumption) | with_reducible apply belF_al | with_reducible apply belF_dr))) hv1); have hcu1 := HCW.out u1 HV1.out; clear hv1)
          | (go_at_call 14; (with_reducible refine (KM0.out _).mono ?_); rintro e u4 ⟨rfl, hv4⟩; have HV4 : Hid (Below w6.heap.size w6 u4) := hidb (belF_tr (by (repeat (first | with_reducible exact Below.refl _ _ | with_reducible exact Hid.out (by assumption) | with_reducible apply belF_al | with_reducible apply belF_dr))) hv4); have hcu4 := HCW.out u4 HV4.out; clear hv4)
          | (go_at_call 14; (with_reducible refine (KMq.out _ _ (by (repeat (first | with_reducible exact Below.refl _ _ | with_reducible exact Hid.out (by assumption) | with_reducible apply belF_al | with_reducible apply belF_dr))) (by refine ⟨?_, ?_, ?_⟩ <;> simp)).mono ?_); rintro e u2 ⟨rfl, hv2⟩; have HV2 : Hid (Below w6.heap.size w6 u2) := hidb (belF_tr (by (repeat (first | with_reducible exact Below.refl _ _ | with_reducible exact Hid.out (by assumption) | with_reducible apply belF_al | with_reducible apply belF_dr))) hv2); have hcu2 := HCW.out u2 HV2.out; clear hv2)
          | (go_at_call 15; (with_reducible refine (KR.out _).mono ?_); rintro e u3 ⟨rfl, hv3⟩; have HV3 : Hid (Below w6.heap.size w6 u3) := hidb (belF_tr (by (repeat (first | with_reducible exact Below.refl _ _ | with_reducible exact Hid.out (by assumption) | with_reducible apply belF_al | with_reducible apply belF_dr))) hv3); have hcu3 := HCW.out u3 HV3.out; clear hv3)
          | (go_at_call 7; (with_reducible refine (KAw.out _ (by (repeat (first | with_reducible exact Below.refl _ _ | with_reducible exact Hid.out (by assumption) | with_reducible apply belF_al | with_reducible apply belF_dr)))).mono ?_); rintro e u5 ⟨rfl, hv5⟩; have HV5 : Hid (Below w6.heap.size w6 u5) := hidb (belF_tr (by (repeat (first | with_reducible exact Below.refl _ _ | with_reducible exact Hid.out (by assumption) | with_reducible apply belF_al | with_reducible apply belF_dr))) hv5); have hcu5 := HCW.out u5 HV5.out; clear hv5)) | fail)
      all_goals go_wp2
      all_goals go_ret
      all_goals exact ⟨rfl, belF_tr HBX.out (belF_tr HX6.out HV5.out)⟩
end Go.Proofs.YtclgknlolgcpoaaDoor
