/- Layer 13's statement FnsJoins. -/
import Derived.Test.YtieknifbmamdaaaDoorFnsTells
namespace Go.Proofs.YtieknifbmamdaaaDoor
open Go.RowKit
set_option linter.unusedVariables false

theorem getD_app_right {α : Type} (a b : List α) (k : Nat) (d : α) : (a ++ b).getD (a.length + k) d = b.getD k d := by
  rw [List.getD_eq_getElem?_getD, List.getElem?_append_right (by omega), show a.length + k - a.length = k by omega, ← List.getD_eq_getElem?_getD]
theorem fSize_right (a b : Fns) (f : Int) (h0 : 0 ≤ f) (h1 : f < b.length) : fSize (a ++ b) (a.length + f) = fSize b f := by
  unfold fSize
  rw [List.length_append, if_neg (by omega), if_neg (by omega), show ((a.length : Int) + f).toNat = a.length + f.toNat by omega, getD_app_right]
theorem fPtr_right (a b : Fns) (f i : Int) (h0 : 0 ≤ f) (h1 : f < b.length) : fPtr (a ++ b) (a.length + f) i = fPtr b f i := by
  unfold fPtr
  rw [List.length_append, if_neg (by omega), if_neg (by omega), show ((a.length : Int) + f).toNat = a.length + f.toNat by omega, getD_app_right]
theorem fSize_first (a b : Fns) (h : 1 ≤ a.length) : fSize (a ++ b) 0 = fSize a 0 := by
  cases a with
  | nil => simp at h
  | cons x l =>
    unfold fSize
    rw [if_neg (by first | (simp; done) | (simp; omega)), if_neg (by first | (simp; done) | (simp; omega))]
    rfl
theorem fWords_first (a b : Fns) (h : 1 ≤ a.length) : fWords (a ++ b) 0 = fWords a 0 := by unfold fWords; rw [fSize_first a b h]
theorem fLeast_from (l : Fns) : ∀ m : Int, 0 ≤ m → l.foldl (fun m f => if fMay f.1 f.2 then max m (f.1 + 2) else m) m = max m (fLeast l) := by
  induction l with
  | nil => intro m hm; unfold fLeast; simp; omega
  | cons x l ih =>
    intro m hm
    have e : fLeast (x :: l) = l.foldl (fun m f => if fMay f.1 f.2 then max m (f.1 + 2) else m) (if fMay x.1 x.2 then max 0 (x.1 + 2) else 0) := rfl
    rw [e, List.foldl_cons]
    cases hx : fMay x.1 x.2 with
    | false => simp only [Bool.false_eq_true, if_false]; rw [ih m hm, ih 0 (by omega)]; have := fLeast_range l; omega
    | true =>
      have := fMay_size hx
      simp only [if_true]
      rw [ih _ (by omega), ih _ (by omega)]
      omega
theorem fLeast_app (a b : Fns) : fLeast (a ++ b) = max (fLeast a) (fLeast b) := by
  have : fLeast (a ++ b) = b.foldl (fun m f => if fMay f.1 f.2 then max m (f.1 + 2) else m) (fLeast a) := by unfold fLeast; rw [List.foldl_append]
  rw [this, fLeast_from b _ (fLeast_range a).1]
theorem fLeast_owns : ∀ (l : Fns), fAll l = true → fLeast (fOwns l) = fLeast l
  | [], _ => rfl
  | x :: l, h => by
    have hx : fMay x.1 x.2 = true := fAll_at h 0 x rfl
    have hl : fAll l = true := by unfold fAll at h ⊢; rw [List.all_cons, Bool.and_eq_true] at h; exact h.2
    have ih := fLeast_owns l hl
    have e1 := fLeast_app [x] l
    have e2 := fLeast_app [(x.1, fOwn x.1 x.2)] (fOwns l)
    have e3 : fLeast [(x.1, fOwn x.1 x.2)] = fLeast [x] := by
      unfold fLeast
      simp only [List.foldl_cons, List.foldl_nil]
      rw [hx, fMay_own hx]
    have e4 : fOwns (x :: l) = [(x.1, fOwn x.1 x.2)] ++ fOwns l := rfl
    have e5 : x :: l = [x] ++ l := rfl
    rw [e4, e2, e3, ih, e5, e1]
theorem fAll_app (a b : Fns) : fAll (a ++ b) = (fAll a && fAll b) := by unfold fAll; rw [List.all_append]
theorem fOwns_app (a b : Fns) : fOwns (a ++ b) = fOwns a ++ fOwns b := by unfold fOwns; rw [List.map_append]
theorem vals_app (a b : List FnV) : vals (a ++ b) = vals a ++ vals b := by unfold vals; rw [List.map_append]

theorem FnRow.cellsAt {w : World} {lo hi n : Nat} {A : Option Addr} {ys : List FnV} (h : FnRow w lo hi A n ys) : CellsAt w A (cellsAll fcells ys) := fun ad e j u hj => by
  have hlen := cellsAll_length fcells_len ys
  have hl := h.len
  have hjl : j < ys.length * 2 := by rw [← hlen]; exact (List.getElem?_eq_some_iff.1 hj).1
  obtain ⟨b, off, y, e2, _, hy, hc0, hc1, _⟩ := h.at_ (j := j / 2) (by omega)
  rw [e] at e2
  obtain rfl := Option.some.inj e2
  rw [Go.WideShapes.add_plain]
  have h2 := cellsAll_at fcells_len ys (j / 2) y hy
  rcases Nat.mod_two_eq_zero_or_one j with hm | hm
  · have h3 := h2 0 (by omega)
    rw [show j / 2 * 2 + 0 = j by omega, hj] at h3
    have e3 : off + j = off + j / 2 * 2 := by omega
    rw [h3, e3]; exact hc0
  · have h3 := h2 1 (by omega)
    rw [show j / 2 * 2 + 1 = j by omega, hj] at h3
    have e3 : off + j = off + j / 2 * 2 + 1 := by omega
    rw [h3, e3]; exact hc1
/-- Three tables that a law has made. -/
def S3 (w : World) (p q r : Option Addr) (a b c : Fns) (W : World) : Prop := S13 w W p a ∧ S13 w W q b ∧ S13 w W r c
section
variable {w : World} {p q r : Option Addr} {a b c : Fns}
theorem S3.step {W W' : World} (h : S3 w p q r a b c W) (hb : Below W.heap.size W W') : S3 w p q r a b c W' := ⟨h.1.step hb, h.2.1.step hb, h.2.2.step hb⟩
theorem stab_1 : Stab w p a (S3 w p q r a b c) := ⟨fun _ h => h.1, fun _ _ h hb => h.step hb⟩
theorem stab_2 : Stab w q b (S3 w p q r a b c) := ⟨fun _ h => h.2.1, fun _ _ h hb => h.step hb⟩
theorem stab_3 : Stab w r c (S3 w p q r a b c) := ⟨fun _ h => h.2.2, fun _ _ h hb => h.step hb⟩
end
section
variable {w : World} {p : Option Addr} {l : Fns} {St : World → Prop} {A : Option Addr} {n c : Nat} {ys : List FnV}
theorem g_flen (k : Stab w p l St) (W : World) (s : Hid (St W)) (m : Nat) (hm : l.length = m) : Calls Tryd.prog 14 #[.pointer p] W fun e w' => e = .returned (.int .i64 (m : Int)) ∧ Hid (St w') := by
  obtain ⟨_, lo, hi, h2, _⟩ := k.get _ s.out
  rw [← hm]
  exact (code_flen h2).mono fun e w' ⟨h1, h3⟩ => ⟨h1, by rw [← h3]; exact s⟩
theorem g_fLeast (k : Stab w p l St) (h : In13 w A n ys) (W : World) (s : Hid (St W)) (r : Int) (hr : fLeast (vals ys) = r) :
    Calls Tryd.prog 12 #[.slice A n c] W fun e w' => e = .returned (.int .i64 r) ∧ Hid (St w') := by
  rw [← hr]
  exact (code_fLeast A n c ys 0 W (h.at_ (k.get _ s.out).bel) (by have := h.few; omega) h.s1).mono fun e w' ⟨h1, h2⟩ => ⟨h1, hidb (k.step _ _ s.out h2)⟩
theorem g_fLeastT (k : Stab w p l St) {B : Option Addr} {m d lo : Nat} {us : List FnV} {l' : Fns} (W : World) (s : Hid (St W)) (hz : Hid (FnRow W lo W.heap.size B m us ∧ (∀ y ∈ us, y.n ≤ 1000) ∧ vals us = l')) (hm : m ≤ 1000) (r : Int) (hr : fLeast l' = r) :
    Calls Tryd.prog 12 #[.slice B m d] W fun e w' => e = .returned (.int .i64 r) ∧ Hid (St w') := by
  obtain ⟨z1, z2, z3⟩ := hz.out
  rw [← hr, ← z3]
  exact (code_fLeast B m d us lo W z1 hm z2).mono fun e w' ⟨h1, h2⟩ => ⟨h1, hidb (k.step _ _ s.out h2)⟩
theorem g_fFns (ht : TabDB w) {b : Nat} (k : Stab w (some ⟨b, 0, none⟩) l St) (W : World) (s : Hid (St W)) (l' : Fns) (hl : fOwns l = l') :
    Calls Tryd.prog 16 #[.pointer (some ⟨b, 0, none⟩)] W fun e w' => ∃ A c ys, e = .returned (.slice A l'.length c) ∧ Hid (St w') ∧ Hid (FnRow w' W.heap.size w'.heap.size A l'.length ys ∧ (∀ y ∈ ys, y.n ≤ 1000) ∧ vals ys = l') := by
  obtain ⟨hb, lo, hi, h2, h3, h4⟩ := k.get _ s.out
  rcases h2 with ⟨e, _⟩ | ⟨b2, e, h2⟩
  · cases e
  · injection e with e
    injection e with e
    subst e
    rw [← hl]
    refine (code_fFns h2 h3 (TabDB.below ht hb)).mono ?_
    rintro e w' ⟨A, c, ys, rfl, hr, hv⟩
    have hn : ys.length = (fOwns l).length := by rw [← hv, vals_length]
    exact ⟨A, c, ys, rfl, hidb (k.step _ _ s.out hr.bel), hidb ⟨(hr.fit hn (fOwns_short l) hv).1, (hr.fit hn (fOwns_short l) hv).2, hv⟩⟩
theorem g_fNew (ht : TabDB w) (k : Stab w p l St) {B : Option Addr} {m d : Nat} {us : List FnV} (W : World) (s : Hid (St W)) (hz : Hid (FnRow W 0 W.heap.size B m us ∧ ∀ y ∈ us, y.n ≤ 1000)) (hm : m ≤ 1000) (hr : fTab (vals us) = true) :
    Calls Tryd.prog 10 #[.slice B m d] W fun e w' => ∃ b, e = .returned (.tuple #[.pointer (some ⟨b, 0, none⟩), .int .i64 0]) ∧ Hid (St w' ∧ S13 w w' (some ⟨b, 0, none⟩) (fOwns (vals us))) := by
  have hbel := (k.get _ s.out).bel
  refine (code_fNew B m d us 0 W hz.out.1 hm hz.out.2 (TabDB.below ht hbel) hr).mono ?_
  rintro e w' ⟨b, h1, h2, h3⟩
  exact ⟨b, h1, hidb ⟨k.step _ _ s.out h3, hbel.trans (h3.mono hbel.size), _, _, h2.o, Nat.le_refl _, hbel.size⟩⟩
theorem g_fNew_no (k : Stab w p l St) {B : Option Addr} {m d : Nat} {us : List FnV} (W : World) (s : Hid (St W)) (hz : Hid (FnRow W 0 W.heap.size B m us ∧ ∀ y ∈ us, y.n ≤ 1000)) (hm : m ≤ 1000) (hr : fTab (vals us) = false) :
    Calls Tryd.prog 10 #[.slice B m d] W fun e w' => e = .returned (.tuple #[.pointer none, .int .i64 1]) ∧ Hid (St w') :=
  (code_fNew_no B m d us 0 W hz.out.1 hm hz.out.2 hr).mono fun e w' ⟨h1, h3⟩ => ⟨h1, hidb (k.step _ _ s.out h3)⟩
end
/-- The functions of two rows, in one row of the law's own. -/
theorem join_row {w W : World} {A B D : Option Addr} {n m d : Nat} {ya yb : List FnV} (ha : In13 w A n ya) (hb : In13 w B m yb) (hW : Below w.heap.size w W) (ho : W.ownsRow w.heap.size 28 2 (.slice D (n + m) d) (n + m) (cellsAll fcells ya ++ cellsAll fcells yb)) :
    FnRow W 0 W.heap.size D (n + m) (ya ++ yb) ∧ ∀ y ∈ ya ++ yb, y.n ≤ 1000 := by
  have hla := ha.row.len
  have hlb := hb.row.len
  rw [← cellsAll_append] at ho
  refine ⟨⟨RowOf.of_own fcells_len ho (by rw [List.length_append]; omega), fun _ _ _ => Nat.zero_le _, fun y hy => ?_⟩, fun y hy => ?_⟩
  · rcases List.mem_append.1 hy with hy | hy
    · exact ((ha.row.fns y hy).below hW).more (Nat.le_refl _) hW.size
    · exact ((hb.row.fns y hy).below hW).more (Nat.le_refl _) hW.size
  · rcases List.mem_append.1 hy with hy | hy
    · exact ha.s1 y hy
    · exact hb.s1 y hy

set_option maxRecDepth 100000 in
set_option maxHeartbeats 8000000 in
theorem fnsJoins_any (A B : Option Addr) (n m c d : Nat) (ya yb : List FnV) (f i : Int) (w : World) (ha : FnRow w 0 w.heap.size A n ya) (hb : FnRow w 0 w.heap.size B m yb) (hn : n ≤ maxLen) (hm : m ≤ maxLen) (hf : in64 f) (hi : in64 i) (ht : TabDB w) :
    Calls Tryd.prog 6 #[.slice A n c, .slice B m d, .int .i64 f, .int .i64 i] w fun e w' => e = .returned (.bool true) ∧ Below w.heap.size w w' := by
  unfold maxLen at hn hm
  have ca := ref_fgreat A n c ya 0 _ w ha (by omega)
  have cb := ref_fgreat B m d yb 0 _ w hb (by omega)
  have cw := awake13 w ht
  by_cases hbad : fGreat (vals ya) = true ∨ fGreat (vals yb) = true ∨ n < 1 ∨ 50 < n ∨ 50 < m ∨ f < 0 ∨ (m : Int) ≤ f
  · obtain ⟨ga, hga⟩ : ∃ ga, fGreat (vals ya) = ga := ⟨_, rfl⟩
    obtain ⟨gb, hgb⟩ : ∃ gb, fGreat (vals yb) = gb := ⟨_, rfl⟩
    rw [hga] at ca hbad
    rw [hgb] at cb hbad
    clear ha hb hf hi hga hgb
    have dn1 : (decide ((n : Int) < 1)) = decide (n < 1) := by rw [decide_eq_decide]; omega
    cases ga with
    | true =>
      clear hbad dn1
      go_enter Tryd.func6, Tryd.ntmps6
      go_wp2_with (first
        | (go_at_call 7; (with_reducible refine ca.mono ?_); rintro e w' ⟨rfl, rfl⟩)
        | (go_at_call 8; (with_reducible refine cw.mono ?_); rintro e w1 ⟨rfl, hb⟩))
      go_ret
      exact ⟨rfl, hb⟩
    | false =>
      cases gb with
      | true =>
        clear hbad dn1
        go_enter Tryd.func6, Tryd.ntmps6
        go_wp2_with (first
          | (go_at_call 7; (with_reducible refine ca.mono ?_); rintro e w' ⟨rfl, rfl⟩)
          | (go_at_call 7; (with_reducible refine cb.mono ?_); rintro e w' ⟨rfl, rfl⟩)
          | (go_at_call 8; (with_reducible refine cw.mono ?_); rintro e w1 ⟨rfl, hb⟩))
        go_ret
        exact ⟨rfl, hb⟩
      | false =>
        have hbad : n < 1 ∨ 50 < n ∨ 50 < m ∨ f < 0 ∨ (m : Int) ≤ f := by simpa using hbad
        clear dn1
        by_cases g1 : n < 1
        · obtain rfl : n = 0 := by omega
          clear hbad
          go_enter Tryd.func6, Tryd.ntmps6
          go_wp2_with (first
            | (go_at_call 7; (with_reducible refine ca.mono ?_); rintro e w' ⟨rfl, rfl⟩)
            | (go_at_call 7; (with_reducible refine cb.mono ?_); rintro e w' ⟨rfl, rfl⟩)
            | (go_at_call 8; (with_reducible refine cw.mono ?_); rintro e w1 ⟨rfl, hb⟩))
          go_ret
          exact ⟨rfl, hb⟩
        · have d1 : (1 : Int) ≤ (n : Int) := by omega
          by_cases g2 : 50 < n
          · have d2 : (50 : Int) < (n : Int) := by omega
            clear hbad
            go_enter Tryd.func6, Tryd.ntmps6
            go_wp2_with (first
              | (go_at_call 7; (with_reducible refine ca.mono ?_); rintro e w' ⟨rfl, rfl⟩)
              | (go_at_call 7; (with_reducible refine cb.mono ?_); rintro e w' ⟨rfl, rfl⟩)
              | (go_at_call 8; (with_reducible refine cw.mono ?_); rintro e w1 ⟨rfl, hb⟩))
            go_ret
            exact ⟨rfl, hb⟩
          · have d2 : ¬ (50 : Int) < (n : Int) := by omega
            by_cases g3 : 50 < m
            · have d3 : (50 : Int) < (m : Int) := by omega
              clear hbad
              go_enter Tryd.func6, Tryd.ntmps6
              go_wp2_with (first
                | (go_at_call 7; (with_reducible refine ca.mono ?_); rintro e w' ⟨rfl, rfl⟩)
                | (go_at_call 7; (with_reducible refine cb.mono ?_); rintro e w' ⟨rfl, rfl⟩)
                | (go_at_call 8; (with_reducible refine cw.mono ?_); rintro e w1 ⟨rfl, hb⟩))
              go_ret
              exact ⟨rfl, hb⟩
            · have d3 : ¬ (50 : Int) < (m : Int) := by omega
              by_cases g4 : f < 0
              · clear hbad
                go_enter Tryd.func6, Tryd.ntmps6
                go_wp2_with (first
                  | (go_at_call 7; (with_reducible refine ca.mono ?_); rintro e w' ⟨rfl, rfl⟩)
                  | (go_at_call 7; (with_reducible refine cb.mono ?_); rintro e w' ⟨rfl, rfl⟩)
                  | (go_at_call 8; (with_reducible refine cw.mono ?_); rintro e w1 ⟨rfl, hb⟩))
                go_ret
                exact ⟨rfl, hb⟩
              · have g5 : (m : Int) ≤ f := by omega
                clear hbad
                go_enter Tryd.func6, Tryd.ntmps6
                go_wp2_with (first
                  | (go_at_call 7; (with_reducible refine ca.mono ?_); rintro e w' ⟨rfl, rfl⟩)
                  | (go_at_call 7; (with_reducible refine cb.mono ?_); rintro e w' ⟨rfl, rfl⟩)
                  | (go_at_call 8; (with_reducible refine cw.mono ?_); rintro e w1 ⟨rfl, hb⟩))
                go_ret
                exact ⟨rfl, hb⟩
  · have hGa : fGreat (vals ya) = false := by
      cases h : fGreat (vals ya) with
      | false => rfl
      | true => exact absurd (Or.inl h) hbad
    have hGb : fGreat (vals yb) = false := by
      cases h : fGreat (vals yb) with
      | false => rfl
      | true => exact absurd (Or.inr (Or.inl h)) hbad
    rw [hGa] at ca
    rw [hGb] at cb
    have hI : n ≥ 1 ∧ n ≤ 50 ∧ m ≤ 50 ∧ 0 ≤ f ∧ f < m := by
      have : ¬ (n < 1 ∨ 50 < n ∨ 50 < m ∨ f < 0 ∨ (m : Int) ≤ f) := fun h => hbad (Or.inr (Or.inr h))
      omega
    obtain ⟨i1, i2, i3, i4, i5⟩ := hI
    have HA := hidb (great_in ha hGa)
    have HB := hidb (great_in hb hGb)
    have hla := ha.len
    have hlb := hb.len
    have HCA := hidb ha.cellsAt
    have HCB := hidb hb.cellsAt
    have nA : A ≠ none := fun e => by
      obtain ⟨b, off, y, e2, _⟩ := ha.at_ (j := 0) (by omega)
      rw [e] at e2; cases e2
    have nB : B ≠ none := fun e => by
      obtain ⟨b, off, y, e2, _⟩ := hb.at_ (j := 0) (by omega)
      rw [e] at e2; cases e2
    have hla2 : (vals ya).length = n := by rw [vals_length, hla]
    have hlb2 : (vals yb).length = m := by rw [vals_length, hlb]
    have HXA : Hid (∀ W, Below w.heap.size w W → CellsAt W A (cellsAll fcells ya)) := hidb (fun W hW => HCA.out.below hW (fun ad e => by
      obtain ⟨b, off, y, e2, hb2, _⟩ := ha.at_ (j := 0) (by omega)
      rw [e] at e2; injection e2 with e2; rw [e2]; exact hb2))
    have HXB : Hid (∀ W, Below w.heap.size w W → CellsAt W B (cellsAll fcells yb)) := hidb (fun W hW => HCB.out.below hW (fun ad e => by
      obtain ⟨b, off, y, e2, hb2, _⟩ := hb.at_ (j := 0) (by omega)
      rw [e] at e2; injection e2 with e2; rw [e2]; exact hb2))
    have HLA : Hid ((cellsAll fcells ya).length = n * 2) := hidb (by rw [cellsAll_length fcells_len, hla])
    have HLB : Hid ((cellsAll fcells yb).length = m * 2) := hidb (by rw [cellsAll_length fcells_len, hlb])
    have HOA := hidb (fcells_one ya)
    have HOB := hidb (fcells_one yb)
    have HT := hidb ht
    have hs0 := hidb (S13.start w)
    obtain ⟨i0, hi0, hz0, hz1, hz2⟩ := info_parts info_fn
    have app1 : ∀ {W w6 : World} {A6 : Option Addr} {c6 : Nat}, w6.ownsRow W.heap.size 28 2 (.slice A6 n c6) n (cellsAll fcells ya) → (W.alloc (.cells #[] 28)).grownBy w6 (Value.slice (some ⟨W.heap.size, 0, none⟩) 0 0).ownBlock → w6.ownsRow W.heap.size 28 2 (.slice A6 n c6) n (cellsAll fcells ya) ∧ Below W.heap.size W w6 := fun {W w6 A6 c6} h1 h2 =>
      ⟨h1, (belF_al (Below.refl _ _) _).grown h2 (by simp) (fun k hk => own_ge hk (Nat.le_refl _))⟩
    have app2 : ∀ {W w6 w7 : World} {A6 A7 : Option Addr} {c6 c7 : Nat}, w6.ownsRow W.heap.size 28 2 (.slice A6 n c6) n (cellsAll fcells ya) → Below W.heap.size W w6 → w7.ownsRow W.heap.size 28 2 (.slice A7 (n + m) c7) (n + m) (cellsAll fcells ya ++ cellsAll fcells yb) → w6.grownBy w7 (Value.slice A6 n c6).ownBlock → Below W.heap.size W w7 ∧ (Below w.heap.size w W → FnRow w7 0 w7.heap.size A7 (n + m) (ya ++ yb) ∧ ∀ y ∈ ya ++ yb, y.n ≤ 1000) := fun {W w6 w7 A6 A7 c6 c7} h0 hb6 h1 h2 => by
      have hb7 := hb6.grown h2 hb6.size (fun k hk => (h0.lt k hk).1)
      exact ⟨hb7, fun hW => join_row HA.out HB.out (hW.trans (hb7.mono hW.size)) (h1.mono hW.size)⟩
    have HQ2 : Hid (∀ W X, Below w.heap.size w W → Below W.heap.size W X → Below w.heap.size w X) := hidb (fun W X h1 h2 => h1.trans (h2.mono h1.size))
    have kw := fun W p l sW => t_awake13 HT.out W p l sW
    cases hTa : fTab (vals ya) with
    | true =>
      have k1 := fun W p l sW => t_fNew (c := c) HA.out HT.out W p l sW hTa
      have haa : fAll (vals ya) = true := by unfold fTab at hTa; rw [Bool.and_eq_true] at hTa; exact hTa.1
      cases hTb : fTab (vals yb) with
      | true =>
        have hab : fAll (vals yb) = true := by unfold fTab at hTb; rw [Bool.and_eq_true] at hTb; exact hTb.1
        have hTc : fTab (vals (ya ++ yb)) = true := by unfold fTab; rw [vals_app, fAll_app, haa, hab, List.length_append, hla2, hlb2]; simp; omega
        have hac : fAll (vals (ya ++ yb)) = true := by rw [vals_app, fAll_app, haa, hab]; rfl
        have hlc : (vals (ya ++ yb)).length = n + m := by rw [vals_app, List.length_append, hla2, hlb2]
        have k2 := fun W p l (sW : Hid (S13 w W p l)) => g_fNew (d := d) HT.out (stab_self w p l) W sW (hidb ⟨HB.out.at_ sW.out.bel, HB.out.s1⟩) (by omega) hTb
        have k3 : ∀ (W2 W7 : World) (pa pb : Option Addr) (A7 : Option Addr) (c7 : Nat), Hid (S13 w W2 pa (fOwns (vals ya)) ∧ S13 w W2 pb (fOwns (vals yb))) → Hid (Below W2.heap.size W2 W7 ∧ (Below w.heap.size w W2 → FnRow W7 0 W7.heap.size A7 (n + m) (ya ++ yb) ∧ ∀ y ∈ ya ++ yb, y.n ≤ 1000)) → Calls Tryd.prog 10 #[.slice A7 (n + m) c7] W7 fun e w' => ∃ b, e = .returned (.tuple #[.pointer (some ⟨b, 0, none⟩), .int .i64 0]) ∧ Hid (S3 w pa pb (some ⟨b, 0, none⟩) (fOwns (vals ya)) (fOwns (vals yb)) (fOwns (vals (ya ++ yb))) w') := fun W2 W7 pa pb A7 c7 h1 h2 => by
          have h3 := HQ2.out _ _ h1.out.1.bel h2.out.1
          refine (code_fNew A7 (n + m) c7 _ 0 W7 (h2.out.2 h1.out.1.bel).1 (by omega) (h2.out.2 h1.out.1.bel).2 (TabDB.below HT.out h3) hTc).mono ?_
          rintro e w' ⟨b, q1, q2, q3⟩
          have q4 : Below W2.heap.size W2 w' := h2.out.1.trans (q3.mono h2.out.1.size)
          exact ⟨b, q1, hidb ⟨h1.out.1.step q4, h1.out.2.step q4, h3.trans (q3.mono h3.size), _, _, q2.o, Nat.le_refl _, h3.size⟩⟩
        have S1 := fun pa pb pc => stab_1 (w := w) (p := pa) (q := pb) (r := pc) (a := fOwns (vals ya)) (b := fOwns (vals yb)) (c := fOwns (vals (ya ++ yb)))
        have S2 := fun pa pb pc => stab_2 (w := w) (p := pa) (q := pb) (r := pc) (a := fOwns (vals ya)) (b := fOwns (vals yb)) (c := fOwns (vals (ya ++ yb)))
        have S3' := fun pa pb pc => stab_3 (w := w) (p := pa) (q := pb) (r := pc) (a := fOwns (vals ya)) (b := fOwns (vals yb)) (c := fOwns (vals (ya ++ yb)))
        have ec : vals (ya ++ yb) = vals ya ++ vals yb := vals_app ya yb
        have la := hidb (show (fOwns (vals ya)).length = n by rw [fOwns_length, hla2])
        have lb := hidb (show (fOwns (vals yb)).length = m by rw [fOwns_length, hlb2])
        have lc := hidb (show (fOwns (vals (ya ++ yb))).length = n + m by rw [fOwns_length, hlc])
        obtain ⟨z, hz⟩ : ∃ z, fSize (fOwns (vals yb)) f = z := ⟨_, rfl⟩
        obtain ⟨pt, hpt⟩ : ∃ pt, fPtr (fOwns (vals yb)) f i = pt := ⟨_, rfl⟩
        obtain ⟨wd, hwd⟩ : ∃ wd, fWords (fOwns (vals ya)) 0 = wd := ⟨_, rfl⟩
        have zc : fSize (fOwns (vals (ya ++ yb))) ((n : Int) + f) = z := by rw [ec, fOwns_app, ← la.out, fSize_right _ _ f i4 (by rw [lb.out]; exact i5)]; exact hz
        have pc : fPtr (fOwns (vals (ya ++ yb))) ((n : Int) + f) i = pt := by rw [ec, fOwns_app, ← la.out, fPtr_right _ _ f i i4 (by rw [lb.out]; exact i5)]; exact hpt
        have wc : fWords (fOwns (vals (ya ++ yb))) 0 = wd := by rw [ec, fOwns_app, fWords_first _ _ (by rw [la.out]; exact i1)]; exact hwd
        obtain ⟨ra, hra⟩ : ∃ ra, fLeast (vals ya) = ra := ⟨_, rfl⟩
        obtain ⟨rb, hrb⟩ : ∃ rb, fLeast (vals yb) = rb := ⟨_, rfl⟩
        have rc : fLeast (fOwns (vals (ya ++ yb))) = max ra rb := by rw [fLeast_owns _ hac, ec, fLeast_app, hra, hrb]
        have rra := fLeast_range (vals ya)
        have rrb := fLeast_range (vals yb)
        rw [hra] at rra
        rw [hrb] at rrb
        have sza := fOwns_sizes (fTab_sizes hTa)
        have szc := fOwns_sizes (fTab_sizes hTc)
        have q1 := fun pa pb pc W sW => g_flen (S3' pa pb pc) W sW (n + m) lc.out
        have q2 := fun pa pb pc W sW => g_flen (S1 pa pb pc) W sW n la.out
        have q3 := fun pa pb pc W sW => g_flen (S2 pa pb pc) W sW m lb.out
        have q4 := fun pa pb pc W sW => g_fsize (S3' pa pb pc) W sW ((n : Int) + f) z zc
        have q5 := fun pa pb pc W sW => g_fsize (S2 pa pb pc) W sW f z hz
        have q6 := fun pa pb p3 W sW => g_fptr (S3' pa pb p3) W sW ((n : Int) + f) i hi pt pc
        have q7 := fun pa pb pc W sW => g_fptr (S2 pa pb pc) W sW f i hi pt hpt
        have q8 := fun pa pb pc W sW => g_fwords (S3' pa pb pc) W sW 0 wd szc wc
        have q9 := fun pa pb pc W sW => g_fwords (S1 pa pb pc) W sW 0 wd sza hwd
        have q10 := fun pa pb b3 W sW => g_fFns HT.out (b := b3) (S3' pa pb (some ⟨b3, 0, none⟩)) W sW _ (fOwns_twice hac)
        rw [lc.out] at q10
        have q11 := fun pa pb pc (B3 : Option Addr) (d3 lo3 : Nat) us W sW hz => g_fLeastT (S3' pa pb pc) (B := B3) (m := n + m) (d := d3) (lo := lo3) (us := us) (l' := fOwns (vals (ya ++ yb))) W sW hz (by omega) _ rc
        have q12 := fun pa pb pc W sW => g_fLeast (c := c) (S1 pa pb pc) HA.out W sW ra hra
        have q13 := fun pa pb pc W sW => g_fLeast (c := d) (S2 pa pb pc) HB.out W sW rb hrb
        have qw := fun pa pb pc W sW => g_awake (S1 pa pb pc) HT.out W sW
        clear S1 S2 S3'
        generalize fOwns (vals ya) = LA at *
        generalize fOwns (vals yb) = LB at *
        generalize fOwns (vals (ya ++ yb)) = LC at *
        have e1 : (z == z) = true := by simp
        have e2 : (pt == pt) = true := by simp
        have e3 : (wd == wd) = true := by simp
        clear hTa hTb hTc ha hb ht cw hf hi hbad haa hab hac ec la lb lc hz hpt hwd zc pc wc hra hrb rc sza szc hlc hla2 hlb2
        go_enter Tryd.func6, Tryd.ntmps6
        go_wp2_with (first
          | (go_at_call 7; (with_reducible refine ca.mono ?_); rintro e w' ⟨rfl, rfl⟩)
          | (go_at_call 7; (with_reducible refine cb.mono ?_); rintro e w' ⟨rfl, rfl⟩)
          | (go_at_call 10; (with_reducible refine (k1 _ _ _ hs0).mono ?_); rintro e w1 ⟨b1, rfl, hs1⟩)
          | (go_at_call 10; (with_reducible refine (k2 _ _ _ hs1).mono ?_); rintro e w2 ⟨b2, rfl, hs2⟩; have HB2 := hidb hs2.out.1.bel)
          | (at_builtin; refine wpList_append_row _ rfl _ _ 22 rfl w2.heap.size 28 i0 (.agg #[.int .i64 0, .slice none 0 0]) 2 32 Tryd.underlying22 hi0 hz0 hz1 hz2 rfl (by decide) _ 0 [] rfl (own_empty' w2 _ _ _ _ rfl (Nat.le_refl _)) (by simp) A n c (cellsAll fcells ya) rfl HLA.out (fun e => absurd e nA) (HXA.out _ (HB2.out.alloc HB2.out.size _)) HOA.out (by unfold maxLen; omega) (by omega) ?_; intro A6 c6 w6 ho6 hg6; rw [Nat.zero_add, List.nil_append] at ho6; rw [Nat.zero_add]; have K6 := hidb (app1 ho6 hg6); clear ho6 hg6)
          | (at_builtin; refine wpList_append_row _ rfl _ _ 22 rfl w2.heap.size 28 i0 (.agg #[.int .i64 0, .slice none 0 0]) 2 32 Tryd.underlying22 hi0 hz0 hz1 hz2 rfl (by decide) _ n (cellsAll fcells ya) rfl K6.out.1 K6.out.2.size B m d (cellsAll fcells yb) rfl HLB.out (fun e => absurd e nB) (HXB.out _ (HQ2.out _ _ HB2.out K6.out.2)) HOB.out (by unfold maxLen; omega) (by omega) ?_; intro A7 c7 w7 ho7 hg7; have K7 := hidb (app2 K6.out.1 K6.out.2 ho7 hg7); clear ho7 hg7)
          | (go_at_call 10; (with_reducible refine (k3 _ _ _ _ _ _ hs2 K7).mono ?_); rintro e w8 ⟨b3, rfl, hs8⟩)
          | (go_at_call 14; (with_reducible refine (q1 _ _ _ _ hs8).mono ?_); rintro e w9 ⟨rfl, hs9⟩)
          | (go_at_call 14; (with_reducible refine (q2 _ _ _ _ hs9).mono ?_); rintro e w10 ⟨rfl, hs10⟩)
          | (go_at_call 14; (with_reducible refine (q3 _ _ _ _ hs10).mono ?_); rintro e w11 ⟨rfl, hs11⟩)
          | (go_at_call 17; (with_reducible refine (q4 _ _ _ _ hs11).mono ?_); rintro e w12 ⟨rfl, hs12⟩)
          | (go_at_call 17; (with_reducible refine (q5 _ _ _ _ hs12).mono ?_); rintro e w13 ⟨rfl, hs13⟩)
          | (go_at_call 19; (with_reducible refine (q6 _ _ _ _ hs13).mono ?_); rintro e w14 ⟨rfl, hs14⟩)
          | (go_at_call 19; (with_reducible refine (q7 _ _ _ _ hs14).mono ?_); rintro e w15 ⟨rfl, hs15⟩)
          | (go_at_call 18; (with_reducible refine (q8 _ _ _ _ hs15).mono ?_); rintro e w16 ⟨rfl, hs16⟩)
          | (go_at_call 18; (with_reducible refine (q9 _ _ _ _ hs16).mono ?_); rintro e w17 ⟨rfl, hs17⟩)
          | (go_at_call 16; (with_reducible refine (q10 _ _ _ _ hs17).mono ?_); rintro e w18 ⟨B3, d3, us, rfl, hs18, hz18⟩)
          | (go_at_call 12; (with_reducible refine (q11 _ _ _ _ _ _ _ _ hs18 hz18).mono ?_); rintro e w19 ⟨rfl, hs19⟩)
          | (go_at_call 12; (with_reducible refine (q12 _ _ _ _ hs19).mono ?_); rintro e w20 ⟨rfl, hs20⟩)
          | (go_at_call 12; (with_reducible refine (q13 _ _ _ _ hs20).mono ?_); rintro e w21 ⟨rfl, hs21⟩)
          | (go_at_call 8; (with_reducible refine (qw _ _ _ _ hs21).mono ?_); rintro e w22 ⟨rfl, hs22⟩))
        go_ret
        exact ⟨rfl, hs22.out.1.bel⟩
      | false =>
        have hTc : fTab (vals (ya ++ yb)) = false := by
          unfold fTab at hTb ⊢
          rw [hlb2, decide_eq_true (⟨by omega, by omega⟩ : 1 ≤ m ∧ m ≤ 100), Bool.and_true] at hTb
          rw [vals_app, fAll_app, hTb, Bool.and_false]; rfl
        have k2 := fun W p l (sW : Hid (S13 w W p l)) => t_fNew_no (c := d) HB.out W p l sW hTb
        have hb2f : ∀ {W p l}, Hid (S13 w W p l) → Below w.heap.size w W := fun h => h.out.bel
        have k3 : ∀ (W2 W7 : World) (A7 : Option Addr) (c7 : Nat), Hid (Below w.heap.size w W2) → Hid (Below W2.heap.size W2 W7 ∧ (Below w.heap.size w W2 → FnRow W7 0 W7.heap.size A7 (n + m) (ya ++ yb) ∧ ∀ y ∈ ya ++ yb, y.n ≤ 1000)) → Calls Tryd.prog 10 #[.slice A7 (n + m) c7] W7 fun e w' => e = .returned (.tuple #[.pointer none, .int .i64 1]) ∧ Hid (S13 w w' none []) := fun W2 W7 A7 c7 h1 h2 =>
          (code_fNew_no A7 (n + m) c7 _ 0 W7 (h2.out.2 h1.out).1 (by omega) (h2.out.2 h1.out).2 hTc).mono fun e w' ⟨q1, q2⟩ => ⟨q1, hidb (by
            have h3 := HQ2.out _ _ h1.out h2.out.1
            exact ⟨h3.trans (q2.mono h3.size), _, _, TbO.nil_ w' w.heap.size w.heap.size, Nat.le_trans h3.size q2.size, Nat.le_refl _⟩)⟩
        clear hTa hTb hTc ha hb ht cw hf hi hbad
        go_enter Tryd.func6, Tryd.ntmps6
        go_wp2_with (first
          | (go_at_call 7; (with_reducible refine ca.mono ?_); rintro e w' ⟨rfl, rfl⟩)
          | (go_at_call 7; (with_reducible refine cb.mono ?_); rintro e w' ⟨rfl, rfl⟩)
          | (go_at_call 10; (with_reducible refine (k1 _ _ _ hs0).mono ?_); rintro e w1 ⟨b1, rfl, hs1⟩)
          | (go_at_call 10; (with_reducible refine (k2 _ _ _ hs1).mono ?_); rintro e w2 ⟨rfl, hs2⟩; have HB2 := hidb (hb2f hs2))
          | (at_builtin; refine wpList_append_row _ rfl _ _ 22 rfl w2.heap.size 28 i0 (.agg #[.int .i64 0, .slice none 0 0]) 2 32 Tryd.underlying22 hi0 hz0 hz1 hz2 rfl (by decide) _ 0 [] rfl (own_empty' w2 _ _ _ _ rfl (Nat.le_refl _)) (by simp) A n c (cellsAll fcells ya) rfl HLA.out (fun e => absurd e nA) (HXA.out _ (HB2.out.alloc HB2.out.size _)) HOA.out (by unfold maxLen; omega) (by omega) ?_; intro A6 c6 w6 ho6 hg6; rw [Nat.zero_add, List.nil_append] at ho6; rw [Nat.zero_add]; have K6 := hidb (app1 ho6 hg6); clear ho6 hg6)
          | (at_builtin; refine wpList_append_row _ rfl _ _ 22 rfl w2.heap.size 28 i0 (.agg #[.int .i64 0, .slice none 0 0]) 2 32 Tryd.underlying22 hi0 hz0 hz1 hz2 rfl (by decide) _ n (cellsAll fcells ya) rfl K6.out.1 K6.out.2.size B m d (cellsAll fcells yb) rfl HLB.out (fun e => absurd e nB) (HXB.out _ (HQ2.out _ _ HB2.out K6.out.2)) HOB.out (by unfold maxLen; omega) (by omega) ?_; intro A7 c7 w7 ho7 hg7; have K7 := hidb (app2 K6.out.1 K6.out.2 ho7 hg7); clear ho7 hg7)
          | (go_at_call 10; (with_reducible refine (k3 _ _ _ _ HB2 K7).mono ?_); rintro e w8 ⟨rfl, hs8⟩)
          | (go_at_call 8; (with_reducible refine (kw _ _ _ hs8).mono ?_); rintro e w9 ⟨rfl, hs9⟩))
        go_ret
        exact ⟨rfl, hs9.out.bel⟩
    | false =>
      have hTc : fTab (vals (ya ++ yb)) = false := by
        unfold fTab at hTa ⊢
        rw [hla2, decide_eq_true (⟨by omega, by omega⟩ : 1 ≤ n ∧ n ≤ 100), Bool.and_true] at hTa
        rw [vals_app, fAll_app, hTa, Bool.false_and]; rfl
      have k1 := fun W p l sW => t_fNew_no (c := c) HA.out W p l sW hTa
      have hb2f : ∀ {W p l}, Hid (S13 w W p l) → Below w.heap.size w W := fun h => h.out.bel
      cases hTb : fTab (vals yb) with
      | true =>
        have k2 := fun W p l (sW : Hid (S13 w W p l)) => t_fNew (c := d) HB.out HT.out W p l sW hTb
        have k3 : ∀ (W2 W7 : World) (A7 : Option Addr) (c7 : Nat), Hid (Below w.heap.size w W2) → Hid (Below W2.heap.size W2 W7 ∧ (Below w.heap.size w W2 → FnRow W7 0 W7.heap.size A7 (n + m) (ya ++ yb) ∧ ∀ y ∈ ya ++ yb, y.n ≤ 1000)) → Calls Tryd.prog 10 #[.slice A7 (n + m) c7] W7 fun e w' => e = .returned (.tuple #[.pointer none, .int .i64 1]) ∧ Hid (S13 w w' none []) := fun W2 W7 A7 c7 h1 h2 =>
          (code_fNew_no A7 (n + m) c7 _ 0 W7 (h2.out.2 h1.out).1 (by omega) (h2.out.2 h1.out).2 hTc).mono fun e w' ⟨q1, q2⟩ => ⟨q1, hidb (by
            have h3 := HQ2.out _ _ h1.out h2.out.1
            exact ⟨h3.trans (q2.mono h3.size), _, _, TbO.nil_ w' w.heap.size w.heap.size, Nat.le_trans h3.size q2.size, Nat.le_refl _⟩)⟩
        clear hTa hTb hTc ha hb ht cw hf hi hbad
        go_enter Tryd.func6, Tryd.ntmps6
        go_wp2_with (first
          | (go_at_call 7; (with_reducible refine ca.mono ?_); rintro e w' ⟨rfl, rfl⟩)
          | (go_at_call 7; (with_reducible refine cb.mono ?_); rintro e w' ⟨rfl, rfl⟩)
          | (go_at_call 10; (with_reducible refine (k1 _ _ _ hs0).mono ?_); rintro e w1 ⟨rfl, hs1⟩)
          | (go_at_call 10; (with_reducible refine (k2 _ _ _ hs1).mono ?_); rintro e w2 ⟨b2, rfl, hs2⟩; have HB2 := hidb (hb2f hs2))
          | (at_builtin; refine wpList_append_row _ rfl _ _ 22 rfl w2.heap.size 28 i0 (.agg #[.int .i64 0, .slice none 0 0]) 2 32 Tryd.underlying22 hi0 hz0 hz1 hz2 rfl (by decide) _ 0 [] rfl (own_empty' w2 _ _ _ _ rfl (Nat.le_refl _)) (by simp) A n c (cellsAll fcells ya) rfl HLA.out (fun e => absurd e nA) (HXA.out _ (HB2.out.alloc HB2.out.size _)) HOA.out (by unfold maxLen; omega) (by omega) ?_; intro A6 c6 w6 ho6 hg6; rw [Nat.zero_add, List.nil_append] at ho6; rw [Nat.zero_add]; have K6 := hidb (app1 ho6 hg6); clear ho6 hg6)
          | (at_builtin; refine wpList_append_row _ rfl _ _ 22 rfl w2.heap.size 28 i0 (.agg #[.int .i64 0, .slice none 0 0]) 2 32 Tryd.underlying22 hi0 hz0 hz1 hz2 rfl (by decide) _ n (cellsAll fcells ya) rfl K6.out.1 K6.out.2.size B m d (cellsAll fcells yb) rfl HLB.out (fun e => absurd e nB) (HXB.out _ (HQ2.out _ _ HB2.out K6.out.2)) HOB.out (by unfold maxLen; omega) (by omega) ?_; intro A7 c7 w7 ho7 hg7; have K7 := hidb (app2 K6.out.1 K6.out.2 ho7 hg7); clear ho7 hg7)
          | (go_at_call 10; (with_reducible refine (k3 _ _ _ _ HB2 K7).mono ?_); rintro e w8 ⟨rfl, hs8⟩)
          | (go_at_call 8; (with_reducible refine (kw _ _ _ hs8).mono ?_); rintro e w9 ⟨rfl, hs9⟩))
        go_ret
        exact ⟨rfl, hs9.out.bel⟩
      | false =>
        have k2 := fun W p l (sW : Hid (S13 w W p l)) => t_fNew_no (c := d) HB.out W p l sW hTb
        have k3 : ∀ (W2 W7 : World) (A7 : Option Addr) (c7 : Nat), Hid (Below w.heap.size w W2) → Hid (Below W2.heap.size W2 W7 ∧ (Below w.heap.size w W2 → FnRow W7 0 W7.heap.size A7 (n + m) (ya ++ yb) ∧ ∀ y ∈ ya ++ yb, y.n ≤ 1000)) → Calls Tryd.prog 10 #[.slice A7 (n + m) c7] W7 fun e w' => e = .returned (.tuple #[.pointer none, .int .i64 1]) ∧ Hid (S13 w w' none []) := fun W2 W7 A7 c7 h1 h2 =>
          (code_fNew_no A7 (n + m) c7 _ 0 W7 (h2.out.2 h1.out).1 (by omega) (h2.out.2 h1.out).2 hTc).mono fun e w' ⟨q1, q2⟩ => ⟨q1, hidb (by
            have h3 := HQ2.out _ _ h1.out h2.out.1
            exact ⟨h3.trans (q2.mono h3.size), _, _, TbO.nil_ w' w.heap.size w.heap.size, Nat.le_trans h3.size q2.size, Nat.le_refl _⟩)⟩
        clear hTa hTb hTc ha hb ht cw hf hi hbad
        go_enter Tryd.func6, Tryd.ntmps6
        go_wp2_with (first
          | (go_at_call 7; (with_reducible refine ca.mono ?_); rintro e w' ⟨rfl, rfl⟩)
          | (go_at_call 7; (with_reducible refine cb.mono ?_); rintro e w' ⟨rfl, rfl⟩)
          | (go_at_call 10; (with_reducible refine (k1 _ _ _ hs0).mono ?_); rintro e w1 ⟨rfl, hs1⟩)
          | (go_at_call 10; (with_reducible refine (k2 _ _ _ hs1).mono ?_); rintro e w2 ⟨rfl, hs2⟩; have HB2 := hidb (hb2f hs2))
          | (at_builtin; refine wpList_append_row _ rfl _ _ 22 rfl w2.heap.size 28 i0 (.agg #[.int .i64 0, .slice none 0 0]) 2 32 Tryd.underlying22 hi0 hz0 hz1 hz2 rfl (by decide) _ 0 [] rfl (own_empty' w2 _ _ _ _ rfl (Nat.le_refl _)) (by simp) A n c (cellsAll fcells ya) rfl HLA.out (fun e => absurd e nA) (HXA.out _ (HB2.out.alloc HB2.out.size _)) HOA.out (by unfold maxLen; omega) (by omega) ?_; intro A6 c6 w6 ho6 hg6; rw [Nat.zero_add, List.nil_append] at ho6; rw [Nat.zero_add]; have K6 := hidb (app1 ho6 hg6); clear ho6 hg6)
          | (at_builtin; refine wpList_append_row _ rfl _ _ 22 rfl w2.heap.size 28 i0 (.agg #[.int .i64 0, .slice none 0 0]) 2 32 Tryd.underlying22 hi0 hz0 hz1 hz2 rfl (by decide) _ n (cellsAll fcells ya) rfl K6.out.1 K6.out.2.size B m d (cellsAll fcells yb) rfl HLB.out (fun e => absurd e nB) (HXB.out _ (HQ2.out _ _ HB2.out K6.out.2)) HOB.out (by unfold maxLen; omega) (by omega) ?_; intro A7 c7 w7 ho7 hg7; have K7 := hidb (app2 K6.out.1 K6.out.2 ho7 hg7); clear ho7 hg7)
          | (go_at_call 10; (with_reducible refine (k3 _ _ _ _ HB2 K7).mono ?_); rintro e w8 ⟨rfl, hs8⟩)
          | (go_at_call 8; (with_reducible refine (kw _ _ _ hs8).mono ?_); rintro e w9 ⟨rfl, hs9⟩))
        go_ret
        exact ⟨rfl, hs9.out.bel⟩
end Go.Proofs.YtieknifbmamdaaaDoor
