/- Layer 13's statement FnsTells. -/
import Derived.Test.YtieknifbmamdaaaDoorFnsIs
namespace Go.Proofs.YtieknifbmamdaaaDoor
open Go.RowKit
set_option linter.unusedVariables false

theorem ref_fsize (A : Option Addr) (n c : Nat) (ys : List FnV) (lo hi : Nat) (w : World) (f : Int) (hs : FnRow w lo hi A n ys) (hn : n ≤ 1000) :
    Calls Tryd.prog 22 #[.slice A n c, .int .i64 f] w fun e w' => e = .returned (.int .i64 (fSize (vals ys) f)) ∧ w = w' := by
  have hl := hs.len
  by_cases hf : f < 0 ∨ (n : Int) ≤ f
  · have E : fSize (vals ys) f = -1 := by unfold fSize; rw [vals_length, hl, if_pos hf]
    rw [E]
    clear hs E hl
    by_cases h0 : f < 0
    · clear hf
      go_enter Tryd.func22, Tryd.ntmps22
      go_wp2
      go_ret
      exact ⟨rfl, rfl⟩
    · have h1 : (n : Int) ≤ f := by omega
      clear hf
      go_enter Tryd.func22, Tryd.ntmps22
      go_wp2
      go_ret
      exact ⟨rfl, rfl⟩
  · obtain ⟨b, off, y, rfl, _, hy, hc0, hc1, hok⟩ := hs.at_ (j := f.toNat) (by omega)
    have E : fSize (vals ys) f = y.sz := by unfold fSize; rw [vals_length, hl, if_neg hf, getD_at _ _ _ _ (vals_at hy)]
    rw [E]
    have f0 : ¬ f < 0 := by omega
    have f1 : f < (n : Int) := by omega
    have f2 : 0 ≤ f := by omega
    clear hs E hl hf hy hok
    go_enter Tryd.func22, Tryd.ntmps22
    go_wp2
    go_ret
    exact ⟨rfl, rfl⟩
theorem ref_fwordsR (A : Option Addr) (n c : Nat) (ys : List FnV) (lo hi : Nat) (w : World) (f : Int) (hs : FnRow w lo hi A n ys) (hn : n ≤ 1000) (hr : fSize (vals ys) f ≤ 1000) (hr2 : -9223372036854775808 ≤ fSize (vals ys) f) :
    Calls Tryd.prog 23 #[.slice A n c, .int .i64 f] w fun e w' => e = .returned (.int .i64 (fWords (vals ys) f)) ∧ w = w' := by
  have cs := ref_fsize A n c ys lo hi w f hs hn
  unfold fWords
  generalize fSize (vals ys) f = z at *
  clear hs
  by_cases h0 : z < 0
  · rw [if_pos h0]
    go_enter Tryd.func23, Tryd.ntmps23
    go_wp2_with (go_at_call 22; (with_reducible refine cs.mono ?_); rintro e w' ⟨rfl, rfl⟩)
    go_ret
    exact ⟨rfl, rfl⟩
  · rw [if_neg h0]
    go_enter Tryd.func23, Tryd.ntmps23
    go_wp2_with (go_at_call 22; (with_reducible refine cs.mono ?_); rintro e w' ⟨rfl, rfl⟩)
    go_ret
    exact ⟨rfl, rfl⟩
theorem ref_fptrR (A : Option Addr) (n c : Nat) (ys : List FnV) (lo hi : Nat) (w : World) (f i : Int) (hs : FnRow w lo hi A n ys) (hn : n ≤ 1000) (hi' : in64 i) (h0 : ∀ x ∈ vals ys, 0 ≤ x.1) :
    Calls Tryd.prog 24 #[.slice A n c, .int .i64 f, .int .i64 i] w fun e w' => e = .returned (.bool (fPtr (vals ys) f i)) ∧ w = w' := by
  have cs := ref_fsize A n c ys lo hi w f hs hn
  have hl := hs.len
  by_cases hf : f < 0 ∨ (n : Int) ≤ f
  · have E : fPtr (vals ys) f i = false := by unfold fPtr; rw [vals_length, hl, if_pos hf]
    have E1 : fSize (vals ys) f = -1 := by unfold fSize; rw [vals_length, hl, if_pos hf]
    rw [E]
    rw [E1] at cs
    clear hs E E1 hl hf
    go_enter Tryd.func24, Tryd.ntmps24
    go_wp2_with (go_at_call 22; (with_reducible refine cs.mono ?_); rintro e w' ⟨rfl, rfl⟩)
    go_ret
    exact ⟨rfl, rfl⟩
  · obtain ⟨b, off, y, rfl, _, hy, hc0, hc1, hok⟩ := hs.at_ (j := f.toNat) (by omega)
    have E : fPtr (vals ys) f i = bHas y.ws i := by unfold fPtr; rw [vals_length, hl, if_neg hf, getD_at _ _ _ _ (vals_at hy)]
    have E1 : fSize (vals ys) f = y.sz := by unfold fSize; rw [vals_length, hl, if_neg hf, getD_at _ _ _ _ (vals_at hy)]
    have hz : 0 ≤ y.sz := h0 _ (List.mem_of_getElem? (vals_at hy))
    have cb := ref_bhas y.A y.n y.c y.ws i w hi hok.sl hok.small hok.wd hi'.1 hi'.2
    rw [E]
    rw [E1] at cs
    have f1 : f < (n : Int) := by omega
    have f2 : 0 ≤ f := by omega
    clear hs E hl hf hy hok E1
    go_enter Tryd.func24, Tryd.ntmps24
    go_wp2_with (first
      | (go_at_call 22; (with_reducible refine cs.mono ?_); rintro e w' ⟨rfl, rfl⟩)
      | (go_at_call 26; (with_reducible refine cb.mono ?_); rintro e w' ⟨rfl, rfl⟩))
    go_ret
    exact ⟨rfl, rfl⟩

/-- A state that holds on where nothing that was there is written. -/
structure Stab (w : World) (p : Option Addr) (l : Fns) (St : World → Prop) : Prop where
  get : ∀ W, St W → S13 w W p l
  step : ∀ W w', St W → Below W.heap.size W w' → St w'
theorem stab_self (w : World) (p : Option Addr) (l : Fns) : Stab w p l (fun W => S13 w W p l) := ⟨fun _ h => h, fun _ _ h hb => h.step hb⟩
def WithRow (w : World) (p : Option Addr) (l : Fns) (A : Option Addr) (L : List Int) (W : World) : Prop := S13 w W p l ∧ Sl W W.heap.size A L.length (L.map iv)
theorem stab_row (w : World) (p : Option Addr) (l : Fns) (A : Option Addr) (L : List Int) : Stab w p l (WithRow w p l A L) := ⟨fun _ h => h.1, fun _ _ h hb => ⟨h.1.step hb, (h.2.below hb).more hb.size⟩⟩
section
variable {w : World} {p : Option Addr} {l : Fns} {St : World → Prop}
theorem g_fsize (k : Stab w p l St) (W : World) (s : Hid (St W)) (f r : Int) (hr : fSize l f = r) : Calls Tryd.prog 17 #[.pointer p, .int .i64 f] W fun e w' => e = .returned (.int .i64 r) ∧ Hid (St w') := by
  obtain ⟨_, lo, hi, h2, h3, _⟩ := k.get _ s.out
  rw [← hr]
  exact (code_fsize h2 h3 f).mono fun e w' ⟨h1, h3⟩ => ⟨h1, hidb (k.step _ _ s.out h3)⟩
theorem g_fwords (k : Stab w p l St) (W : World) (s : Hid (St W)) (f r : Int) (hl : ∀ x ∈ l, 0 ≤ x.1 ∧ x.1 ≤ 1000) (hr : fWords l f = r) : Calls Tryd.prog 18 #[.pointer p, .int .i64 f] W fun e w' => e = .returned (.int .i64 r) ∧ Hid (St w') := by
  obtain ⟨_, lo, hi, h2, h3, _⟩ := k.get _ s.out
  rw [← hr]
  exact (code_fwordsT h2 h3 f hl).mono fun e w' ⟨h1, h3⟩ => ⟨h1, hidb (k.step _ _ s.out h3)⟩
theorem g_fptr (k : Stab w p l St) (W : World) (s : Hid (St W)) (f i : Int) (hi : in64 i) (r : Bool) (hr : fPtr l f i = r) : Calls Tryd.prog 19 #[.pointer p, .int .i64 f, .int .i64 i] W fun e w' => e = .returned (.bool r) ∧ Hid (St w') := by
  obtain ⟨_, lo, hi, h2, h3, _⟩ := k.get _ s.out
  rw [← hr]
  exact (code_fptr h2 h3 f i ‹in64 i›).mono fun e w' ⟨h1, h3⟩ => ⟨h1, hidb (k.step _ _ s.out h3)⟩
theorem g_fptrs (k : Stab w p l St) (ht : TabDB w) (W : World) (s : Hid (St W)) (f : Int) (L : List Int) (hr : fPtrs l f = L) : Calls Tryd.prog 20 #[.pointer p, .int .i64 f] W fun e w' => ∃ A c, e = .returned (.slice A L.length c) ∧ Hid (St w') ∧ Hid (Sl w' w'.heap.size A L.length (L.map iv)) := by
  obtain ⟨hb, lo, hi, h2, h3, _⟩ := k.get _ s.out
  rw [← hr]
  exact (code_fptrs h2 h3 f (TabDB.below ht hb)).mono fun e w' ⟨A, c, h1, h2, h3⟩ => ⟨A, c, h1, hidb (k.step _ _ s.out h3), hidb (Sl.of_own h2)⟩
theorem g_awake (k : Stab w p l St) (ht : TabDB w) (W : World) (s : Hid (St W)) : Calls Tryd.prog 8 #[] W fun e w' => e = .returned (.bool true) ∧ Hid (St w') :=
  (awake13 W (TabDB.below ht (k.get _ s.out).bel)).mono fun e w' ⟨h1, h2⟩ => ⟨h1, hidb (k.step _ _ s.out h2)⟩
theorem g_rsize {A : Option Addr} {n c : Nat} {ys : List FnV} (k : Stab w p l St) (h : In13 w A n ys) (W : World) (s : Hid (St W)) (f r : Int) (hr : fSize (vals ys) f = r) : Calls Tryd.prog 22 #[.slice A n c, .int .i64 f] W fun e w' => e = .returned (.int .i64 r) ∧ Hid (St w') := by
  rw [← hr]
  exact (ref_fsize A n c ys _ _ W f (h.at_ (k.get _ s.out).bel) (by have := h.few; omega)).mono fun e w' ⟨h1, h2⟩ => ⟨h1, by rw [← h2]; exact s⟩
theorem g_rwords {A : Option Addr} {n c : Nat} {ys : List FnV} (k : Stab w p l St) (h : In13 w A n ys) (W : World) (s : Hid (St W)) (f r : Int) (h1 : fSize (vals ys) f ≤ 1000) (h2 : -9223372036854775808 ≤ fSize (vals ys) f) (hr : fWords (vals ys) f = r) : Calls Tryd.prog 23 #[.slice A n c, .int .i64 f] W fun e w' => e = .returned (.int .i64 r) ∧ Hid (St w') := by
  rw [← hr]
  exact (ref_fwordsR A n c ys _ _ W f (h.at_ (k.get _ s.out).bel) (by have := h.few; omega) h1 h2).mono fun e w' ⟨h1, h2⟩ => ⟨h1, by rw [← h2]; exact s⟩
theorem g_rptr {A : Option Addr} {n c : Nat} {ys : List FnV} (k : Stab w p l St) (h : In13 w A n ys) (W : World) (s : Hid (St W)) (f i : Int) (hi : in64 i) (h0 : ∀ x ∈ vals ys, 0 ≤ x.1) (r : Bool) (hr : fPtr (vals ys) f i = r) : Calls Tryd.prog 24 #[.slice A n c, .int .i64 f, .int .i64 i] W fun e w' => e = .returned (.bool r) ∧ Hid (St w') := by
  rw [← hr]
  exact (ref_fptrR A n c ys _ _ W f i (h.at_ (k.get _ s.out).bel) (by have := h.few; omega) hi h0).mono fun e w' ⟨h1, h2⟩ => ⟨h1, by rw [← h2]; exact s⟩
end
/-- Ints of two rows that are the same. -/
theorem g_ints {w : World} {p : Option Addr} {l : Fns} {A B : Option Addr} {c d : Nat} {L : List Int} (W : World) (s : Hid (WithRow w p l A L W)) (hB : Hid (Sl W W.heap.size B L.length (L.map iv))) (hl : L.length ≤ 1000000) :
    Calls Tryd.prog 25 #[.slice B L.length d, .slice A L.length c] W fun e w' => e = .returned (.bool true) ∧ Hid (S13 w w' p l) := by
  have := ref_bints B A L.length d L.length c L L W _ _ hB.out s.out.2 (by omega) (by omega)
  rw [show decide (L = L) = true by simp] at this
  exact this.mono fun e w' ⟨h1, q, h2⟩ => ⟨h1, by rw [h2]; exact hidb (s.out.1.drewN q)⟩
theorem fTab_sizes {l : Fns} (h : fTab l = true) : ∀ x ∈ l, 0 ≤ x.1 ∧ x.1 ≤ 1000 := fun x hx => by
  unfold fTab at h; rw [Bool.and_eq_true] at h
  obtain ⟨i, hi, rfl⟩ := List.getElem_of_mem hx
  exact fMay_size (fAll_at h.1 i _ (List.getElem?_eq_getElem hi))
theorem fOwns_sizes {l : Fns} (h : ∀ x ∈ l, 0 ≤ x.1 ∧ x.1 ≤ 1000) : ∀ x ∈ fOwns l, 0 ≤ x.1 ∧ x.1 ≤ 1000 := fun x hx => by
  obtain ⟨y, hy, rfl⟩ := List.mem_map.1 hx
  exact h y hy
theorem fSize_range {l : Fns} (h : ∀ x ∈ l, 0 ≤ x.1 ∧ x.1 ≤ 1000) (f : Int) : -1 ≤ fSize l f ∧ fSize l f ≤ 1000 := by
  unfold fSize
  split
  · omega
  · rw [List.getD_eq_getElem?_getD, List.getElem?_eq_getElem (by omega)]
    have := h _ (List.getElem_mem (l := l) (n := f.toNat) (by omega))
    simp only [Option.getD_some]
    omega
theorem fWords_owns (l : Fns) (f : Int) : fWords (fOwns l) f = fWords l f := by unfold fWords; rw [fSize_owns]

set_option maxRecDepth 100000 in
set_option maxHeartbeats 4000000 in
theorem fnsTells_any (A : Option Addr) (n c : Nat) (ys : List FnV) (f i : Int) (w : World) (hs : FnRow w 0 w.heap.size A n ys) (hm : n ≤ maxLen) (hf : in64 f) (hi : in64 i) (ht : TabDB w) :
    Calls Tryd.prog 4 #[.slice A n c, .int .i64 f, .int .i64 i] w fun e w' => e = .returned (.bool true) ∧ Below w.heap.size w w' := by
  unfold maxLen at hm
  have cg := ref_fgreat A n c ys 0 _ w hs (by omega)
  have cw := awake13 w ht
  cases hG : fGreat (vals ys) with
  | true =>
    rw [hG] at cg
    clear hs hG
    go_enter Tryd.func4, Tryd.ntmps4
    go_wp2_with (first
      | (go_at_call 7; (with_reducible refine cg.mono ?_); rintro e w' ⟨rfl, rfl⟩)
      | (go_at_call 8; (with_reducible refine cw.mono ?_); rintro e w1 ⟨rfl, hb⟩))
    go_ret
    exact ⟨rfl, hb⟩
  | false =>
    rw [hG] at cg
    have HI := hidb (great_in hs hG)
    have hfew := (great_in hs hG).few
    have HL := hidb hs.len
    have HT := hidb ht
    have hs0 := hidb (S13.start w)
    clear hs hG ht cw
    cases hT : fTab (vals ys) with
    | false =>
      have k4 := fun W p l sW => t_fNew_no (c := c) HI.out W p l sW hT
      have k1 := fun W sW => t_fsize (w := w) (p := none) (l := []) W sW f (-1) (by unfold fSize; rw [if_pos (by simp only [List.length_nil]; omega)])
      have k2 := fun W sW => t_fwords (w := w) (p := none) (l := []) W sW f (-1) (fun x hx => by cases hx) (by unfold fWords fSize; rw [if_pos (by simp only [List.length_nil]; omega)]; first | done | rfl)
      have k3 := fun W sW => t_fptr (w := w) (p := none) (l := []) W sW f i hi false (by unfold fPtr; rw [if_pos (by simp only [List.length_nil]; omega)])
      have k5 := fun W sW => t_fptrs (w := w) (p := none) (l := []) HT.out W sW f [] (by unfold fPtrs; rw [if_pos (by simp only [List.length_nil]; omega)])
      have k6 := fun W => code_fFns_nil W
      have kw := fun W p l sW => t_awake13 HT.out W p l sW
      clear hT hf hi
      go_enter Tryd.func4, Tryd.ntmps4
      go_wp2_with (first
        | (go_at_call 7; (with_reducible refine cg.mono ?_); rintro e w' ⟨rfl, rfl⟩)
        | (go_at_call 10; (with_reducible refine (k4 _ _ _ hs0).mono ?_); rintro e w1 ⟨rfl, hs1⟩)
        | (go_at_call 17; (with_reducible refine (k1 _ hs1).mono ?_); rintro e w2 ⟨rfl, hs2⟩)
        | (go_at_call 18; (with_reducible refine (k2 _ hs2).mono ?_); rintro e w3 ⟨rfl, hs3⟩)
        | (go_at_call 19; (with_reducible refine (k3 _ hs3).mono ?_); rintro e w4 ⟨rfl, hs4⟩)
        | (go_at_call 20; (with_reducible refine (k5 _ hs4).mono ?_); rintro e w5 ⟨B, d, rfl, hs5, hz5⟩)
        | (go_at_call 16; (with_reducible refine (k6 _).mono ?_); rintro e w6 ⟨rfl, rfl⟩)
        | (go_at_call 8; (with_reducible refine (kw _ _ _ hs5).mono ?_); rintro e w8 ⟨rfl, hs8⟩))
      go_ret
      exact ⟨rfl, hs8.out.bel⟩
    | true =>
      have ha : fAll (vals ys) = true := by unfold fTab at hT; rw [Bool.and_eq_true] at hT; exact hT.1
      have hsz := fTab_sizes hT
      have hrg := fSize_range hsz f
      have hsz2 := fOwns_sizes hsz
      have HSZ2 := hidb hsz2
      have HSZ0 : Hid (∀ x ∈ vals ys, 0 ≤ x.1) := hidb (fun x hx => (hsz x hx).1)
      obtain ⟨z, hz⟩ : ∃ z, fSize (vals ys) f = z := ⟨_, rfl⟩
      obtain ⟨wd, hwd⟩ : ∃ wd, fWords (vals ys) f = wd := ⟨_, rfl⟩
      obtain ⟨pt, hpt⟩ : ∃ pt, fPtr (vals ys) f i = pt := ⟨_, rfl⟩
      have HZ1 := hidb ((fSize_owns (vals ys) f).trans hz)
      have HZ2 := hidb ((fWords_owns (vals ys) f).trans hwd)
      have HZ3 := hidb ((fPtr_owns ha f i).trans hpt)
      have HZ4 := hidb (fPtrs_owns ha f)
      have k4 := fun W p l sW => t_fNew (c := c) HI.out HT.out W p l sW hT
      obtain ⟨L, hL⟩ : ∃ L, fPtrs (vals ys) f = L := ⟨_, rfl⟩
      rw [hL] at HZ4
      have hLl : L.length ≤ 1000000 := by
        rw [← hL]
        unfold fPtrs
        split
        · simp
        · have := bBits_length ((vals ys).getD f.toNat (0, [])).2 (min ((vals ys).getD f.toNat (0, [])).1.toNat (64 * ((vals ys).getD f.toNat (0, [])).2.length))
          have h2 := hsz ((vals ys).getD f.toNat (0, [])) (by
            rw [List.getD_eq_getElem?_getD, List.getElem?_eq_getElem (by omega)]
            exact List.getElem_mem _)
          omega
      have e0 : (z == z) = true := by simp
      have e1 : (wd == wd) = true := by simp
      have e2 : (pt == pt) = true := by simp
      have GW : ∀ (p : Option Addr) (B : Option Addr), Stab w p (fOwns (vals ys)) (WithRow w p (fOwns (vals ys)) B L) := fun p B => stab_row w p _ B L
      have q1 := fun p B W sW => g_fsize (GW p B) W sW f z HZ1.out
      have q2 := fun p B W sW => g_rsize (c := c) (GW p B) HI.out W sW f z hz
      have q3 := fun p B W sW => g_fwords (GW p B) W sW f wd HSZ2.out HZ2.out
      have q4 := fun p B W sW => g_rwords (c := c) (GW p B) HI.out W sW f wd hrg.2 (by omega) hwd
      have q5 := fun p B W sW => g_fptr (GW p B) W sW f i hi pt HZ3.out
      have q6 := fun p B W sW => g_rptr (c := c) (GW p B) HI.out W sW f i hi HSZ0.out pt hpt
      have q7 := fun p B W sW => g_fptrs (GW p B) HT.out W sW f L HZ4.out
      have q8 := fun (p B C : Option Addr) (c1 d1 : Nat) W sW hB => g_ints (w := w) (p := p) (l := fOwns (vals ys)) (A := B) (B := C) (c := c1) (d := d1) (L := L) W sW hB hLl
      have kw := fun W p l sW => t_awake13 HT.out W p l sW
      have HZZ := hidb hz
      by_cases hr : f < 0 ∨ (n : Int) ≤ f
      · have hL0 : L = [] := by rw [← hL]; unfold fPtrs; rw [vals_length, HL.out, if_pos hr]
        subst hL0
        simp only [List.length_nil] at q7 q8
        have HW0 : Hid (∀ (W : World) (b : Nat), Hid (S13 w W (some ⟨b, 0, none⟩) (fOwns (vals ys))) → Hid (WithRow w (some ⟨b, 0, none⟩) (fOwns (vals ys)) (some ⟨W.heap.size, 0, none⟩) [] (W.alloc (.cells #[] 3)))) := hidb (fun W b h => hidb ⟨h.out.alloc _, Sl.nil_⟩)
        generalize fOwns (vals ys) = O at *
        clear hT ha hsz hsz2 hz hwd hpt hL hf hi hLl HZ1 HZ2 HZ3 HZ4 hrg
        by_cases h0 : f < 0
        · clear hr
          go_enter Tryd.func4, Tryd.ntmps4
          go_wp2_with (first
            | (go_at_call 7; (with_reducible refine cg.mono ?_); rintro e w' ⟨rfl, rfl⟩)
            | (go_at_call 10; (with_reducible refine (k4 _ _ _ hs0).mono ?_); rintro e w1 ⟨b, rfl, hs1⟩; have hs2 := HW0.out w1 b hs1)
            | (go_at_call 17; (with_reducible refine (q1 _ _ _ hs2).mono ?_); rintro e w3 ⟨rfl, hs3⟩)
            | (go_at_call 22; (with_reducible refine (q2 _ _ _ hs3).mono ?_); rintro e w4 ⟨rfl, hs4⟩)
            | (go_at_call 18; (with_reducible refine (q3 _ _ _ hs4).mono ?_); rintro e w5 ⟨rfl, hs5⟩)
            | (go_at_call 23; (with_reducible refine (q4 _ _ _ hs5).mono ?_); rintro e w6 ⟨rfl, hs6⟩)
            | (go_at_call 19; (with_reducible refine (q5 _ _ _ hs6).mono ?_); rintro e w7 ⟨rfl, hs7⟩)
            | (go_at_call 24; (with_reducible refine (q6 _ _ _ hs7).mono ?_); rintro e w8 ⟨rfl, hs8⟩)
            | (go_at_call 20; (with_reducible refine (q7 _ _ _ hs8).mono ?_); rintro e w9 ⟨B, d, rfl, hs9, hz9⟩)
            | (go_at_call 25; (with_reducible refine (q8 _ _ _ _ _ _ hs9 hz9).mono ?_); rintro e w10 ⟨rfl, hs10⟩)
            | (go_at_call 8; (with_reducible refine (kw _ _ _ hs10).mono ?_); rintro e w11 ⟨rfl, hs11⟩))
          go_ret
          exact ⟨rfl, hs11.out.bel⟩
        · have h1 : (n : Int) ≤ f := by omega
          have h2 : 0 ≤ f := by omega
          clear hr
          go_enter Tryd.func4, Tryd.ntmps4
          go_wp2_with (first
            | (go_at_call 7; (with_reducible refine cg.mono ?_); rintro e w' ⟨rfl, rfl⟩)
            | (go_at_call 10; (with_reducible refine (k4 _ _ _ hs0).mono ?_); rintro e w1 ⟨b, rfl, hs1⟩; have hs2 := HW0.out w1 b hs1)
            | (go_at_call 17; (with_reducible refine (q1 _ _ _ hs2).mono ?_); rintro e w3 ⟨rfl, hs3⟩)
            | (go_at_call 22; (with_reducible refine (q2 _ _ _ hs3).mono ?_); rintro e w4 ⟨rfl, hs4⟩)
            | (go_at_call 18; (with_reducible refine (q3 _ _ _ hs4).mono ?_); rintro e w5 ⟨rfl, hs5⟩)
            | (go_at_call 23; (with_reducible refine (q4 _ _ _ hs5).mono ?_); rintro e w6 ⟨rfl, hs6⟩)
            | (go_at_call 19; (with_reducible refine (q5 _ _ _ hs6).mono ?_); rintro e w7 ⟨rfl, hs7⟩)
            | (go_at_call 24; (with_reducible refine (q6 _ _ _ hs7).mono ?_); rintro e w8 ⟨rfl, hs8⟩)
            | (go_at_call 20; (with_reducible refine (q7 _ _ _ hs8).mono ?_); rintro e w9 ⟨B, d, rfl, hs9, hz9⟩)
            | (go_at_call 25; (with_reducible refine (q8 _ _ _ _ _ _ hs9 hz9).mono ?_); rintro e w10 ⟨rfl, hs10⟩)
            | (go_at_call 8; (with_reducible refine (kw _ _ _ hs10).mono ?_); rintro e w11 ⟨rfl, hs11⟩))
          go_ret
          exact ⟨rfl, hs11.out.bel⟩
      · obtain ⟨b2, off, y, rfl, hy, hyin, HQ⟩ := HI.out.cells (j := f.toNat) (by omega)
        have hyo := HI.out.row.fns y (List.mem_of_getElem? hy)
        have hyn := HI.out.small y (List.mem_of_getElem? hy)
        have hgd : (vals ys).getD f.toNat (0, []) = (y.sz, y.ws) := getD_at _ _ _ _ (vals_at hy)
        have hLy : bBits y.ws (min y.sz.toNat (64 * y.n)) = L := by
          rw [← hL, ← hyo.len]; unfold fPtrs; rw [vals_length, HL.out, if_neg hr, hgd]
        have CB : Hid (∀ (W : World) (b : Nat), Hid (S13 w W (some ⟨b, 0, none⟩) (fOwns (vals ys))) → Calls Tryd.prog 21 #[.slice y.A y.n y.c, .int .i64 y.sz] ((W.alloc (.cells #[] 3)).drew) fun e w' => ∃ B d, e = .returned (.slice B L.length d) ∧ Hid (WithRow w (some ⟨b, 0, none⟩) (fOwns (vals ys)) B L w')) := hidb (fun W b h => by
          have h1 := h.out.alloc (.cells #[] 3)
          have h2 := h1.drewN 1
          refine (ref_bbits y.A y.n y.c y.ws y.sz _ (((hyo.below h2.bel).sl).more h2.bel.size) (by omega) hyo.wd hyin.1 hyin.2).mono ?_
          rw [hLy]
          rintro e w' ⟨B, d, rfl, ho, hb⟩
          exact ⟨B, d, rfl, hidb ⟨h2.step hb, Sl.of_own ho⟩⟩)
        have f0 : ¬ f < 0 := by omega
        have f1 : f < (n : Int) := by omega
        have f2 : 0 ≤ f := by omega
        have HBL : Hid (∀ (W : World) p l, Hid (S13 w W p l) → Below w.heap.size w (W.alloc (.cells #[] 3)).drew) := hidb (fun W p l h => (h.out.alloc _).bel.drew)
        clear hy hyo hyn hgd hLy
        generalize fOwns (vals ys) = O at *
        clear hT ha hsz hsz2 hz hwd hpt hL hf hi hLl HZ1 HZ2 HZ3 HZ4 hrg hyin hr
        go_enter Tryd.func4, Tryd.ntmps4
        go_wp2_with (first
          | (go_at_call 7; (with_reducible refine cg.mono ?_); rintro e w' ⟨rfl, rfl⟩)
          | (go_at_call 10; (with_reducible refine (k4 _ _ _ hs0).mono ?_); rintro e w1 ⟨b, rfl, hs1⟩; obtain ⟨c0, c1⟩ := HQ.out _ (HBL.out _ _ _ hs1)))
        go_region_held3 (fun W => W.cell? ⟨b2, off + f.toNat * 2, none⟩ = some (.int .i64 y.sz) ∧ W.cell? ⟨b2, off + f.toNat * 2 + 1, none⟩ = some (.slice y.A y.n y.c))
          (first | ((with_reducible refine HQ.out _ ?_); assumption) | (go_keep; done))
          (first
            | (go_at_call 21; ((with_reducible refine (CB.out _ _ hs1).mono ?_); rintro e w2 ⟨B, d, rfl, hs2⟩; have hb2 := hs2.out.1.bel)))
        clear hb2
        go_wp2_with (first
          | (go_at_call 17; (with_reducible refine (q1 _ _ _ hs2).mono ?_); rintro e w3 ⟨rfl, hs3⟩)
          | (go_at_call 22; (with_reducible refine (q2 _ _ _ hs3).mono ?_); rintro e w4 ⟨rfl, hs4⟩)
          | (go_at_call 18; (with_reducible refine (q3 _ _ _ hs4).mono ?_); rintro e w5 ⟨rfl, hs5⟩)
          | (go_at_call 23; (with_reducible refine (q4 _ _ _ hs5).mono ?_); rintro e w6 ⟨rfl, hs6⟩)
          | (go_at_call 19; (with_reducible refine (q5 _ _ _ hs6).mono ?_); rintro e w7 ⟨rfl, hs7⟩)
          | (go_at_call 24; (with_reducible refine (q6 _ _ _ hs7).mono ?_); rintro e w8 ⟨rfl, hs8⟩)
          | (go_at_call 20; (with_reducible refine (q7 _ _ _ hs8).mono ?_); rintro e w9 ⟨B2, d2, rfl, hs9, hz9⟩)
          | (go_at_call 25; (with_reducible refine (q8 _ _ _ _ _ _ hs9 hz9).mono ?_); rintro e w10 ⟨rfl, hs10⟩)
          | (go_at_call 8; (with_reducible refine (kw _ _ _ hs10).mono ?_); rintro e w11 ⟨rfl, hs11⟩))
        go_ret
        exact ⟨rfl, hs11.out.bel⟩
end Go.Proofs.YtieknifbmamdaaaDoor
