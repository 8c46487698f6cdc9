/- Layer 10's statement on the span that was given back last. -/
import Derived.Test.YtfemnkokoohdoaaGreatLargeLaws0
namespace Go.Proofs.YtfemnkokoohdoaaGreat
open Go.RowKit
set_option linter.unusedVariables false

theorem lTake_none {v : LargeV} (h : v.kept = []) (n : Int) : (lTake v n).1.kept = [] ∧ (lTake v n).1.waits = v.waits ∧ (lTake v n).1.held = v.held ∧ ((lTake v n).2.2 = 0 → lFits n = true ∧ (lTake v n) = ({ v with h := (hMake v.h n (-1)).1 }, (hMake v.h n (-1)).2.1, (hMake v.h n (-1)).2.2)) := by
  unfold lTake
  split
  · exact ⟨h, rfl, rfl, fun c => by simp at c⟩
  · rename_i c
    rw [h]
    have hl : (lOf [] n).getLast? = none := rfl
    rw [hl]
    exact ⟨rfl, rfl, rfl, fun _ => ⟨by simpa using c, rfl⟩⟩
/-- A span that the heap has made. -/
theorem hMake_made {h : HeapV} (k : HOk h) {n : Int} (h' : HeapV) (s : Spn) (e : hMake h n (-1) = (h', s, 0)) : s ∈ h'.l ∧ s.2.2.1 = n ∧ s.2.2.2 = -1 ∧ h'.l = h.l ++ [s] := by
  by_cases c : n < 1 ∨ (-1 : Int) < -1 ∨ (3 : Int) < -1
  · rw [hMake_arg c] at e
    injection e with _ e
    injection e with _ e
    cases e
  · cases hb : fBest h.free n with
    | none =>
      rw [hMake_full c hb] at e
      injection e with _ e
      injection e with _ e
      cases e
    | some r =>
      obtain ⟨g, _, _, _, e2, _⟩ := hMake_yes k c hb
      rw [e2] at e
      injection e with e3 e
      injection e with e4 _
      subst e3 e4
      exact ⟨List.mem_append_right _ (List.mem_singleton.2 rfl), rfl, rfl, rfl⟩
theorem last_span {v v1 : LargeV} {s : Spn} {n : Int} (o : LOk v) (hk : v.kept = []) (hw : v.waits = []) (hh : v.held = false) (e : lTake v n = (v1, s, 0)) :
    lGive v1 [s.1] = ({ v1 with kept := [s] }, 0) ∧ (lOf [s] n).map (·.1) = [s.1] ∧ lTake { v1 with kept := [s] } n = (v1, s, 0) ∧ (lOf v1.kept n).map (·.1) = [] ∧ v1.h.last ≤ v.h.last + 1 ∧ s ∈ v1.h.l := by
  obtain ⟨h1, h2, h3, h4⟩ := lTake_none hk n
  have ho := o.take n
  have hl := (o.take_heap n).2
  rw [e] at h1 h2 h3 h4 ho hl
  simp only at h1 h2 h3 h4 ho hl
  obtain ⟨hf, e2⟩ := h4 trivial
  injection e2 with e3 e4
  injection e4 with e4 e5
  obtain ⟨m1, m2, m3, _⟩ := hMake_made (h := v.h) (n := n) o.hok v1.h s (by rw [e3, e4]; exact Prod.ext rfl (Prod.ext rfl e5.symm))
  have hb : lBig s = true := by unfold lBig; rw [m3, m2, hf]; rfl
  have hg : lAsk v1.h [s.1] [] = some [s] := lAsk_of ho.hok (m := [s]) (l := []) (by simp) (fun t ht => by obtain rfl := List.mem_singleton.1 ht; exact ⟨m1, hb⟩)
  have hlo : lOf [s] n = [s] := by unfold lOf; simp [m2]
  refine ⟨?_, by rw [hlo]; rfl, ?_, by rw [h1]; rfl, hl, m1⟩
  · unfold lGive
    rw [hg]
    simp only
    rw [h1, h2, hw]
    simp only [List.any_cons, List.any_nil, List.append_nil, List.not_mem_nil, decide_false, Bool.or_false, Bool.false_eq_true, if_false]
    show (lPut v1 s, 0) = _
    unfold lPut
    rw [h3, hh, h1]
    simp [lOf, h2, hw]
  · unfold lTake
    rw [if_neg (by rw [hf]; simp)]
    show (match (lOf [s] n).getLast? with
      | some s_1 => _
      | none => _) = _
    rw [hlo]
    simp only [List.getLast?_singleton]
    have : [s].filter (fun x => !decide (x = s)) = [] := by simp
    simp only [this]
    rw [← h1]

set_option maxRecDepth 100000 in
set_option maxHeartbeats 4000000 in
theorem largeLast_any (pages n : Int) (A : Option Addr) (m c : Nat) (l : List Int) (w : World) (h0 : in64 pages) (h2 : in64 n) (hm : m ≤ maxLen) (hs : Sl w w.heap.size A m (l.map iv)) (hid : ∀ i ∈ l, in64 i) :
    Calls Tryz.prog 9 #[.int .i64 pages, .slice A m c, .int .i64 n] w fun e w' => e = .returned (.bool true) ∧ Below w.heap.size w w' := by
  have cw := fun W => awake10 W
  unfold maxLen at hm
  by_cases hp : pages < 4 ∨ 1024 < pages
  · have cn := code_hnew_no pages w hp
    by_cases g1 : 100 < pages
    · clear hs hid hp
      go_enter Tryz.func9, Tryz.ntmps9
      go_wp2_with (first
        | (go_at_call 32; (with_reducible refine cn.mono ?_); rintro e w1 ⟨rfl, rfl⟩)
        | (go_at_call 31; (with_reducible refine (cw _).mono ?_); rintro e w1 ⟨rfl, hb⟩))
      go_ret
      exact ⟨rfl, hb⟩
    · by_cases g2 : 60 < m
      · have g3 : (60 : Int) < (m : Int) := by omega
        clear hs hid hp
        go_enter Tryz.func9, Tryz.ntmps9
        go_wp2_with (first
          | (go_at_call 32; (with_reducible refine cn.mono ?_); rintro e w1 ⟨rfl, rfl⟩)
          | (go_at_call 31; (with_reducible refine (cw _).mono ?_); rintro e w1 ⟨rfl, hb⟩))
        go_ret
        exact ⟨rfl, hb⟩
      · have g3 : ¬ (60 : Int) < (m : Int) := by omega
        clear hs hid hp
        go_enter Tryz.func9, Tryz.ntmps9
        go_wp2_with (first
          | (go_at_call 32; (with_reducible refine cn.mono ?_); rintro e w1 ⟨rfl, rfl⟩)
          | (go_at_call 31; (with_reducible refine (cw _).mono ?_); rintro e w1 ⟨rfl, hb⟩))
        go_ret
        exact ⟨rfl, hb⟩
  obtain ⟨F, hN, cn⟩ := t_hnew pages w (by omega) (by omega)
  by_cases g1 : 100 < pages
  · clear hs hid hp
    go_enter Tryz.func9, Tryz.ntmps9
    go_wp2_with (first
      | (go_at_call 32; (with_reducible refine cn.mono ?_); rintro e w1 ⟨q, Sh, rfl, s1⟩; have B1 := hidb s1.bel; clear s1)
      | (go_at_call 31; (with_reducible refine (cw _).mono ?_); rintro e w2 ⟨rfl, hb⟩))
    go_ret
    exact ⟨rfl, bel_tr2 B1.out hb⟩
  by_cases g2 : 60 < m
  · have g3 : (60 : Int) < (m : Int) := by omega
    clear hs hid hp
    go_enter Tryz.func9, Tryz.ntmps9
    go_wp2_with (first
      | (go_at_call 32; (with_reducible refine cn.mono ?_); rintro e w1 ⟨q, Sh, rfl, s1⟩; have B1 := hidb s1.bel; clear s1)
      | (go_at_call 31; (with_reducible refine (cw _).mono ?_); rintro e w2 ⟨rfl, hb⟩))
    go_ret
    exact ⟨rfl, bel_tr2 B1.out hb⟩
  have g3 : ¬ (60 : Int) < (m : Int) := by omega
  have HR := hidb hs
  have HID := hidb hid
  clear hs hid
  have CN : Hid (∀ W p Sh, HeapSt w W p Sh ⟨pages, F, [], 0⟩ 0 pages → Calls Tryz.prog 33 #[.pointer (some ⟨p, 0, none⟩)] W fun e w' => ∃ q S, e = .returned (.pointer (some ⟨q, 0, none⟩)) ∧ Hid (KeepSt w w' q p S ⟨⟨pages, F, [], 0⟩, [], [], false⟩ 0 pages)) := hidb (fun W p Sh s => (t_knew s).mono fun e w' ⟨q, S, a, b⟩ => ⟨q, S, a, hidb b⟩)
  have CT : Hid (∀ W q p S (v : LargeV) j x, (KeepSt w W q p S v j pages ∧ v.kept = [] ∧ v.waits = [] ∧ v.held = false) → j < m → in64 x → Calls Tryz.prog 39 #[.pointer (some ⟨q, 0, none⟩), .int .i64 x] W fun e w' => (∃ s1 s2 s3 s4 no, e = .returned (.tuple #[.agg #[.int .i64 s1, .int .i64 s2, .int .i64 s3, .int .i64 s4], .int .i64 no])) ∧ ∃ S' v', Hid (KeepSt w w' q p S' v' (j + 1) pages ∧ v'.kept = [] ∧ v'.waits = [] ∧ v'.held = false)) := hidb (fun W q p S v j x s hj hx => by
    obtain ⟨⟨v1, ⟨s1, s2, s3, s4⟩, no⟩, hT⟩ : ∃ r, lTake v x = r := ⟨_, rfl⟩
    obtain ⟨h1, h3, h4, _⟩ := lTake_none s.2.1 x
    rw [hT] at h1 h3 h4
    refine (t_ktake s.1 (by omega) x hx v1 s1 s2 s3 s4 no hT).mono ?_
    rintro e w' ⟨rfl, S', s', _⟩
    exact ⟨⟨_, _, _, _, _, rfl⟩, S', v1, hidb ⟨s', h1, h3.trans s.2.2.1, h4.trans s.2.2.2⟩⟩)
  go_enter Tryz.func9, Tryz.ntmps9
  go_wp2_with (first
    | (go_at_call 32; (with_reducible refine cn.mono ?_); rintro e w1 ⟨p, Sh, rfl, s1⟩; have c2 := CN.out _ _ _ s1; clear s1)
    | (go_at_call 33; (with_reducible refine c2.mono ?_); rintro e w2 ⟨q, S2, rfl, s2⟩))
  have HS : Hid (KeepSt w w2 q p S2 ⟨⟨pages, F, [], 0⟩, [], [], false⟩ 0 pages ∧ ([] : List Spn) = [] ∧ ([] : List Spn) = [] ∧ false = false) := hidb ⟨s2.out, rfl, rfl, rfl⟩
  clear cn CN c2
  go_loopw [10] (fun x wr => ∃ (j : Nat) (S' : Nat → Prop) (u : LargeV), j ≤ m ∧ x = .int .i64 j ∧ Hid (KeepSt w wr q p S' u j pages ∧ u.kept = [] ∧ u.waits = [] ∧ u.held = false)) (fun x _ => (m - intOf x).toNat)
  case atStart => exact ⟨0, S2, _, Nat.zero_le _, rfl, HS⟩
  case round =>
    obtain ⟨j, S', u, hj, rfl, HS1⟩ := hrel
    by_cases hlt : j < m
    · obtain ⟨b, off, x, rfl, hx, hc⟩ := (HR.out.below HS1.out.1.bel).int_ hlt
      have hx64 := HID.out x (List.mem_of_getElem? hx)
      have ct := CT.out wr q p S' u j x HS1.out hlt hx64
      have hi0 : (0 : Int) ≤ (j : Int) := by omega
      have hi1 : (j : Int) < (m : Int) := by omega
      clear hx
      go_wp2_with (first
        | (go_at_call 39; (with_reducible refine ct.mono ?_); rintro e w3 ⟨⟨s1, s2, s3, s4, no, rfl⟩, S3, v3, HS3⟩))
      go_roundw
      case rel => exact ⟨j + 1, S3, v3, by omega, by go_num, HS3⟩
      case measure => simp [intOf]; omega
    · obtain rfl : j = m := by omega
      clear CT
      obtain ⟨⟨v1, ⟨s1, s2, s3, s4⟩, no⟩, hT⟩ : ∃ r, lTake u n = r := ⟨_, rfl⟩
      have C1 : Hid (Calls Tryz.prog 39 #[.pointer (some ⟨q, 0, none⟩), .int .i64 n] wr fun e w' => e = .returned (.tuple #[.agg #[.int .i64 s1, .int .i64 s2, .int .i64 s3, .int .i64 s4], .int .i64 no]) ∧ ∃ S', Hid (KeepSt w w' q p S' v1 (j + 1) pages)) := hidb ((t_ktake HS1.out.1 (by omega) n h2 v1 s1 s2 s3 s4 no hT).mono fun e w' ⟨a, S', b, _⟩ => ⟨a, S', hidb b⟩)
      by_cases hno : no = 0
      · subst hno
        obtain ⟨e1, e2, e3, e4, e5, e6⟩ := last_span HS1.out.1.ok HS1.out.2.1 HS1.out.2.2.1 HS1.out.2.2.2 hT
        have C2 : Hid (∀ W S, Hid (KeepSt w W q p S v1 (j + 1) pages) → Calls Tryz.prog 41 #[.pointer (some ⟨q, 0, none⟩), .slice (some ⟨W.heap.size + 1, 0, none⟩) 1 1] ((W.alloc (.cells #[.int .i64 s1, .int .i64 s2, .int .i64 s3, .int .i64 s4] 49)).alloc (.cells #[.int .i64 s1] 3)) fun e w' => e = .returned (.int .i64 0) ∧ ∃ S', Hid (KeepSt w w' q p S' { v1 with kept := [(s1, s2, s3, s4)] } (j + 1) pages ∧ SpAt w' W.heap.size (s1, s2, s3, s4) ∧ ¬ S' W.heap.size)) := hidb (fun W S s => by
          have hb1 := (Below.refl _ W).alloc (Nat.le_refl _) (.cells #[.int .i64 s1, .int .i64 s2, .int .i64 s3, .int .i64 s4] 49)
          have hb := bel_al2 hb1 (.cells #[.int .i64 s1] 3)
          have s2' := s.out.below hb
          have hsp : SpAt ((W.alloc (.cells #[.int .i64 s1, .int .i64 s2, .int .i64 s3, .int .i64 s4] 49)).alloc (.cells #[.int .i64 s1] 3)) W.heap.size (s1, s2, s3, s4) := (SpAt.new_ W (s1, s2, s3, s4) 49).below ((Below.refl _ _).alloc (Nat.le_refl _) (.cells #[.int .i64 s1] 3)) (by simp)
          have h64 : in64 s1 := (s.out.ok.ids64 (by have := s.out.la; omega) e6).1
          have hsl : Sl ((W.alloc (.cells #[.int .i64 s1, .int .i64 s2, .int .i64 s3, .int .i64 s4] 49)).alloc (.cells #[.int .i64 s1] 3)) ((W.alloc (.cells #[.int .i64 s1, .int .i64 s2, .int .i64 s3, .int .i64 s4] 49)).alloc (.cells #[.int .i64 s1] 3)).heap.size (some ⟨W.heap.size + 1, 0, none⟩) 1 ([s1].map iv) := by
            refine ⟨rfl, fun _ => ⟨W.heap.size + 1, 0, rfl, by simp, fun i hi => ?_⟩⟩
            obtain rfl : i = 0 := by omega
            simp [iv]
          refine (t_kgive s2' _ 1 1 [s1] hsl (by omega) (fun i hi => by obtain rfl := List.mem_singleton.1 hi; exact h64) _ 0 e1).mono ?_
          rintro e w' ⟨a, S', b, c⟩
          obtain ⟨d1, d2⟩ := c.sp hsp (fun h => by have := s.out.lt _ h; omega)
          exact ⟨a, S', hidb ⟨b, d1, d2⟩⟩)
        have C3 : Hid (∀ W S b1, Hid (KeepSt w W q p S { v1 with kept := [(s1, s2, s3, s4)] } (j + 1) pages ∧ SpAt W b1 (s1, s2, s3, s4) ∧ ¬ S b1) → Calls Tryz.prog 35 #[.pointer (some ⟨q, 0, none⟩), .int .i64 n] W fun e w' => ∃ A c, e = .returned (.slice A 1 c) ∧ Hid (KeepSt w w' q p S { v1 with kept := [(s1, s2, s3, s4)] } (j + 1) pages ∧ SpAt w' b1 (s1, s2, s3, s4) ∧ ¬ S b1 ∧ Sl w' w'.heap.size A 1 ([s1].map iv) ∧ ∀ a, A = some a → ¬ S a.block)) := hidb (fun W S b1 s => by
          refine (t_kkept s.out.1 n [s1] e2).mono ?_
          rintro e w' ⟨A, c, rfl, a, b⟩
          refine ⟨A, c, rfl, hidb ⟨s.out.1.below b, s.out.2.1.below b s.out.2.1.lt, s.out.2.2, Sl.of_own a, fun ad had h => ?_⟩⟩
          subst had
          have h3 := (a.lt ad.block rfl).1
          have h4 := s.out.1.lt _ h
          omega)
        have C4 : Hid (∀ W S b1 A, Hid (KeepSt w W q p S { v1 with kept := [(s1, s2, s3, s4)] } (j + 1) pages ∧ SpAt W b1 (s1, s2, s3, s4) ∧ ¬ S b1 ∧ Sl W W.heap.size A 1 ([s1].map iv) ∧ ∀ a, A = some a → ¬ S a.block) → Calls Tryz.prog 39 #[.pointer (some ⟨q, 0, none⟩), .int .i64 n] W fun e w' => e = .returned (.tuple #[.agg #[.int .i64 s1, .int .i64 s2, .int .i64 s3, .int .i64 s4], .int .i64 0]) ∧ ∃ S', Hid (KeepSt w w' q p S' v1 (j + 2) pages ∧ Sl w' w'.heap.size A 1 ([s1].map iv)) ∧ Hid (SpAt w' b1 (s1, s2, s3, s4))) := hidb (fun W S b1 A s => by
          refine (t_ktake s.out.1 (by omega) n h2 v1 s1 s2 s3 s4 0 e3).mono ?_
          rintro e w' ⟨a, S', b, c⟩
          obtain ⟨d1, d2⟩ := c.sp s.out.2.1 s.out.2.2.1
          exact ⟨a, S', hidb ⟨b, c.sl s.out.2.2.2.1 s.out.2.2.2.2⟩, hidb d1⟩)
        have C5 : Hid (∀ W S A c, Hid (KeepSt w W q p S v1 (j + 2) pages ∧ Sl W W.heap.size A 1 ([s1].map iv)) → Calls Tryz.prog 16 #[.slice A 1 c, .slice (some ⟨W.heap.size + 1, 0, none⟩) 1 1] ((W.alloc (.cells #[.int .i64 s1, .int .i64 s2, .int .i64 s3, .int .i64 s4] 49)).alloc (.cells #[.int .i64 s1] 3)) fun e w' => e = .returned (.bool true) ∧ Hid (KeepSt w w' q p S v1 (j + 2) pages)) := hidb (fun W S A c s => by
          have hb := bel_al2 ((Below.refl _ W).alloc (Nat.le_refl _) (.cells #[.int .i64 s1, .int .i64 s2, .int .i64 s3, .int .i64 s4] 49)) (.cells #[.int .i64 s1] 3)
          refine (ref_bints A (some ⟨W.heap.size + 1, 0, none⟩) 1 c 1 1 [s1] [s1] _ _ _ (s.out.2.below hb) (⟨rfl, fun _ => ⟨W.heap.size + 1, 0, rfl, Nat.lt_succ_self _, fun i hi => ?_⟩⟩ : Sl _ (W.heap.size + 1 + 1) _ _ _) (by omega) (by omega)).mono ?_
          · obtain rfl : i = 0 := by simpa using hi
            simp [iv]
          · rintro e w' ⟨rfl, nq, rfl⟩
            exact ⟨by simp, hidb (s.out.1.below (belowN hb nq))⟩)
        have C6 : Hid (∀ W S, Hid (KeepSt w W q p S v1 (j + 2) pages) → Calls Tryz.prog 35 #[.pointer (some ⟨q, 0, none⟩), .int .i64 n] W fun e w' => ∃ A c, e = .returned (.slice A 0 c) ∧ Hid (Below w.heap.size w w')) := hidb (fun W S s => by
          refine (t_kkept s.out n [] e4).mono ?_
          rintro e w' ⟨A, c, rfl, a, b⟩
          exact ⟨A, c, rfl, hidb (bel_tr2 s.out.bel b)⟩)
        have q1 := eqs_span s1 s2 s3 s4 s1 s2 s3 s4
        simp only [decide_true] at q1
        clear hT e1 e2 e3 e4 e5 e6
        go_wp2_with (first
          | (go_at_call 39; (with_reducible refine C1.out.mono ?_); rintro e w3 ⟨rfl, S3, H3⟩; clear C1)
          | (go_at_call 41; (with_reducible refine (C2.out _ _ H3).mono ?_); rintro e w4 ⟨rfl, S4, H4⟩)
          | (go_at_call 35; (with_reducible refine (C3.out _ _ _ H4).mono ?_); rintro e w5 ⟨A5, c5, rfl, H5⟩; clear C3)
          | (go_at_call 39; (with_reducible refine (C4.out _ _ _ _ H5).mono ?_); rintro e w6 ⟨rfl, S6, H6, H7⟩; clear H5; obtain ⟨y0, y1, y2, y3⟩ := H7.out.cells; have hlt6 := H7.out.lt)
          | (go_at_call 16; (with_reducible refine (C5.out _ _ _ _ H6).mono ?_); rintro e w8 ⟨rfl, H8⟩)
          | (go_at_call 35; (with_reducible refine (C6.out _ _ H8).mono ?_); rintro e w9 ⟨A9, c9, rfl, hb9⟩)
          | (go_at_call 31; (with_reducible refine (cw _).mono ?_); rintro e w10 ⟨rfl, hb10⟩))
        go_ret
        exact ⟨rfl, bel_tr2 hb9.out hb10⟩
      · clear hT
        go_wp2_with (first
          | (go_at_call 39; (with_reducible refine C1.out.mono ?_); rintro e w3 ⟨rfl, S3, H3⟩)
          | (go_at_call 31; (with_reducible refine (cw _).mono ?_); rintro e w9 ⟨rfl, hb9⟩))
        go_ret
        exact ⟨rfl, bel_tr2 (bel_al2 H3.out.bel _) hb9⟩

end Go.Proofs.YtfemnkokoohdoaaGreat
