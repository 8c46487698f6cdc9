/- The walk of layer 7's statement on a span that is made, and freed at once. -/
import Derived.Test.YtdobmdhhgponpaaHeapLaws0
namespace Go.Proofs.Ytdobmdhhgponpaa
open Go.RowKit
set_option linter.unusedVariables false

/-- Make answers an error, and changes nothing; or another span. -/
theorem hMake_two {h : HeapV} (k : HOk h) (n : Int) : (∃ no, no ≠ 0 ∧ hMake h n 0 = (h, spanNone, no)) ∨ ∃ h' h'' s1 s2 s3 s4, hMake h n 0 = (h', (s1, s2, s3, s4), 0) ∧ hDrop h' [s1] = (h'', 0) ∧ h''.free = h.free ∧ hSpans h'' = hSpans h ∧ 1 ≤ s1 ∧ s1 ≤ h.last + 1 := by
  by_cases c : n < 1 ∨ (0 : Int) < -1 ∨ 3 < (0 : Int)
  · exact Or.inl ⟨1, by decide, hMake_arg c⟩
  · cases hb : fBest h.free n with
    | none => exact Or.inl ⟨3, by decide, hMake_full c hb⟩
    | some r =>
      obtain ⟨g, _, _, _, e, k2⟩ := hMake_yes k c hb
      have hc : [h.last + 1].Nodup ∧ ∀ i ∈ [h.last + 1], ∃ s ∈ (h.l ++ [(h.last + 1, r.1, n, (0 : Int))]), s.1 = i := ⟨by simp, fun i hi => by obtain rfl := List.mem_singleton.1 hi; exact ⟨_, List.mem_append_right _ (List.mem_cons_self ..), rfl⟩⟩
      obtain ⟨g2, e2, k3⟩ := hDrop_yes k2 hc
      have hl : hLeft (h.l ++ [(h.last + 1, r.1, n, (0 : Int))]) [h.last + 1] = h.l := by
        unfold hLeft
        rw [List.filter_append, List.filter_eq_self.2 (fun s hs => by have := k.idr s hs; simp; omega)]
        simp
      have hl2 : hLeft (⟨h.pages, g, h.l ++ [(h.last + 1, r.1, n, (0 : Int))], h.last + 1⟩ : HeapV).l [h.last + 1] = h.l := hl
      rw [hl2] at e2 k3
      have hla := k.la
      refine Or.inr ⟨_, _, _, _, _, _, e, e2, ?_, rfl, by omega, by omega⟩
      exact k3.free_eq k rfl (fun s => Iff.rfl)

theorem same_offH {A A2 : Option Addr} {n m c c2 : Nat} {xs ys : List (Int × Int)} {W : World} {B B2 : Nat} (h1 : Rn W B A n xs) (h2 : Rn W B2 A2 m ys) (hn : n ≤ 65536) (hm : m ≤ 65536) :
    Calls Try.prog 13 #[.slice A n c, .slice A2 m c2] W fun e w' => e = .returned (.bool (decide (xs = ys))) ∧ Below W.heap.size W w' :=
  (ref_xsame A A2 n c m c2 xs ys W B B2 h1 h2 (by omega) (by omega)).mono fun e w' ⟨x, q, y⟩ => ⟨x, by rw [y]; exact belowN (Below.refl _ _) q⟩
theorem same_spans {A A2 : Option Addr} {n m c c2 : Nat} {xs ys : List (Int × Int × Int × Int)} {W : World} {B B2 : Nat} (h1 : Sn W B A n xs) (h2 : Sn W B2 A2 m ys) (hn : n ≤ 1000000000) (hm : m ≤ 1000000000) :
    Calls Try.prog 14 #[.slice A n c, .slice A2 m c2] W fun e w' => e = .returned (.bool (decide (xs = ys))) ∧ Below W.heap.size W w' :=
  (ref_hsame A A2 n c m c2 xs ys W B B2 h1 h2 (by omega) (by omega)).mono fun e w' ⟨x, q, y⟩ => ⟨x, by rw [y]; exact belowN (Below.refl _ _) q⟩
theorem t_same5 {A A2 : Option Addr} {c c2 : Nat} {xs : List (Int × Int)} {W : World} {B base : Nat} (h1 : Rn W B A xs.length xs) (h2 : W.ownsRow base 33 2 (.slice A2 xs.length c2) xs.length (rcells xs)) (hn : xs.length ≤ 65536) :
    Calls Try.prog 13 #[.slice A xs.length c, .slice A2 xs.length c2] W fun e w' => e = .returned (.bool true) ∧ Below W.heap.size W w' :=
  (same_offH h1 (Rn.of_own h2 rfl) hn hn).mono fun e w' ⟨x, y⟩ => ⟨by rw [x]; simp, y⟩
theorem t_same7 {A A2 : Option Addr} {c c2 : Nat} {xs : List (Int × Int × Int × Int)} {W : World} {B base : Nat} (h1 : Sn W B A xs.length xs) (h2 : W.ownsRow base 35 4 (.slice A2 xs.length c2) xs.length (cellsAll scells xs)) (hn : xs.length ≤ 1000000000) :
    Calls Try.prog 14 #[.slice A xs.length c, .slice A2 xs.length c2] W fun e w' => e = .returned (.bool true) ∧ Below W.heap.size W w' :=
  (same_spans h1 (RowOf.of_own scells_len h2 rfl) hn hn).mono fun e w' ⟨x, y⟩ => ⟨by rw [x]; simp, y⟩
/-- One number, laid. -/
theorem Sl.one_ (w : World) (i : Int) (t : TypeId) : Sl (w.alloc (.cells #[.int .i64 i] t)) (w.alloc (.cells #[.int .i64 i] t)).heap.size (some ⟨w.heap.size, 0, none⟩) 1 ([i].map iv) := by
  refine ⟨rfl, fun _ => ⟨w.heap.size, 0, rfl, by simp, fun j hj => ?_⟩⟩
  obtain rfl : j = 0 := by omega
  exact World.cell?_alloc_at _ _ _ 0 (by simp)
theorem OwnAp.own {S : Nat → Prop} {W : World} {base : Nat} {e : TypeId} {s : Nat} {v : Value} {n : Nat} {xs : List Value} (h : OwnAp S W base e s v n xs) : W.ownsRow base e s v n xs := h.1
theorem Sl.one2 (w : World) (i s2 s3 s4 : Int) : Sl ((w.alloc (.cells #[.int .i64 i, .int .i64 s2, .int .i64 s3, .int .i64 s4] 35)).alloc (.cells #[.int .i64 i] 3)) ((w.alloc (.cells #[.int .i64 i, .int .i64 s2, .int .i64 s3, .int .i64 s4] 35)).alloc (.cells #[.int .i64 i] 3)).heap.size (some ⟨w.heap.size + 1, 0, none⟩) 1 ([i].map iv) := by
  have h := Sl.one_ (w.alloc (.cells #[.int .i64 i, .int .i64 s2, .int .i64 s3, .int .i64 s4] 35)) i 3
  rw [show (⟨w.heap.size + 1, 0, none⟩ : Addr) = ⟨(w.alloc (.cells #[.int .i64 i, .int .i64 s2, .int .i64 s3, .int .i64 s4] 35)).heap.size, 0, none⟩ by simp]
  exact h
theorem Sn.of_own_ {W : World} {base : Nat} {A : Option Addr} {c : Nat} {xs : List (Int × Int × Int × Int)} (h : W.ownsRow base 35 4 (.slice A xs.length c) xs.length (cellsAll scells xs)) : Sn W W.heap.size A xs.length xs := RowOf.of_own scells_len h rfl
theorem Nat.le_k : 1 ≤ 60000 := by omega
/-- How many spans there are. -/
theorem spans_len {h : HeapV} (k : HOk h) (hlb : h.last ≤ 1000000000) : (hSpans h).length ≤ 1000000000 := by
  have hr := hSpans_rises k
  refine allOf_len k hlb _ ⟨?_, hSpans_mem k⟩
  unfold List.Nodup
  rw [List.pairwise_map]
  refine List.Pairwise.imp_of_mem ?_ hr
  intro a b ha hb h1 e
  have := ids_inj k.ids ((hSpans_mem k a).1 ha) ((hSpans_mem k b).1 hb) e
  subst this; omega

/-- The act at a place. -/
theorem act_at {w W : World} {B m : Nat} {A : Option Addr} {l : List Act7} (hs : RowOf (Act7Is w) 4 W B A m l) {j : Nat} (hj : j < m) :
    ∃ b off a, A = some ⟨b, off, none⟩ ∧ b < B ∧ l[j]? = some a ∧ Act7Is w [.bool a.free, .slice a.A a.len a.cap, iv a.pages, iv a.order] a ∧ W.cell? ⟨b, off + j * 4, none⟩ = some (.bool a.free) ∧ W.cell? ⟨b, off + j * 4 + 1, none⟩ = some (.slice a.A a.len a.cap) ∧ W.cell? ⟨b, off + j * 4 + 2, none⟩ = some (.int .i64 a.pages) ∧ W.cell? ⟨b, off + j * 4 + 3, none⟩ = some (.int .i64 a.order) := by
  obtain ⟨b, off, a, cs, e, hb, hy, hl, hc, ha⟩ := RowOf.at_ hs hj
  obtain ⟨rfl, h2⟩ := ha
  refine ⟨b, off, a, e, hb, hy, ⟨rfl, h2⟩, hc 0 (by omega), hc 1 (by omega), hc 2 (by omega), hc 3 (by omega)⟩

set_option maxRecDepth 100000 in
set_option maxHeartbeats 8000000 in
theorem heapBack_any (pages : Int) (A : Option Addr) (m c : Nat) (l : List Act7) (n : Int) (w : World) (h0 : in64 pages) (h1 : in64 n) (hm : m ≤ maxLen) (hs : RowOf (Act7Is w) 4 w w.heap.size A m l) :
    Calls Try.prog 5 #[.int .i64 pages, .slice A m c, .int .i64 n] w fun e w' => e = .returned (.bool true) ∧ Below w.heap.size w w' := by
  have cw := fun W => awake7 W
  unfold maxLen at hm
  by_cases hbad : pages < 4 ∨ 1024 < pages
  · have cn := code_hnew_no pages w hbad
    by_cases g1 : 50 < m
    · have g2 : (50 : Int) < (m : Int) := by omega
      clear hs hbad
      go_enter Try.func5, Try.ntmps5
      go_wp2_with (first
        | (go_at_call 6; (with_reducible refine cn.mono ?_); rintro e w1 ⟨rfl, rfl⟩)
        | (go_at_call 7; (with_reducible refine (cw _).mono ?_); rintro e w2 ⟨rfl, hb2⟩))
      go_ret
      exact ⟨rfl, hb2⟩
    · have g2 : ¬ (50 : Int) < (m : Int) := by omega
      clear hs hbad
      go_enter Try.func5, Try.ntmps5
      go_wp2_with (first
        | (go_at_call 6; (with_reducible refine cn.mono ?_); rintro e w1 ⟨rfl, rfl⟩)
        | (go_at_call 7; (with_reducible refine (cw _).mono ?_); rintro e w2 ⟨rfl, hb2⟩))
      go_ret
      exact ⟨rfl, hb2⟩
  obtain ⟨F, hN, cn⟩ := t_hnew pages w (by omega) (by omega)
  clear hN
  by_cases g1 : 50 < m
  · have g2 : (50 : Int) < (m : Int) := by omega
    clear hs hbad
    go_enter Try.func5, Try.ntmps5
    go_wp2_with (first
      | (go_at_call 6; (with_reducible refine cn.mono ?_); rintro e w1 ⟨p, S, rfl, s1⟩; have S1 := hidb s1; clear s1)
      | (go_at_call 7; (with_reducible refine (cw _).mono ?_); rintro e w2 ⟨rfl, hb2⟩))
    go_ret
    exact ⟨rfl, S1.out.bel.trans (hb2.mono S1.out.bel.size)⟩
  have g2 : ¬ (50 : Int) < (m : Int) := by omega
  have HR := hidb hs
  have hm50 : m ≤ 50 := by omega
  clear hs hbad
  go_enter Try.func5, Try.ntmps5
  go_wp2_with (first
    | (go_at_call 6; (with_reducible refine cn.mono ?_); rintro e w1 ⟨p, S, rfl, s1⟩; have S1 := hidb s1; clear s1))
  clear cn
  go_loopw [9] (fun v wr => ∃ (j : Nat) (S' : Nat → Prop) (h : HeapV), j ≤ m ∧ v = .int .i64 j ∧ Hid (HeapSt w wr p S' h j pages)) (fun v _ => (m - intOf v).toNat)
  case atStart => exact ⟨0, S, _, Nat.zero_le _, rfl, S1⟩
  case round =>
    obtain ⟨j, S', h, hj, rfl, HS⟩ := hrel
    by_cases hlt : j < m
    · obtain ⟨b, off, a, rfl, hbz, hx, ha, hc0, hc1, hc2, hc3⟩ := act_at (HR.out.below HS.out.bel) hlt
      obtain ⟨_, ha1, ha2, ha3, ha4, ha5⟩ := ha
      have HSL := hidb ((ha2.below HS.out.bel).more HS.out.bel.size)
      have HA3 := hidb ha3
      have hi0 : (0 : Int) ≤ (j : Int) := by omega
      have hi1 : (j : Int) < (m : Int) := by omega
      obtain ⟨af, aA, alen, acap, aids, apg, aor⟩ := a
      simp only at hc0 hc1 hc2 hc3 ha1 ha4 ha5 HSL HA3
      unfold maxLen at ha1
      clear hx ha2 ha3
      by_cases gl : 10 < alen
      · have gl2 : (10 : Int) < (alen : Int) := by omega
        go_wp2_with (first
          | (go_at_call 7; (with_reducible refine (cw _).mono ?_); rintro e w2 ⟨rfl, hb2⟩))
        go_ret
        exact ⟨rfl, HS.out.bel.trans (hb2.mono HS.out.bel.size)⟩
      have gl2 : ¬ (10 : Int) < (alen : Int) := by omega
      have hk9 : j + 1 ≤ 1000000000 := by omega
      cases af with
      | true =>
        obtain ⟨⟨h', no⟩, hD⟩ : ∃ r, hDrop h aids = r := ⟨_, rfl⟩
        have cf := t_hfree HS.out aA alen acap aids HSL.out (by omega) HA3.out h' no hD
        clear hD
        go_wp2_with (first
          | (go_at_call 8; (with_reducible refine cf.mono ?_); rintro e w2 ⟨rfl, S2, s2, _⟩; have HS2 := hidb s2; clear s2))
        go_roundw
        case rel => exact ⟨j + 1, S2, h', by omega, by go_num, hidb ⟨HS2.out.hp, HS2.out.low, HS2.out.bel, by have := HS2.out.la; omega, HS2.out.pg⟩⟩
        case measure => simp [intOf]; omega
      | false =>
        obtain ⟨⟨h', ⟨s1, s2, s3, s4⟩, no⟩, hM⟩ : ∃ r, hMake h apg aor = r := ⟨_, rfl⟩
        have cm := t_hmake (HS.out.below (Below.refl _ wr).drew) hk9 apg aor ha4 ha5 h' s1 s2 s3 s4 no hM
        have HCE : Hid (∀ w2, Below w.heap.size w w2 → w2.cell? ⟨b, off + j * 4 + 2, none⟩ = some (.int .i64 apg) ∧ w2.cell? ⟨b, off + j * 4 + 3, none⟩ = some (.int .i64 aor)) := hidb (fun w2 hb => by
          rw [hb.cell (p := ⟨b, off + j * 4 + 2, none⟩) hbz, hb.cell (p := ⟨b, off + j * 4 + 3, none⟩) hbz, ← HS.out.bel.cell (p := ⟨b, off + j * 4 + 2, none⟩) hbz, ← HS.out.bel.cell (p := ⟨b, off + j * 4 + 3, none⟩) hbz]
          exact ⟨hc2, hc3⟩)
        clear hM
        go_wp2
        go_region_held3 (fun w' => w'.cell? ⟨b, off + j * 4 + 2, none⟩ = some (.int .i64 apg) ∧ w'.cell? ⟨b, off + j * 4 + 3, none⟩ = some (.int .i64 aor)) (go_keep)
          (first | (go_at_call 9; (with_reducible refine cm.mono ?_); rintro e w2 ⟨rfl, S2, s2', _⟩; have HS2 := hidb s2'; clear s2'; obtain ⟨c2', c3'⟩ := HCE.out _ HS2.out.bel))
        go_wp2
        go_roundw
        case rel => exact ⟨j + 1, S2, h', by omega, by go_num, hidb ⟨HS2.out.hp, HS2.out.low, HS2.out.bel, by have := HS2.out.la; omega, HS2.out.pg⟩⟩
        case measure => simp [intOf]; omega
    · obtain rfl : j = m := by omega
      obtain ⟨LR, hLR⟩ : ∃ LR, fList h.free = LR := ⟨_, rfl⟩
      obtain ⟨LS, hLS⟩ : ∃ LS, hSpans h = LS := ⟨_, rfl⟩
      have hl1 : LR.length ≤ 65536 := by rw [← hLR]; have h2 := fList_len h.free; have h3 := HS.out.hp.ok.fl; omega
      have hlb : h.last ≤ 1000000000 := by have := HS.out.la; omega
      have hl2 : LS.length ≤ 1000000000 := by rw [← hLS]; exact spans_len HS.out.hp.ok hlb
      have hk9 : j + 1 ≤ 1000000000 := by omega
      have HLR := hidb hLR
      have HLS := hidb hLS
      have h00 : in64 0 := ⟨by omega, by omega⟩
      have tok1 : True := trivial
      have tok2 : True := trivial
      have ST := HS
      rcases hMake_two HS.out.hp.ok n with ⟨no, hno, hM⟩ | ⟨h', h'', s1, s2, s3, s4, hM, hD, hf, hsp, b1, b2⟩
      · have hne : (no != 0) = true := by simp; omega
        have HM : Hid (hMake h n 0 = (h, (0, 0, 0, 0), no)) := hidb hM
        clear hLR hLS hM hno HS
        go_wp2_with (first
          | (go_at_call 10; have _t := tok1; (with_reducible refine (t_hruns ST.out LR HLR.out).mono ?_); rintro e w2 ⟨A2, c2, rfl, hr2, hb2⟩; have HW := hidb (ST.out.new_ hr2); replace ST := hidb (ST.out.below hb2); clear tok1 hr2 hb2 _t)
          | (go_at_call 11; have _t := tok2; (with_reducible refine (t_hspans ST.out LS HLS.out).mono ?_); rintro e w3 ⟨A3, c3, rfl, hr3, hb3⟩; replace HW := hidb (ToO.below hb3 _ _ _ _ _ _ HW.out); replace ST := hidb (ST.out.below hb3); clear tok2 hr3 hb3 _t)
          | (go_at_call 9; (with_reducible refine (t_hmake ST.out hk9 n 0 h1 h00 h 0 0 0 0 no HM.out).mono ?_); rintro e w4 ⟨rfl, S4, s4', to4⟩; replace HW := hidb (ToO.below ((Below.refl _ w4).alloc (Nat.le_refl _) (.cells #[.int .i64 0, .int .i64 0, .int .i64 0, .int .i64 0] 35)) _ _ _ _ _ _ (to4 _ _ _ _ _ _ HW.out)); replace ST := hidb (s4'.below ((Below.refl _ w4).alloc (Nat.le_refl _) (.cells #[.int .i64 0, .int .i64 0, .int .i64 0, .int .i64 0] 35))); clear s4' to4)
          | (go_at_call 10; (with_reducible refine (t_hruns ST.out LR HLR.out).mono ?_); rintro e w5 ⟨A5, c5, rfl, hr5, hb5⟩; have HN := hidb (Rn.of_own hr5 rfl); replace HW := hidb (ToO.below hb5 _ _ _ _ _ _ HW.out); replace ST := hidb (ST.out.below hb5); clear hr5 hb5)
          | (go_at_call 13; (with_reducible refine (t_same5 HN.out HW.out.own hl1).mono ?_); rintro e w6 ⟨rfl, hb6⟩; replace ST := hidb (ST.out.below hb6); clear hb6)
          | (go_at_call 7; (with_reducible refine (cw _).mono ?_); rintro e w7 ⟨rfl, hb7⟩))
        go_ret
        exact ⟨rfl, ST.out.bel.trans (hb7.mono ST.out.bel.size)⟩
      · have HM := hidb hM
        have HD := hidb hD
        have HLR2 : Hid (fList h''.free = LR) := hidb (by rw [hf]; exact hLR)
        have HLS2 : Hid (hSpans h'' = LS) := hidb (by rw [hsp]; exact hLS)
        have HIN : Hid (∀ i ∈ [s1], in64 i) := hidb (fun i hi => by obtain rfl := List.mem_singleton.1 hi; exact ⟨by omega, by omega⟩)
        clear hLR hLS hM hD hf hsp b1 b2 HS hlb
        go_wp2_with (first
          | (go_at_call 10; have _t := tok1; (with_reducible refine (t_hruns ST.out LR HLR.out).mono ?_); rintro e w2 ⟨A2, c2, rfl, hr2, hb2⟩; have HW := hidb (ST.out.new_ hr2); replace ST := hidb (ST.out.below hb2); clear tok1 hr2 hb2 _t)
          | (go_at_call 11; have _t := tok2; (with_reducible refine (t_hspans ST.out LS HLS.out).mono ?_); rintro e w3 ⟨A3, c3, rfl, hr3, hb3⟩; have HSW := hidb (ST.out.new_ hr3); replace HW := hidb (ToO.below hb3 _ _ _ _ _ _ HW.out); replace ST := hidb (ST.out.below hb3); clear tok2 hr3 hb3 _t)
          | (go_at_call 9; (with_reducible refine (t_hmake ST.out hk9 n 0 h1 h00 h' s1 s2 s3 s4 0 HM.out).mono ?_); rintro e w4 ⟨rfl, S4, s4', to4⟩; replace HW := hidb (ToO.below ((Below.refl _ w4).alloc (Nat.le_refl _) (.cells #[.int .i64 s1, .int .i64 s2, .int .i64 s3, .int .i64 s4] 35)) _ _ _ _ _ _ (to4 _ _ _ _ _ _ HW.out)); replace HSW := hidb (ToO.below ((Below.refl _ w4).alloc (Nat.le_refl _) (.cells #[.int .i64 s1, .int .i64 s2, .int .i64 s3, .int .i64 s4] 35)) _ _ _ _ _ _ (to4 _ _ _ _ _ _ HSW.out)); replace ST := hidb (s4'.below ((Below.refl _ w4).alloc (Nat.le_refl _) (.cells #[.int .i64 s1, .int .i64 s2, .int .i64 s3, .int .i64 s4] 35))); clear s4' to4)
          | (go_at_call 8; (with_reducible refine (t_hfree (ST.out.below ((Below.refl _ _).alloc (Nat.le_refl _) (.cells #[.int .i64 s1] 3))) _ 1 1 [s1] (Sl.one2 w4 s1 s2 s3 s4) Nat.le_k HIN.out h'' 0 HD.out).mono ?_); rintro e w8 ⟨rfl, S8, s8, to8⟩; replace HW := hidb (to8 _ _ _ _ _ _ (ToO.below ((Below.refl _ _).alloc (Nat.le_refl _) _) _ _ _ _ _ _ HW.out)); replace HSW := hidb (to8 _ _ _ _ _ _ (ToO.below ((Below.refl _ _).alloc (Nat.le_refl _) _) _ _ _ _ _ _ HSW.out)); replace ST := hidb s8; clear s8 to8)
          | (go_at_call 10; (with_reducible refine (t_hruns ST.out LR HLR2.out).mono ?_); rintro e w5 ⟨A5, c5, rfl, hr5, hb5⟩; have HN := hidb (Rn.of_own hr5 rfl); replace HW := hidb (ToO.below hb5 _ _ _ _ _ _ HW.out); replace HSW := hidb (ToO.below hb5 _ _ _ _ _ _ HSW.out); replace ST := hidb (ST.out.below hb5); clear hr5 hb5)
          | (go_at_call 11; (with_reducible refine (t_hspans ST.out LS HLS2.out).mono ?_); rintro e w9 ⟨A9, c9, rfl, hr9, hb9⟩; have HSN := hidb (Sn.of_own_ hr9); replace HSW := hidb (ToO.below hb9 _ _ _ _ _ _ HSW.out); replace ST := hidb (ST.out.below hb9); clear hr9 hb9)
          | (go_at_call 13; (with_reducible refine (t_same5 HN.out HW.out.own hl1).mono ?_); rintro e w6 ⟨rfl, hb6⟩; replace HSW := hidb (ToO.below hb6 _ _ _ _ _ _ HSW.out); replace ST := hidb (ST.out.below hb6); clear hb6)
          | (go_at_call 14; (with_reducible refine (t_same7 HSN.out HSW.out.own hl2).mono ?_); rintro e w10 ⟨rfl, hb10⟩; replace ST := hidb (ST.out.below hb10); clear hb10)
          | (go_at_call 7; (with_reducible refine (cw _).mono ?_); rintro e w7 ⟨rfl, hb7⟩))
        go_ret
        exact ⟨rfl, ST.out.bel.trans (hb7.mono ST.out.bel.size)⟩

end Go.Proofs.Ytdobmdhhgponpaa
