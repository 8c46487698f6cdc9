/- What number, word and Read of layer 14 (frame) return. -/
import Derived.Test.YtkahpmnemabehaaDoorFrmMath
import Derived.Deep.Cut
import Derived.Deep.CutRange
import Derived.Deep.RegionHeld3
namespace Go.Proofs.YtkahpmnemabehaaDoor
open Go.RowKit
set_option linter.unusedVariables false

theorem code_frnum (x : Nat) (hx : x < 18446744073709551616) (w : World) :
    Calls Tryd.prog 24 #[.int .u64 (x : Int)] w fun e w' => e = .returned (.int .i64 (frNum x)) ∧ w = w' := by
  have E : Hid (wrap64 (IntKind.u64.wrap ((x : Int) - 1)) = frNum x) := hidb (by
    have e : IntKind.u64.wrap ((x : Int) - 1) = ((x : Int) - 1) % 18446744073709551616 := by simp [IntKind.wrap, IntKind.bits, IntKind.signed]
    rw [e]
    unfold frNum wrap64
    by_cases h0 : x = 0
    · subst h0; decide
    · rw [if_neg h0]
      by_cases h1 : x ≤ 9223372036854775808
      · rw [if_pos h1]; omega
      · rw [if_neg h1]; omega)
  go_enter Tryd.func24, Tryd.ntmps24
  go_wp2
  go_ret
  exact ⟨congrArg Ending.returned (congrArg (Value.int .i64) E.out), rfl⟩

/-- Row, of two words. -/
theorem code_arow2 {p g len : Nat} {xs : List Nat} (a : Nat) {w : World} {B : Nat} (ha : Ar w B p g len xs) (hin : a + 2 ≤ len) :
    Calls Tryd.prog 19 #[.pointer (some ⟨p, 0, none⟩), .int .i64 (a : Int), .int .i64 2] w fun e w' => ∃ b off c, e = .returned (.tuple #[.slice (some ⟨b, off, none⟩) 2 c, .int .i64 0]) ∧ w'.cell? ⟨b, off, none⟩ = some (.int .u64 (xs.getD a 0 : Nat)) ∧ w'.cell? ⟨b, off + 1, none⟩ = some (.int .u64 (xs.getD (a + 1) 0 : Nat)) ∧ b < w'.heap.size ∧ Below w.heap.size w w' := by
  have hl := ha.hlen
  have hrow : aRow xs a 2 = [xs.getD a 0, xs.getD (a + 1) 0] := by
    refine List.ext_getElem? fun i => ?_
    rw [aRow_get]
    match i with
    | 0 => rw [if_pos (by omega)]; simp [List.getD_eq_getElem?_getD, List.getElem?_eq_getElem (show a < xs.length by omega)]
    | 1 => rw [if_pos (by omega)]; simp [List.getD_eq_getElem?_getD, List.getElem?_eq_getElem (show a + 1 < xs.length by omega)]
    | i + 2 => rw [if_neg (by omega)]; simp
  have cr := code_arow_ok a 2 ha hin
  rw [hrow] at cr
  refine Calls.mono cr ?_
  rintro e w' ⟨A, c, rfl, ho, hb⟩
  have hs := Sl.of_own ho
  obtain ⟨b, off, u0, rfl, hbl, h0, c0⟩ := hs.at_ (k := 0) (by simp)
  obtain ⟨b', off', u1, e1, _, h1, c1⟩ := hs.at_ (k := 1) (by simp)
  injection e1 with e1
  injection e1 with e1 e2
  subst e1 e2
  simp [wv] at h0 h1
  subst h0 h1
  exact ⟨b, off, c, rfl, by simpa using c0, c1, hbl, hb⟩

/-- A result of three cells, written: the world behind it. -/
theorem bel_set3 {w W : World} {b : Nat} (h : Below w.heap.size w W) (hb : w.heap.size ≤ b) (u0 u1 u2 : Value) : Below w.heap.size w (((W.setCell ⟨b, 0, none⟩ u0).setCell ⟨b, 1, none⟩ u1).setCell ⟨b, 2, none⟩ u2) := ((h.setCell hb u0).setCell hb u1).setCell hb u2

set_option maxRecDepth 100000 in
theorem code_frread {w : World} {B p g len : Nat} {xs : List Nat} {lo hi : Nat} {tp : Option Addr} {l : Fns} (ha : Ar w B p g len xs) (ht : TbO w lo hi tp l) (hhi : hi ≤ w.heap.size) (hl : ∀ x ∈ l, 0 ≤ x.1 ∧ x.1 ≤ 1000) (hx : Wd xs) (a : Int) (h0 : in64 a) :
    Calls Tryd.prog 11 #[.pointer (some ⟨p, 0, none⟩), .pointer tp, .int .i64 a] w fun e w' => e = .returned (.tuple #[frC (frRead xs l a).1, .int .i64 (frRead xs l a).2]) ∧ Below w.heap.size w w' := by
  have hlen := ha.hlen
  have hsm := ha.small
  have hb0 := belF_al (Below.refl w.heap.size w) (.cells #[.int .i64 0, .int .i64 0, .int .i64 0] 33)
  have hz0 : (w.alloc (.cells #[.int .i64 0, .int .i64 0, .int .i64 0] 33)).heap.size = w.heap.size + 1 := by simp
  obtain ⟨W0, hW0⟩ : ∃ W0, W0 = w.alloc (.cells #[.int .i64 0, .int .i64 0, .int .i64 0] 33) := ⟨_, rfl⟩
  have ha0 := ha.alloc (.cells #[.int .i64 0, .int .i64 0, .int .i64 0] 33)
  rw [← hW0] at hb0 hz0 ha0
  have q0 : W0.cell? ⟨w.heap.size, 0, none⟩ = some (.int .i64 0) := by rw [hW0]; simp
  have q1 : W0.cell? ⟨w.heap.size, 1, none⟩ = some (.int .i64 0) := by rw [hW0]; simp
  have q2 : W0.cell? ⟨w.heap.size, 2, none⟩ = some (.int .i64 0) := by rw [hW0]; simp
  have z0 : ∀ i, W0.frozen? ⟨w.heap.size, i, none⟩ = false := fun i => by rw [hW0]; simp [go_sem]
  have HQ : Hid (∀ W, Below W0.heap.size W0 W → (W.cell? ⟨w.heap.size, 0, none⟩ = some (.int .i64 0) ∧ W.cell? ⟨w.heap.size, 1, none⟩ = some (.int .i64 0) ∧ W.cell? ⟨w.heap.size, 2, none⟩ = some (.int .i64 0)) ∧ W.frozen? ⟨w.heap.size, 0, none⟩ = false ∧ W.frozen? ⟨w.heap.size, 1, none⟩ = false ∧ W.frozen? ⟨w.heap.size, 2, none⟩ = false) := hidb (fun W hb => by
    refine ⟨⟨?_, ?_, ?_⟩, ?_, ?_, ?_⟩
    · rw [hb.cell (by show w.heap.size < _; omega)]; exact q0
    · rw [hb.cell (by show w.heap.size < _; omega)]; exact q1
    · rw [hb.cell (by show w.heap.size < _; omega)]; exact q2
    · rw [hb.frozen (by show w.heap.size < _; omega)]; exact z0 0
    · rw [hb.frozen (by show w.heap.size < _; omega)]; exact z0 1
    · rw [hb.frozen (by show w.heap.size < _; omega)]; exact z0 2)
  cases hin : aIn len a 2 with
  | false =>
    have E : frRead xs l a = (fr0, 2) := frRead_out (by rw [hlen]; exact hin)
    rw [E]
    have cr := code_arow_no (.pointer (some ⟨p, 0, none⟩)) len a 2 W0 hsm (code_awords p _ _ _ _ (ha0.alloc _).cell) h0 (by unfold in64; omega) hin
    rw [hW0] at cr
    have HB := hidb hb0
    have HZ := hidb hz0
    rw [hW0] at HQ HB HZ
    clear hW0 q0 q1 q2 z0 ha0 ha ht hx hl hin E hlen hsm h0 hb0 hz0
    unfold fr0 frC
    go_enter Tryd.func11, Tryd.ntmps11
    go_wp2_with (go_at_call 19; (with_reducible refine cr.mono ?_); rintro e w1 ⟨A1, c1, rfl, ho1, hb1⟩; obtain ⟨⟨r0, r1, r2⟩, f0, f1, f2⟩ := HQ.out _ hb1)
    obtain ⟨s0, s1, s2⟩ := three_cells w1 w.heap.size (.int .i64 0) (.int .i64 0) (.int .i64 0) _ _ _ r0 r1 r2
    exact bodyPost_ret (v := .tuple #[.agg #[.int .i64 0, .int .i64 0, .int .i64 0], .int .i64 2]) (by simp [results, Tryd.results11, go_sem, s0, s1, s2]) rfl ⟨rfl, bel_set3 (belF_tr HB.out hb1) (Nat.le_refl _) _ _ _⟩
  | true =>
    have hA := of_decide_eq_true hin
    obtain ⟨n, rfl⟩ : ∃ n : Nat, a = (n : Int) := ⟨a.toNat, by omega⟩
    have hn2 : n + 2 ≤ len := by omega
    have hin' : aIn xs.length (n : Int) 2 = true := by rw [hlen]; exact hin
    obtain ⟨k, hk⟩ : ∃ k, xs.getD n 0 = k := ⟨_, rfl⟩
    obtain ⟨f, hf⟩ : ∃ f, xs.getD (n + 1) 0 = f := ⟨_, rfl⟩
    have hget : ∀ i, i < xs.length → xs.getD i 0 < 18446744073709551616 := fun i hi => by
      rw [List.getD_eq_getElem?_getD, List.getElem?_eq_getElem hi]; exact hx _ (List.getElem_mem hi)
    have hk2 : k < 18446744073709551616 := by rw [← hk]; exact hget n (by omega)
    have hf2 : f < 18446744073709551616 := by rw [← hf]; exact hget (n + 1) (by omega)
    have cr := code_arow2 n ha0 hn2
    rw [hk, hf] at cr
    rw [hW0] at cr
    have n0 := fun W => code_frnum k hk2 W
    have n1 := fun W => code_frnum f hf2 W
    have HB := hidb hb0
    have HZ := hidb hz0
    have HA : Hid (∀ W, Below w.heap.size w W → Ar W B p g len xs) := hidb (fun W hb => ha.below hb (Nat.le_refl _))
    have HT : Hid (∀ W, Below w.heap.size w W → TbO W lo hi tp l) := hidb (fun W hb => ht.below (hb.mono hhi))
    rw [hW0] at HQ HB HZ
    have HE : Hid (frRead xs l (n : Int) = if len < k then (fr0, 9) else if aIn len (n : Int) (fWords l (frNum f)) then (⟨n, (f : Int) - 1, (k : Int) - 1⟩, 0) else (fr0, 9)) := hidb (by
      by_cases hfar : len < k
      · rw [if_pos hfar]; exact frRead_no hin' (frOk_far hk (by omega))
      · rw [if_neg hfar]
        have e := frOk_code xs l hl (by have := ht.few; omega) n k f hk hf hf2 (by omega)
        rw [hlen] at e
        rw [← e]
        cases hq : frOk xs l n with
        | false => exact frRead_no hin' hq
        | true => have h3 := frRead_yes hin' hq; rw [hk, hf] at h3; exact h3)
    have HF1 : Hid (k ≤ len → aIn len (n : Int) (fWords l (frNum f)) = true → frNum f = (f : Int) - 1 ∧ frNum k = (k : Int) - 1) := hidb (fun h1 h2 => by
      have e := frOk_code xs l hl (by have := ht.few; omega) n k f hk hf hf2 (by omega)
      rw [hlen, h2] at e
      have e := of_decide_eq_true e
      rw [hk, hf] at e
      have := ht.few
      constructor
      · unfold frNum; rw [if_neg (by omega), if_pos (by omega)]
      · unfold frNum
        by_cases k0 : k = 0
        · rw [if_pos k0]; omega
        · rw [if_neg k0, if_pos (by omega)])
    have HL := hidb hl
    have HIN := hidb h0
    have HFW : Hid (in64 (fWords l (frNum f))) := hidb (by have := fWords_cases l hl (frNum f); unfold in64; omega)
    clear hW0 q0 q1 q2 z0 ha0 ha ht hx hl hin hlen h0 hb0 hz0 hget hA hk hf hin'
    go_enter Tryd.func11, Tryd.ntmps11
    go_wp2_with (go_at_call 19; (with_reducible refine cr.mono ?_); rintro e w1 ⟨b, off, c1, rfl, d0, d1, hbl, hb1⟩)
    have HD : Hid (∀ W, Below w1.heap.size w1 W → W.cell? ⟨b, off, none⟩ = some (.int .u64 (k : Int)) ∧ W.cell? ⟨b, off + 1, none⟩ = some (.int .u64 (f : Int))) := hidb (fun W hb => ⟨(hb.cell (p := ⟨b, off, none⟩) hbl).trans d0, (hb.cell (p := ⟨b, off + 1, none⟩) hbl).trans d1⟩)
    go_cut [10] from 21 to 30 (fun v wx => v = .pointer (some ⟨w1.heap.size, 0, none⟩) ∧ wx = (w1.alloc (.cells #[.int .i64 (n : Int), .int .i64 (frNum f), .int .i64 (frNum k)] 33)).drew)
    case first =>
      go_region_held3 (fun W => W.cell? ⟨b, off, none⟩ = some (.int .u64 (k : Int)) ∧ W.cell? ⟨b, off + 1, none⟩ = some (.int .u64 (f : Int)))
        (first | ((with_reducible refine HD.out _ ?_); (repeat (first | with_reducible exact Below.refl _ _ | with_reducible apply belF_al | with_reducible apply belF_dr)); done) | (go_keep; done))
        (first
          | (go_at_call 24; (with_reducible refine (n0 _).mono ?_); rintro e w' ⟨rfl, rfl⟩)
          | (go_at_call 24; (with_reducible refine (n1 _).mono ?_); rintro e w' ⟨rfl, rfl⟩))
      all_goals
        go_wp2_with fail
        go_meet
        exact ⟨rfl, rfl⟩
    case rest =>
      obtain ⟨rfl, rfl⟩ := hcut
      obtain ⟨W2, hW2⟩ : ∃ W2, W2 = (w1.alloc (.cells #[.int .i64 (n : Int), .int .i64 (frNum f), .int .i64 (frNum k)] 33)).drew := ⟨_, rfl⟩
      have hb12 : Below w1.heap.size w1 W2 := by rw [hW2]; exact belF_dr (belF_al (Below.refl _ _) _)
      have y0 : W2.cell? ⟨w1.heap.size, 0, none⟩ = some (.int .i64 (n : Int)) := by rw [hW2]; simp
      have y1 : W2.cell? ⟨w1.heap.size, 1, none⟩ = some (.int .i64 (frNum f)) := by rw [hW2]; simp
      have y2 : W2.cell? ⟨w1.heap.size, 2, none⟩ = some (.int .i64 (frNum k)) := by rw [hW2]; simp
      have hz2 : W2.heap.size = w1.heap.size + 1 := by rw [hW2]; simp
      rw [← hW2]
      have HB2 : Hid (Below w.heap.size w W2) := hidb (belF_tr (belF_tr HB.out hb1) hb12)
      have HBW : Hid (∀ W, Below W2.heap.size W2 W → Below w.heap.size w W ∧ Below (w.alloc (.cells #[.int .i64 0, .int .i64 0, .int .i64 0] 33)).heap.size (w.alloc (.cells #[.int .i64 0, .int .i64 0, .int .i64 0] 33)) W) := hidb (fun W hb => ⟨belF_tr (belF_tr (belF_tr HB.out hb1) hb12) hb, belF_tr (belF_tr hb1 hb12) hb⟩)
      obtain ⟨x0, x1⟩ := HD.out W2 hb12
      have HC : Hid (∀ W, Below W2.heap.size W2 W → (W.cell? ⟨b, off, none⟩ = some (.int .u64 (k : Int)) ∧ W.cell? ⟨w1.heap.size, 1, none⟩ = some (.int .i64 (frNum f))) ∧ (W.cell? ⟨w1.heap.size, 0, none⟩ = some (.int .i64 (n : Int)) ∧ W.cell? ⟨w1.heap.size, 2, none⟩ = some (.int .i64 (frNum k)))) := hidb (fun W hb =>
        have hlt : w1.heap.size < W2.heap.size := by omega
        ⟨⟨(hb.cell (p := ⟨b, off, none⟩) (by show b < _; omega)).trans x0, (hb.cell (p := ⟨w1.heap.size, 1, none⟩) hlt).trans y1⟩, (hb.cell (p := ⟨w1.heap.size, 0, none⟩) hlt).trans y0, (hb.cell (p := ⟨w1.heap.size, 2, none⟩) hlt).trans y2⟩)
      have hwl : IntKind.u64.wrap (len : Int) = (len : Int) := by simp [IntKind.wrap, IntKind.bits, IntKind.signed]; omega
      clear hW2 hb12 HD d0 d1 hb1 cr n0 n1 y0 y2 x1
      by_cases hfar : len < k
      · have PN : Hid (∀ W, Below w.heap.size w W → Ending.returned (.tuple #[.agg #[.int .i64 0, .int .i64 0, .int .i64 0], .int .i64 9]) = Ending.returned (.tuple #[frC (frRead xs l (n : Int)).1, .int .i64 (frRead xs l (n : Int)).2]) ∧ Below w.heap.size w W) := hidb (fun W hb => ⟨by rw [HE.out, if_pos hfar]; rfl, hb⟩)
        have hd : decide (len < k) = true := decide_eq_true hfar
        have cw : ∀ q, Calls Tryd.prog 25 #[.pointer (some ⟨p, 0, none⟩)] (W2.drewN q) fun e w'' => e = .returned (.int .i64 (len : Int)) ∧ ∃ m, w'' = W2.drewN m := fun q => (code_awords p _ _ _ _ (HA.out _ (belowN HB2.out q)).cell).mono fun e w' h => ⟨h.1, q, h.2.symm⟩
        clear HE HF1 hfar hk2 hf2 hn2 hsm
        --@1
        go_wp2
        go_quiet (first | (go_at_call 25; (with_reducible exact cw _)))
        obtain ⟨wz, hwz⟩ : ∃ wz, wz = W2.drewN nq := ⟨_, rfl⟩
        have hbz : Below W2.heap.size W2 wz := by rw [hwz]; exact belowN (Below.refl _ _) _
        rw [← hwz]
        clear hwz
        obtain ⟨⟨r0, r1, r2⟩, f0, f1, f2⟩ := HQ.out wz (HBW.out wz hbz).2
        go_wp2
        obtain ⟨s0, s1, s2⟩ := three_cells wz w.heap.size (.int .i64 0) (.int .i64 0) (.int .i64 0) _ _ _ r0 r1 r2
        exact bodyPost_ret (v := .tuple #[.agg #[.int .i64 0, .int .i64 0, .int .i64 0], .int .i64 9]) (by simp [results, Tryd.results11, go_sem, s0, s1, s2]) rfl (PN.out _ (bel_set3 (HBW.out wz hbz).1 (Nat.le_refl _) _ _ _))
      · have t1 := fun W (hb : Below w.heap.size w W) => code_awords p _ _ _ W (HA.out W hb).cell
        have t2 := fun W (hb : Below w.heap.size w W) => code_fwordsT (HT.out W hb) (Nat.le_trans hhi hb.size) (frNum f) HL.out
        have t3 := fun W (hb : Below w.heap.size w W) => code_ain (HA.out W hb) (n : Int) (fWords l (frNum f)) HIN.out HFW.out
        obtain ⟨v, hv⟩ : ∃ v, aIn len (n : Int) (fWords l (frNum f)) = v := ⟨_, rfl⟩
        rw [hv] at t3
        have T1 := hidb t1
        have T2 := hidb t2
        have T3 := hidb t3
        have hnk : ¬ ((len : Int) < (k : Int)) := by omega
        have hd : decide (len < k) = false := decide_eq_false hfar
        have PN : Hid (∀ W, Below w.heap.size w W → (v = true → Ending.returned (.tuple #[.agg #[.int .i64 (n : Int), .int .i64 (frNum f), .int .i64 (frNum k)], .int .i64 0]) = Ending.returned (.tuple #[frC (frRead xs l (n : Int)).1, .int .i64 (frRead xs l (n : Int)).2]) ∧ Below w.heap.size w W) ∧ (v = false → Ending.returned (.tuple #[.agg #[.int .i64 0, .int .i64 0, .int .i64 0], .int .i64 9]) = Ending.returned (.tuple #[frC (frRead xs l (n : Int)).1, .int .i64 (frRead xs l (n : Int)).2]) ∧ Below w.heap.size w W)) := hidb (fun W hb => ⟨fun h => ⟨by rw [HE.out, if_neg hfar, hv, h, if_pos rfl]; obtain ⟨h1, h2⟩ := HF1.out (by omega) (hv.trans h); rw [h1, h2]; rfl, hb⟩, fun h => ⟨by rw [HE.out, if_neg hfar, hv, h, if_neg (by simp)]; rfl, hb⟩⟩)
        clear HE HF1 hk2 hf2 hn2 hsm hv t1 t2 t3
        --@2
        go_wp2
        go_region_held3 (fun W => W.cell? ⟨b, off, none⟩ = some (.int .u64 (k : Int)) ∧ W.cell? ⟨w1.heap.size, 1, none⟩ = some (.int .i64 (frNum f)))
          (first | ((with_reducible refine (HC.out _ ?_).1); (repeat (first | with_reducible exact Below.refl _ _ | with_reducible exact Hid.out (by assumption) | with_reducible apply belF_al | with_reducible apply belF_dr)); done) | (go_keep; done))
          (first
            | (go_at_call 25; (refine (T1.out _ (HBW.out _ (by (repeat (first | with_reducible exact Below.refl _ _ | with_reducible exact Hid.out (by assumption) | with_reducible apply belF_al | with_reducible apply belF_dr)))).1).mono ?_); rintro e w' ⟨rfl, rfl⟩)
            | (go_at_call 27; (refine (T2.out _ (HBW.out _ (by (repeat (first | with_reducible exact Below.refl _ _ | with_reducible exact Hid.out (by assumption) | with_reducible apply belF_al | with_reducible apply belF_dr)))).1).mono ?_); rintro e w3 ⟨rfl, hb3⟩; have hw3 : Hid (Below W2.heap.size W2 w3) := hidb (belF_tr (by (repeat (first | with_reducible exact Below.refl _ _ | with_reducible exact Hid.out (by assumption) | with_reducible apply belF_al | with_reducible apply belF_dr))) hb3); obtain ⟨⟨x3, y3⟩, _⟩ := HC.out w3 hw3.out; clear hb3)
            | (go_at_call 26; (refine (T3.out _ (HBW.out _ (by (repeat (first | with_reducible exact Below.refl _ _ | with_reducible exact Hid.out (by assumption) | with_reducible apply belF_al | with_reducible apply belF_dr)))).1).mono ?_); rintro e w' ⟨rfl, rfl⟩))
        obtain ⟨⟨r0, r1, r2⟩, f0, f1, f2⟩ := HQ.out w3 (HBW.out w3 hw3.out).2
        obtain ⟨_, yy0, yy2⟩ := HC.out w3 hw3.out
        have HP3 := hidb (PN.out _ (bel_set3 (HBW.out w3 hw3.out).1 (Nat.le_refl _) (.int .i64 0) (.int .i64 0) (.int .i64 0)))
        have HP4 := hidb (PN.out _ (bel_set3 (HBW.out w3 hw3.out).1 (Nat.le_refl _) (.int .i64 (n : Int)) (.int .i64 (frNum f)) (.int .i64 (frNum k))))
        cases v with
        | true =>
          go_wp2
          obtain ⟨s0, s1, s2⟩ := three_cells w3 w.heap.size (.int .i64 (n : Int)) (.int .i64 (frNum f)) (.int .i64 (frNum k)) _ _ _ r0 r1 r2
          exact bodyPost_ret (v := .tuple #[.agg #[.int .i64 (n : Int), .int .i64 (frNum f), .int .i64 (frNum k)], .int .i64 0]) (by simp [results, Tryd.results11, go_sem, s0, s1, s2]) rfl (HP4.out.1 (by trivial))
        | false =>
          go_wp2
          obtain ⟨s0, s1, s2⟩ := three_cells w3 w.heap.size (.int .i64 0) (.int .i64 0) (.int .i64 0) _ _ _ r0 r1 r2
          exact bodyPost_ret (v := .tuple #[.agg #[.int .i64 0, .int .i64 0, .int .i64 0], .int .i64 9]) (by simp [results, Tryd.results11, go_sem, s0, s1, s2]) rfl (HP3.out.2 (by trivial))
end Go.Proofs.YtkahpmnemabehaaDoor
