/- The walk of layer 6's statement on pages that are cut out, and added again. -/
import Derived.Test.YtbihliaeidpfaaaRunsNil
import Derived.Test.YtbihliaeidpfaaaRunsPlain3
import Derived.Deep.RegionHeld3
namespace Go.Proofs.Ytbihliaeidpfaaa
open Go.RowKit
set_option linter.unusedVariables false

theorem RnOff.rn {w : World} {S : Nat → Prop} {A : Option Addr} {n : Nat} {rs : List (Int × Int)} (h : RnOff w S A n rs) : Rn w w.heap.size A n rs := h.1
theorem err_neq6 (a b : Int) (W : World) : (binOp .neq 30 (.int .i64 a) (.int .i64 b)).run Try.prog W = .ok (.bool (a != b)) W := by
  simp [go_sem]
/-- New of runs that came in, with or without an error. -/
theorem new_yes {w0 : World} {A : Option Addr} {m d : Nat} {rs : List (Int × Int)} (hs : Rn w0 w0.heap.size A m rs) (hm : m ≤ 60000) (hr : ∀ r ∈ rs, in64 r.1 ∧ in64 r.2) {F : List Bool} (hP : fPut (List.replicate 1024 false) rs true = (F, 0)) :
    Calls Try.prog 11 #[.slice A m d] w0 fun e w' => ∃ p S, e = .returned (.tuple #[.pointer (some ⟨p, 0, none⟩), .int .i64 0]) ∧ Fr w' S p F ∧ (∀ b, S b → w0.heap.size ≤ b) ∧ Below w0.heap.size w0 w' := by
  refine (code_rnew A m d rs w0 hs hm hr F 0 hP).mono ?_
  rintro e w' ⟨hb, ⟨_, p, S, rfl, h1, h2⟩ | ⟨h, _⟩⟩
  · exact ⟨p, S, rfl, h1, h2, hb⟩
  · exact absurd rfl h
theorem new_no {w0 : World} {A : Option Addr} {m d : Nat} {rs : List (Int × Int)} (hs : Rn w0 w0.heap.size A m rs) (hm : m ≤ 60000) (hr : ∀ r ∈ rs, in64 r.1 ∧ in64 r.2) {F : List Bool} {no : Int} (hP : fPut (List.replicate 1024 false) rs true = (F, no)) (hno : no ≠ 0) :
    Calls Try.prog 11 #[.slice A m d] w0 fun e w' => e = .returned (.tuple #[.pointer none, .int .i64 no]) ∧ Below w0.heap.size w0 w' := by
  refine (code_rnew A m d rs w0 hs hm hr F no hP).mono ?_
  rintro e w' ⟨hb, ⟨h, _⟩ | ⟨_, rfl⟩⟩
  · exact absurd h hno
  · exact ⟨rfl, hb⟩

set_option maxRecDepth 100000 in
set_option maxHeartbeats 4000000 in
theorem runsCuts_any (s l : Int) (A : Option Addr) (m d : Nat) (rs : List (Int × Int)) (w : World) (h1 : in64 s ∧ in64 l) (hm : m ≤ maxLen) (hs : Rn w w.heap.size A m rs) (hr : ∀ r ∈ rs, in64 r.1 ∧ in64 r.2) :
    Calls Try.prog 7 #[.slice A m d, .agg #[.int .i64 s, .int .i64 l]] w fun e w' => e = .returned (.bool true) ∧ Below w.heap.size w w' := by
  have cw := fun W => awake6 W
  unfold maxLen at hm
  obtain ⟨w0, hw0⟩ : ∃ w0, w0 = w.alloc (.cells #[.int .i64 s, .int .i64 l] 34) := ⟨_, rfl⟩
  have hz0 : w0.heap.size = w.heap.size + 1 := by rw [hw0]; simp
  have hb0 : Below w.heap.size w w0 := by rw [hw0]; exact (Below.refl _ _).alloc (Nat.le_refl _) _
  have q0 : w0.cell? ⟨w.heap.size, 0, none⟩ = some (.int .i64 s) := by rw [hw0]; simp
  have q1 : w0.cell? ⟨w.heap.size, 1, none⟩ = some (.int .i64 l) := by rw [hw0]; simp
  have HW0 := hidb hw0
  have HB0 := hidb hb0
  have hzz : w.heap.size ≤ w0.heap.size := by omega
  by_cases g1 : 20 < m
  · clear hw0 hs hr h1 q0 q1 hb0 hz0
    go_enter Try.func7, Try.ntmps7
    go_wp2_with (first | (go_at_call 8; rw [← HW0.out]; (with_reducible refine (cw _).mono ?_); rintro e w1 ⟨rfl, hb1⟩))
    go_ret
    exact ⟨rfl, HB0.out.trans (hb1.mono hzz)⟩
  have HQ : Hid (∀ W, Below w0.heap.size w0 W → W.cell? ⟨w.heap.size, 0, none⟩ = some (.int .i64 s) ∧ W.cell? ⟨w.heap.size, 1, none⟩ = some (.int .i64 l)) := hidb (fun W hb => by
    rw [hb.cell (p := ⟨w.heap.size, 0, none⟩) (by show w.heap.size < _; omega), hb.cell (p := ⟨w.heap.size, 1, none⟩) (by show w.heap.size < _; omega)]; exact ⟨q0, q1⟩)
  have hs0 : Rn w0 w0.heap.size A m rs := (hs.below hb0).more hb0.size
  obtain ⟨P, hP⟩ : ∃ P, fPut (List.replicate 1024 false) rs true = P := ⟨_, rfl⟩
  obtain ⟨F, no⟩ := P
  have hFl : F.length = 1024 := by
    have := fPut_length (List.replicate 1024 false) rs true
    rw [hP, List.length_replicate] at this
    exact this
  by_cases hno : no = 0
  · subst hno
    have cn := new_yes (d := d) hs0 (by omega) hr hP
    have hn1 := fun W => err_neq6 0 0 W
    have HFL := hidb hFl
    have hlen := fList_len F
    have H1 := hidb h1
    obtain ⟨Q, hQ⟩ : ∃ Q, fPut F [(s, l)] false = Q := ⟨_, rfl⟩
    obtain ⟨G, no2⟩ := Q
    have HQ2 := hidb hQ
    by_cases hno2 : no2 = 0
    · subst hno2
      obtain ⟨b1, b2, b3, b4, b5, b6⟩ := cut_back (f := F) (x := (s, l)) hFl hQ
      obtain ⟨m1, m2, m3⟩ := (fMay_iff (s, l)).1 b5
      simp only at m1 m2 m3 b2
      have HHAS := hidb b1
      have HCUT := hidb b3
      have HADD := hidb b4
      have hpF := fPages_le F
      have hpG := fPages_le G
      obtain ⟨a, ha⟩ : ∃ a, fPages F = a := ⟨_, rfl⟩
      obtain ⟨b, hb⟩ : ∃ b, fPages G = b := ⟨_, rfl⟩
      rw [ha, hb] at b2
      rw [ha] at hpF
      rw [hb] at hpG
      have HPA := hidb ha
      have HPB := hidb hb
      have hsub : IntKind.i64.wrap ((a : Int) - l) = (a : Int) - l := IntWalk.i64_in _ (by omega)
      have hne3 : ((b : Int) != (a : Int) - l) = false := by simp; omega
      have hlen2 : (fList F).length ≤ 65536 := by omega
      clear hw0 hs hs0 hr h1 q0 q1 hb0 hz0 hP hFl hQ hlen b1 b2 b3 b4 b5 b6 ha hb m1 m2 m3
      go_enter Try.func7, Try.ntmps7
      go_wp2_with (first
        | (go_at_call 11; rw [← HW0.out]; (with_reducible refine cn.mono ?_); rintro e w1 ⟨p, S, rfl, hF, hlow, hall⟩)
        | (go_at_call 18; (with_reducible refine (code_rlist hF).mono ?_); rintro e w2 ⟨A2, c2, rfl, ho2, hb2⟩; have hoff := RnOff.of_own (w0 := w1) (S := S) ho2 rfl hF.lt; replace hF := hF.below hb2; replace hall := hall.trans (hb2.mono hall.size))
        | (go_at_call 22; (with_reducible refine (code_rpages hF).mono ?_); rw [HPA.out]; rintro e w3 ⟨rfl, hb3⟩; replace hF := hF.below hb3; replace hoff := hoff.below hb3; replace hall := hall.trans (hb3.mono hall.size); obtain ⟨y0, y1⟩ := HQ.out _ hall))
      refine (code_rcut hF s l H1.out.1 H1.out.2).mono ?_
      rw [HQ2.out]
      rintro e w4 ⟨rfl, hF4, hK4⟩
      replace hoff := hoff.did hK4
      have hall4 : Below w0.heap.size w0 w4 := hall.trans (hK4.below hall.size hlow)
      have hlow4 : ∀ b, more S w3 w4 b → w0.heap.size ≤ b := more_low hall.size hlow
      obtain ⟨S4, hS4⟩ : ∃ S4, more S w3 w4 = S4 := ⟨_, rfl⟩
      rw [hS4] at hF4 hoff hlow4
      clear hF hall hK4 hlow hS4
      obtain ⟨z0, z1⟩ := HQ.out _ hall4
      go_wp2
      have hdr : Below w4.heap.size w4 w4.drew := (Below.refl _ _).drew
      replace hF4 := hF4.below hdr
      replace hoff := hoff.below hdr
      replace hall4 := hall4.drew
      clear hdr
      go_region_held3 (fun W' => W'.cell? ⟨w.heap.size, 0, none⟩ = some (.int .i64 s) ∧ W'.cell? ⟨w.heap.size, 1, none⟩ = some (.int .i64 l))
        (first | (go_keep; done) | (exact ⟨by assumption, by assumption⟩))
        (first
          | (go_at_call 20; ((with_reducible refine (code_rhas hF4 s l H1.out.1 H1.out.2).mono ?_); rw [HHAS.out]; rintro e w5 ⟨rfl, hb5⟩; replace hF4 := hF4.below hb5; replace hoff := hoff.below hb5; replace hall4 := hall4.trans (hb5.mono hall4.size); obtain ⟨x0, x1⟩ := HQ.out _ hall4))
          | (go_at_call 22; ((with_reducible refine (code_rpages hF4).mono ?_); rw [HPB.out]; rintro e w6 ⟨rfl, hb6⟩; replace hF4 := hF4.below hb6; replace hoff := hoff.below hb6; replace hall4 := hall4.trans (hb6.mono hall4.size); obtain ⟨x2, x3⟩ := HQ.out _ hall4))
          | (go_at_call 13; ((with_reducible refine (code_rcut hF4 s l H1.out.1 H1.out.2).mono ?_); rw [HCUT.out]; rintro e w7 ⟨rfl, hF7, hK7⟩; have hoff7 := hoff.did hK7; have hall7 := hall4.trans (hK7.below hall4.size hlow4); have hlow7 := more_low hall4.size hlow4 (w := w6) (w' := w7); obtain ⟨x4, x5⟩ := HQ.out _ hall7)))
      have HF7 := hidb hF7
      have HOFF7 := hidb hoff7
      have HALL7 := hidb hall7
      have HLOW7 := hidb hlow7
      clear hF7 hoff7 hall7 hlow7 hF4 hoff hall4 hlow4 hK7
      have cad : Calls Try.prog 12 #[.pointer (some ⟨p, 0, none⟩), .slice (some ⟨w7.heap.size, 0, none⟩) 1 1] (w7.alloc (.cells #[.int .i64 s, .int .i64 l] 34)) fun e w' => e = .returned (.int .i64 0) ∧ ∃ S9, Fr w' S9 p F ∧ RnOff w' S9 A2 (fList F).length (fList F) ∧ Below w0.heap.size w0 w' := by
        have hal : Below w7.heap.size w7 (w7.alloc (.cells #[.int .i64 s, .int .i64 l] 34)) := (Below.refl _ _).alloc (Nat.le_refl _) _
        have ha7 := HALL7.out.trans (hal.mono HALL7.out.size)
        refine (code_radd (HF7.out.below hal) (some ⟨w7.heap.size, 0, none⟩) 1 1 [(s, l)] ((Rn.one6 s l _).more (by simp)) (by omega) (fun r hr => by obtain rfl := List.mem_singleton.1 hr; exact H1.out)).mono ?_
        rw [HADD.out]
        rintro e w' ⟨rfl, k1, k2⟩
        exact ⟨rfl, _, k1, (HOFF7.out.below hal).did k2, ha7.trans (k2.below ha7.size HLOW7.out)⟩
      go_wp2_with (first
        | (go_at_call 12; (with_reducible refine cad.mono ?_); rintro e w9 ⟨rfl, S9, hF9, hoff9, hall9⟩)
        | (go_at_call 18; (with_reducible refine (code_rlist hF9).mono ?_); rintro e w10 ⟨A10, c10, rfl, ho10, hb10⟩; have rn10 := Rn.of_own ho10 rfl; replace hoff9 := hoff9.below hb10; replace hall9 := hall9.trans (hb10.mono hall9.size))
        | (go_at_call 17; (with_reducible refine (same_off rn10 hoff9.rn hlen2 hlen2).mono ?_); rintro e w11 ⟨rfl, hb11⟩; replace hall9 := hall9.trans (hb11.mono hall9.size))
        | (go_at_call 8; (with_reducible refine (cw _).mono ?_); rintro e w12 ⟨rfl, hb12⟩))
      go_ret
      exact ⟨rfl, HB0.out.trans ((hall9.trans (hb12.mono hall9.size)).mono hzz)⟩
    · have hcf := cut_fail (f := F) (x := (s, l)) hFl (by rw [hQ]; exact hno2)
      rw [hQ] at hcf
      obtain ⟨hGF, hHas⟩ := hcf
      simp only at hGF
      subst hGF
      have HHAS := hidb hHas
      have hne2 : (no2 != 0) = true := by simpa using hno2
      have hlen2 : (fList G).length ≤ 65536 := by omega
      clear hw0 hs hs0 hr h1 q0 q1 hb0 hz0 hP hFl hQ hHas hlen hno2
      go_enter Try.func7, Try.ntmps7
      go_wp2_with (first
        | (go_at_call 11; rw [← HW0.out]; (with_reducible refine cn.mono ?_); rintro e w1 ⟨p, S, rfl, hF, hlow, hall⟩)
        | (go_at_call 18; (with_reducible refine (code_rlist hF).mono ?_); rintro e w2 ⟨A2, c2, rfl, ho2, hb2⟩; have hoff := RnOff.of_own (w0 := w1) (S := S) ho2 rfl hF.lt; replace hF := hF.below hb2; replace hall := hall.trans (hb2.mono hall.size))
        | (go_at_call 22; (with_reducible refine (code_rpages hF).mono ?_); rintro e w3 ⟨rfl, hb3⟩; replace hF := hF.below hb3; replace hoff := hoff.below hb3; replace hall := hall.trans (hb3.mono hall.size); obtain ⟨y0, y1⟩ := HQ.out _ hall))
      refine (code_rcut hF s l H1.out.1 H1.out.2).mono ?_
      rw [HQ2.out]
      rintro e w4 ⟨rfl, hF4, hK4⟩
      replace hoff := hoff.did hK4
      have hall4 : Below w0.heap.size w0 w4 := hall.trans (hK4.below hall.size hlow)
      obtain ⟨z0, z1⟩ := HQ.out _ hall4
      clear hF hall hK4 hlow
      go_wp2_with (first
        | (go_at_call 18; (with_reducible refine (code_rlist hF4).mono ?_); rintro e w5 ⟨A5, c5, rfl, ho5, hb5⟩; have rn5 := Rn.of_own ho5 rfl; replace hF4 := hF4.below hb5; replace hoff := hoff.below hb5; replace hall4 := hall4.trans (hb5.mono hall4.size))
        | (go_at_call 17; (with_reducible refine (same_off rn5 hoff.rn hlen2 hlen2).mono ?_); rintro e w6 ⟨rfl, hb6⟩; replace hF4 := hF4.below hb6; replace hall4 := hall4.trans (hb6.mono hall4.size); obtain ⟨z0, z1⟩ := HQ.out _ hall4)
        | (go_at_call 20; (with_reducible refine (code_rhas hF4 s l H1.out.1 H1.out.2).mono ?_); rw [HHAS.out]; rintro e w7 ⟨rfl, hb7⟩; replace hall4 := hall4.trans (hb7.mono hall4.size))
        | (go_at_call 8; (with_reducible refine (cw _).mono ?_); rintro e w8 ⟨rfl, hb8⟩))
      go_ret
      exact ⟨rfl, HB0.out.trans ((hall4.trans (hb8.mono hall4.size)).mono hzz)⟩
  · have cn := new_no (d := d) hs0 (by omega) hr hP hno
    have hne : (no != 0) = true := by simpa using hno
    clear hw0 hs hs0 hr h1 q0 q1 hb0 hz0 hP hFl hno
    go_enter Try.func7, Try.ntmps7
    go_wp2_with (first
      | (go_at_call 11; rw [← HW0.out]; (with_reducible refine cn.mono ?_); rintro e w1 ⟨rfl, hb1⟩)
      | (go_at_call 8; (with_reducible refine (cw _).mono ?_); rintro e w2 ⟨rfl, hb2⟩))
    go_ret
    exact ⟨rfl, HB0.out.trans ((hb1.trans (hb2.mono hb1.size)).mono hzz)⟩

end Go.Proofs.Ytbihliaeidpfaaa
