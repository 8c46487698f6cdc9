/- What the code of layer 17 (move) returns: frames. -/
import Derived.Test.YtlniakcoikhilaaGreatDoorMovCode
namespace Go.Proofs.YtlniakcoikhilaaGreatDoor
open Go.RowKit
set_option linter.unusedVariables false

/-- The frames of a stack that may be moved, or what is thrown. -/
def MvFr (w : World) (r : Int) (L : List FrV) (e : Ending) (w' : World) : Prop :=
  Below w.heap.size w w' ∧ ((r = 1 ∧ e = .panicked [mvNo1]) ∨ (r = 9 ∧ e = .panicked [mvNo9]) ∨ (r = 2 ∧ e = .panicked [mvNo2]) ∨ (r = 0 ∧ ∃ A c, e = .returned (.slice A L.length c) ∧ FrRow w' w'.heap.size A L.length L))
/-- The call's first blocks. -/
def MF (w : World) (ap tp : Option Addr) (δ : Int) (s t : StV) : World := ((w.alloc (.cells #[.pointer ap, .pointer tp, .int .i64 δ] 80)).alloc (.cells #[.int .i64 s.lo, .int .i64 s.size, .int .i64 s.sp] 25)).alloc (.cells #[.int .i64 t.lo, .int .i64 t.size, .int .i64 t.sp] 25)
theorem MF.facts (w : World) (ap tp : Option Addr) (δ : Int) (s t : StV) : Below w.heap.size w (MF w ap tp δ s t) ∧ (MF w ap tp δ s t).heap.size = w.heap.size + 3 := ⟨belF_al (belF_al (belF_al (Below.refl _ _) _) _) _, by unfold MF; simp⟩
def MfAt (b : Nat) (ap tp : Option Addr) (δ : Int) (s t : StV) (W : World) : Prop := (W.cell? ⟨b, 0, none⟩ = some (.pointer ap) ∧ W.cell? ⟨b, 1, none⟩ = some (.pointer tp) ∧ W.cell? ⟨b, 2, none⟩ = some (.int .i64 δ)) ∧ (W.cell? ⟨b + 1, 0, none⟩ = some (.int .i64 s.lo) ∧ W.cell? ⟨b + 1, 1, none⟩ = some (.int .i64 s.size) ∧ W.cell? ⟨b + 1, 2, none⟩ = some (.int .i64 s.sp)) ∧ W.cell? ⟨b + 1 + 1, 0, none⟩ = some (.int .i64 t.lo) ∧ W.cell? ⟨b + 1 + 1, 1, none⟩ = some (.int .i64 t.size) ∧ W.cell? ⟨b + 1 + 1, 2, none⟩ = some (.int .i64 t.sp)
theorem MfAt.new (w : World) (ap tp : Option Addr) (δ : Int) (s t : StV) (W : World) (hb : Below (MF w ap tp δ s t).heap.size (MF w ap tp δ s t) W) : MfAt w.heap.size ap tp δ s t W := by
  have hz := (MF.facts w ap tp δ s t).2
  have hc : ∀ b k, b < w.heap.size + 3 → W.cell? ⟨b, k, none⟩ = (MF w ap tp δ s t).cell? ⟨b, k, none⟩ := fun b k h => hb.cell (by show b < _; omega)
  have n1 : (w.alloc (.cells #[.pointer ap, .pointer tp, .int .i64 δ] 80)).heap.size = w.heap.size + 1 := by simp
  have n2 : ((w.alloc (.cells #[.pointer ap, .pointer tp, .int .i64 δ] 80)).alloc (.cells #[.int .i64 s.lo, .int .i64 s.size, .int .i64 s.sp] 25)).heap.size = w.heap.size + 1 + 1 := by simp
  refine ⟨⟨?_, ?_, ?_⟩, ⟨?_, ?_, ?_⟩, ?_, ?_, ?_⟩
  · rw [hc _ _ (by omega)]; unfold MF; rw [World.cell?_alloc_lt _ _ _ (by show w.heap.size < _; rw [n2]; omega), World.cell?_alloc_lt _ _ _ (by show w.heap.size < _; rw [n1]; omega)]; simp
  · rw [hc _ _ (by omega)]; unfold MF; rw [World.cell?_alloc_lt _ _ _ (by show w.heap.size < _; rw [n2]; omega), World.cell?_alloc_lt _ _ _ (by show w.heap.size < _; rw [n1]; omega)]; simp
  · rw [hc _ _ (by omega)]; unfold MF; rw [World.cell?_alloc_lt _ _ _ (by show w.heap.size < _; rw [n2]; omega), World.cell?_alloc_lt _ _ _ (by show w.heap.size < _; rw [n1]; omega)]; simp
  · rw [hc _ _ (by omega)]; unfold MF; rw [World.cell?_alloc_lt _ _ _ (by show w.heap.size + 1 < _; rw [n2]; omega), ← n1]; simp
  · rw [hc _ _ (by omega)]; unfold MF; rw [World.cell?_alloc_lt _ _ _ (by show w.heap.size + 1 < _; rw [n2]; omega), ← n1]; simp
  · rw [hc _ _ (by omega)]; unfold MF; rw [World.cell?_alloc_lt _ _ _ (by show w.heap.size + 1 < _; rw [n2]; omega), ← n1]; simp
  · rw [hc _ _ (by omega)]; unfold MF; rw [← n2]; exact World.cell?_alloc_at _ _ _ 0 (by simp)
  · rw [hc _ _ (by omega)]; unfold MF; rw [← n2]; exact World.cell?_alloc_at _ _ _ 1 (by simp)
  · rw [hc _ _ (by omega)]; unfold MF; rw [← n2]; exact World.cell?_alloc_at _ _ _ 2 (by simp)
theorem Two.new (w : World) (s x : StV) : Two w.heap.size s x (w.alloc (.cells #[.int .i64 s.lo, .int .i64 s.size, .int .i64 s.sp, .int .i64 x.lo, .int .i64 x.size, .int .i64 x.sp] 25)) := by
  refine ⟨⟨?_, ?_, ?_⟩, ?_, ?_, ?_⟩ <;> simp
theorem wkGo_count {xs : List Nat} {l : Fns} {hi : Int} : ∀ (n : Nat) (a : Int) (acc L : List FrV), wkGo xs l hi n a acc = some L → L.length ≤ acc.length + n
  | 0, a, acc, L, h => by
    unfold wkGo at h
    split at h
    · cases h
    · injection h with h; rw [h]; omega
  | n + 1, a, acc, L, h => by
    unfold wkGo at h
    split at h
    · cases hw : wkOne xs l hi a with
      | none => rw [hw] at h; cases h
      | some xe =>
        obtain ⟨x, e⟩ := xe
        rw [hw] at h
        have := wkGo_count n e _ L h
        simp only [List.length_cons] at this
        omega
    · injection h with h; rw [h]; omega
theorem wkFrames_few {xs : List Nat} {l : Fns} (hl : ∀ x ∈ l, 0 ≤ x.1 ∧ x.1 ≤ 1000) {s : StV} {L : List FrV} {no : Int} (h : wkFrames xs l s = (L, no)) : L.length ≤ xs.length := by
  unfold wkFrames at h
  split at h
  · injection h with h _; rw [← h]; simp
  · rename_i c
    have hf := wkGo_few (xs := xs) (l := l) (s := s) (by simpa using c)
    split at h
    · injection h with h _; rw [← h]; simp
    · rename_i f hf2
      injection h with h _
      have := wkGo_count _ _ _ _ hf2
      rw [← h]
      simp only [List.length_nil] at this
      omega
/-- Whether a stack may be moved; the error's number. -/
def mvErr (xs : List Nat) (l : Fns) (s : StV) (lo size : Int) : Int :=
  if (stMay s xs.length && stMay ⟨lo, size, lo⟩ xs.length) = false then 1 else if (wkFrames xs l s).2 ≠ 0 then 9 else if (slAll xs l (wkFrames xs l s).1).2 ≠ 0 then 9 else if size < s.lo + s.size - s.sp ∨ mvFits s ⟨lo, size, lo⟩ = false then 2 else 0

section
variable {X w : World} {p g len : Nat} {tp : Option Addr} {l : Fns} {xs : List Nat}
set_option maxRecDepth 100000 in
set_option maxHeartbeats 8000000 in
theorem c_mvframes (st : AT X w p g len xs tp l) (hl : ∀ x ∈ l, 0 ≤ x.1 ∧ x.1 ≤ 1000) (hx : Wd xs) (s : StV) (hs : in64 s.lo ∧ in64 s.size ∧ in64 s.sp) (lo size δ : Int) (i4 : in64 lo) (i5 : in64 size) (r : Int) (hr : mvErr xs l s lo size = r) :
    Calls Tryz.prog 29 #[mvC (some ⟨p, 0, none⟩) tp δ, stC s, stC ⟨lo, size, lo⟩] w (MvFr w r (wkFrames xs l s).1) := by
  have hlen := st.ar.hlen
  have hsm := st.ar.small
  obtain ⟨f1, f2⟩ := MF.facts w (some ⟨p, 0, none⟩) tp δ s ⟨lo, size, lo⟩
  obtain ⟨W0, hW0⟩ : ∃ W0, W0 = MF w (some ⟨p, 0, none⟩) tp δ s ⟨lo, size, lo⟩ := ⟨_, rfl⟩
  rw [← hW0] at f1 f2
  have HC : Hid (∀ W, Below W0.heap.size W0 W → MfAt w.heap.size (some ⟨p, 0, none⟩) tp δ s ⟨lo, size, lo⟩ W) := hidb (fun W hb => MfAt.new w _ _ _ _ _ W (by rw [hW0] at hb; exact hb))
  obtain ⟨Y, hY⟩ : ∃ Y, Y = W0.alloc (.cells #[.int .i64 s.lo, .int .i64 s.size, .int .i64 s.sp, .int .i64 lo, .int .i64 size, .int .i64 lo] 25) := ⟨_, rfl⟩
  have hbY : Below W0.heap.size W0 Y := by rw [hY]; exact belF_al (Below.refl _ _) _
  obtain ⟨bm, hbm⟩ : ∃ bm, (stMay s len && stMay ⟨lo, size, lo⟩ len) = bm := ⟨_, rfl⟩
  have htw := Two.new W0 s ⟨lo, size, lo⟩
  simp only at htw
  rw [← hY, f2] at htw
  have cm := code_wmay2 s ⟨lo, size, lo⟩ (w.heap.size + 1 + 1 + 1) ((st.step f1).step hbY).ar htw hs ⟨i4, i5, i4⟩ bm hbm
  unfold mvErr at hr
  rw [hlen, hbm] at hr
  have HBW : Hid (∀ W, Below W0.heap.size W0 W → Below w.heap.size w W) := hidb (fun W hb => belF_tr f1 hb)
  have HBY := hidb hbY
  have HY := hidb hY
  have HW0 := hidb hW0
  have HST : Hid (∀ W, Below W0.heap.size W0 W → AT X W p g len xs tp l) := hidb (fun W hb => st.step (belF_tr f1 hb))
  have hc0 := HC.out W0 (Below.refl _ _)
  rw [hW0] at hc0
  unfold MF at hc0
  unfold MF at HW0
  obtain ⟨⟨q0, q1, q2⟩, ⟨r0, r1, r2⟩, t0, t1, t2⟩ := hc0
  cases bm with
  | false =>
    rw [if_pos rfl] at hr
    subst hr
    obtain ⟨sl, ss, sp⟩ := s
    have P1 : Hid (∀ W, Below w.heap.size w W → MvFr w 1 (wkFrames xs l ⟨sl, ss, sp⟩).1 (.panicked [{ v := .iface 109 (.agg #[]), recovered := false }]) W) := hidb (fun W hb => ⟨hb, Or.inl ⟨rfl, rfl⟩⟩)
    unfold mvC stC
    simp only at *
    clear st hl hx hs i4 i5 f1 f2 hW0 hbY hY hbm htw HST
    --@1
    go_enter Tryz.func29, Tryz.ntmps29
    go_wp2_with (first
      | (go_at_call 58; rw [← HW0.out, ← HY.out]; (with_reducible refine cm.mono ?_); rintro e w1 ⟨rfl, hb1⟩))
    exact ⟨rfl, P1.out _ (HBW.out _ (belF_tr HBY.out hb1))⟩
  | true =>
    rw [if_neg (by simp)] at hr
    obtain ⟨hm1, hm2⟩ := Bool.and_eq_true_iff.1 hbm
    have hm3 := hm1
    have hm4 := hm2
    unfold stMay stkSz at hm3 hm4
    simp at hm3 hm4
    have hst0 := HST.out
    obtain ⟨Lo, hLo⟩ : ∃ Lo, wkFrames xs l s = Lo := ⟨_, rfl⟩
    obtain ⟨L, no⟩ := Lo
    have hLn : L.length ≤ 65536 := by
      have := wkFrames_few hl hLo
      omega
    have KF : Hid (∀ W, Below W0.heap.size W0 W → Calls Tryz.prog 59 #[.pointer (some ⟨p, 0, none⟩), .pointer tp, stC s] W (ResFrC W (L, no))) := hidb (fun W hb => by
      have s1 := HST.out W hb
      obtain ⟨lo', hi', h2, h3, _⟩ := s1.tb
      have := code_wframesC s s1.ar h2 h3 hl hx hs.1 hs.2.1 hs.2.2
      rw [hLo] at this
      exact this)
    have KA : Hid (∀ W A c, Below W0.heap.size W0 W → FrRow W W.heap.size A L.length L → L.length ≤ c → Calls Tryz.prog 60 #[.pointer (some ⟨p, 0, none⟩), .pointer tp, .slice A L.length c] W (ResV W (slAll xs l L))) := hidb (fun W A c hb hf hc => by
      have s1 := HST.out W hb
      obtain ⟨lo', hi', h2, h3, _⟩ := s1.tb
      exact code_slall s1.ar h2 h3 hl hx hf (by omega) hc)
    have KU : Hid (∀ W, Calls Tryz.prog 31 #[stC s] W fun e w' => e = .returned (.int .i64 (s.lo + s.size - s.sp)) ∧ Below W.heap.size W w') := hidb (fun W => by
      have := code_wused s (by unfold StNear; omega) W
      rw [show max (s.lo + s.size - s.sp) 0 = s.lo + s.size - s.sp by omega] at this
      exact this)
    obtain ⟨bf, hbf⟩ : ∃ bf, mvFits s ⟨lo, size, lo⟩ = bf := ⟨_, rfl⟩
    have KX : Hid (∀ W q, StAt q ⟨lo, size, lo⟩ W → Calls Tryz.prog 16 #[stC s, .slice (some ⟨q, 0, none⟩) 1 1] W fun e w' => e = .returned (.bool bf) ∧ Below W.heap.size W w') := hidb (fun W q hq => code_mvfit s ⟨lo, size, lo⟩ q W hq bf (by rw [mvFit_fits (by omega) (by omega) (by simp only; omega) (by simp only; omega)]; exact hbf))
    obtain ⟨⟨R, na⟩, hRs⟩ : ∃ rs, slAll xs l L = rs := ⟨_, rfl⟩
    rw [hRs] at KA
    rw [hLo, hbf] at hr
    simp only at hr
    rw [hRs] at hr
    simp only at hr
    rw [hLo]
    obtain ⟨us, hus⟩ : ∃ us, s.lo + s.size - s.sp = us := ⟨_, rfl⟩
    rw [hus] at hr KU
    obtain ⟨sl, ss, sp⟩ := s
    unfold mvC stC
    unfold stC at KF KU KX
    unfold StAt at KX
    unfold MfAt at HC
    simp only at *
    unfold ResFrC at KF
    unfold ResV at KA
    simp only at *
    have HBR : Hid (∀ W1 W2, Below W0.heap.size W0 W1 → Below W1.heap.size W1 W2 → Below W0.heap.size W0 W2) := hidb (fun W1 W2 h1 h2 => belF_tr h1 h2)
    have HFR := hidb (fun (W W' : World) (A : Option Addr) (hf : FrRow W W.heap.size A L.length L) (hb : Below W.heap.size W W') => hf.step hb)
    clear st hl hx hs i4 i5 f1 f2 hW0 hbY hY hbm htw HST hm1 hm2 hst0 hLo hRs hbf hus hlen hsm
    by_cases h0 : no = 0
    · have nb : (no != 0) = false := by simp [h0]
      rw [if_neg (by simp [h0])] at hr
      by_cases h1 : na = 0
      · have nb1 : (na != 0) = false := by simp [h1]
        rw [if_neg (by simp [h1])] at hr
        clear h0 h1
        by_cases h2 : size < us
        · rw [if_pos (Or.inl h2)] at hr
          subst hr
          have P2 : Hid (∀ W, Below w.heap.size w W → MvFr w 2 L (.panicked [{ v := .iface 111 (.agg #[]), recovered := false }]) W) := hidb (fun W hb => ⟨hb, Or.inr (Or.inr (Or.inl ⟨rfl, rfl⟩))⟩)
          have nb2 : decide (size < us) = true := decide_eq_true h2
          clear KX
          --@4
          go_enter Tryz.func29, Tryz.ntmps29
          go_wp2_with (first
            | (go_at_call 58; rw [← HW0.out, ← HY.out]; (with_reducible refine cm.mono ?_); rintro e w1 ⟨rfl, hb1⟩; have HB1 := hidb (belF_tr HBY.out hb1); obtain ⟨⟨a0, a1, a2⟩, ⟨b0, b1, b2⟩, c0, c1, c2⟩ := HC.out w1 HB1.out; clear hb1)
            | (go_at_call 59; (with_reducible refine (KF.out _ HB1.out).mono ?_); rintro e w2 ⟨A, c, rfl, hf2, hcap, hb2⟩; have HF2 := hidb hf2; have HCP := hidb hcap; have HB2 := hidb (HBR.out _ _ HB1.out hb2); obtain ⟨⟨a3, a4, a5⟩, ⟨b3, b4, b5⟩, c3, c4, c5⟩ := HC.out w2 HB2.out; clear hb2 hf2 hcap)
            | (go_at_call 60; (with_reducible refine (KA.out _ A c HB2.out HF2.out HCP.out).mono ?_); rintro e w3 ⟨A3, c3', zs3, rfl, _, _, hb3⟩; have HB3 := hidb (HBR.out _ _ HB2.out hb3); obtain ⟨⟨a6, a7, a8⟩, ⟨b6, b7, b8⟩, c6, c7, c8⟩ := HC.out w3 HB3.out; clear hb3))
          clear a0 a1 a2 a3 a4 a5 b0 b1 b2 b3 b4 b5 c0 c1 c2 c3 c4 c5
          refine wp_begin (by kernel_rfl) 12 rfl ?_
          refine wp_tail (C := fun W => Below W0.heap.size W0 W) 0 12 _ (by kernel_rfl) rfl (by kernel_rfl) (by kernel_rfl) (belF_dr HB3.out) ?_
          simp only [List.drop_zero]
          go_big_quiet_want
          apply Exists.intro
          refine ⟨fun W hC => ?_, ?_⟩
          · obtain ⟨⟨d0, d1, d2⟩, ⟨d3, d4, d5⟩, d6, d7, d8⟩ := HC.out W hC
            unfold Oper.quietAt
            go_simp
            rfl
          go_big_quiet_on
          simp only [Act.put, List.setIfInBounds_toArray, List.set_cons_zero, List.set_cons_succ]
          go_big_quiet_want
          apply Exists.intro
          refine ⟨fun W hC => ?_, ?_⟩
          · unfold Oper.quietAt
            go_simp
            exact (KU.out W).mono fun e w' h => ⟨h.1, HBR.out _ _ hC h.2⟩
          go_big_quiet_on
          simp only [Act.put, List.setIfInBounds_toArray, List.set_cons_zero, List.set_cons_succ]
          repeat (first | go_big_quiet_skip | (go_big_quiet_want; (apply Exists.intro); refine ⟨fun W hC => ?_, ?_⟩; (unfold Oper.quietAt; go_simp; done); go_big_quiet_on; simp only [Act.put, List.setIfInBounds_toArray, List.set_cons_zero, List.set_cons_succ]) | (go_big_quiet_want; (apply Exists.intro); refine ⟨fun W hC => ?_, ?_⟩; (obtain ⟨⟨d0, d1, d2⟩, ⟨d3, d4, d5⟩, d6, d7, d8⟩ := HC.out W hC; unfold Oper.quietAt; go_simp; rfl); go_big_quiet_on; simp only [Act.put, List.setIfInBounds_toArray, List.set_cons_zero, List.set_cons_succ]))
          refine wpQuiet_nil ?_
          intro w4 hC
          have HB4 := hidb hC
          go_wp2
          exact ⟨rfl, P2.out _ (HBW.out _ HB4.out)⟩
        · have h3 : us ≤ size := by omega
          have nb2 : decide (size < us) = false := decide_eq_false h2
          have HX : Hid (∀ W : World, StAt W.heap.size ⟨lo, size, lo⟩ (W.alloc (.cells #[.int .i64 lo, .int .i64 size, .int .i64 lo] 25))) := hidb (fun W => StAt.new W ⟨lo, size, lo⟩ _ (by simp; exact Below.refl _ _))
          unfold StAt at HX
          have KX2 : Hid (∀ W : World, Calls Tryz.prog 16 #[.agg #[.int .i64 sl, .int .i64 ss, .int .i64 sp], .slice (some ⟨W.heap.size, 0, none⟩) 1 1] (W.alloc (.cells #[.int .i64 lo, .int .i64 size, .int .i64 lo] 25)) fun e w' => e = .returned (.bool bf) ∧ Below (W.alloc (.cells #[.int .i64 lo, .int .i64 size, .int .i64 lo] 25)).heap.size (W.alloc (.cells #[.int .i64 lo, .int .i64 size, .int .i64 lo] 25)) w') := hidb (fun W => KX.out _ _ (HX.out W))
          have PZ : Hid (∀ W A c, Below w.heap.size w W → FrRow W W.heap.size A L.length L → bf = true → MvFr w r L (.returned (.slice A L.length c)) W) := hidb (fun W A c hb hf hbt => by
            rw [hbt, if_neg (by simp; omega)] at hr
            rw [← hr]
            exact ⟨hb, Or.inr (Or.inr (Or.inr ⟨rfl, A, c, rfl, hf⟩))⟩)
          have P2 : Hid (∀ W, Below w.heap.size w W → bf = false → MvFr w r L (.panicked [{ v := .iface 111 (.agg #[]), recovered := false }]) W) := hidb (fun W hb hbt => by
            rw [if_pos (Or.inr hbt)] at hr
            rw [← hr]
            exact ⟨hb, Or.inr (Or.inr (Or.inl ⟨rfl, rfl⟩))⟩)
          clear hr KX HX
          have KU2 := KU
          --@5
          go_enter Tryz.func29, Tryz.ntmps29
          go_wp2_with (first
            | (go_at_call 58; rw [← HW0.out, ← HY.out]; (with_reducible refine cm.mono ?_); rintro e w1 ⟨rfl, hb1⟩; have HB1 := hidb (belF_tr HBY.out hb1); obtain ⟨⟨a0, a1, a2⟩, ⟨b0, b1, b2⟩, c0, c1, c2⟩ := HC.out w1 HB1.out; clear hb1)
            | (go_at_call 59; (with_reducible refine (KF.out _ HB1.out).mono ?_); rintro e w2 ⟨A, c, rfl, hf2, hcap, hb2⟩; have HF2 := hidb hf2; have HCP := hidb hcap; have HB2 := hidb (HBR.out _ _ HB1.out hb2); obtain ⟨⟨a3, a4, a5⟩, ⟨b3, b4, b5⟩, c3, c4, c5⟩ := HC.out w2 HB2.out; clear hb2 hf2 hcap)
            | (go_at_call 60; (with_reducible refine (KA.out _ A c HB2.out HF2.out HCP.out).mono ?_); rintro e w3 ⟨A3, c3', zs3, rfl, _, _, hb3⟩; have HB3 := hidb (HBR.out _ _ HB2.out hb3); have HF3 := hidb (HFR.out _ _ _ HF2.out hb3); obtain ⟨⟨a6, a7, a8⟩, ⟨b6, b7, b8⟩, c6, c7, c8⟩ := HC.out w3 HB3.out; clear hb3))
          clear a0 a1 a2 a3 a4 a5 b0 b1 b2 b3 b4 b5 c0 c1 c2 c3 c4 c5
          have HC3 : Hid (∀ W, Below w3.heap.size w3 W → (W.cell? ⟨w.heap.size + 1, 0, none⟩ = some (.int .i64 sl) ∧ W.cell? ⟨w.heap.size + 1, 1, none⟩ = some (.int .i64 ss) ∧ W.cell? ⟨w.heap.size + 1, 2, none⟩ = some (.int .i64 sp)) ∧ W.cell? ⟨w.heap.size + 1 + 1, 0, none⟩ = some (.int .i64 lo) ∧ W.cell? ⟨w.heap.size + 1 + 1, 1, none⟩ = some (.int .i64 size) ∧ W.cell? ⟨w.heap.size + 1 + 1, 2, none⟩ = some (.int .i64 lo)) := hidb (fun W hb => (HC.out W (HBR.out _ _ HB3.out hb)).2)
          (first | go_region_held3 (fun W => (W.cell? ⟨w.heap.size + 1, 0, none⟩ = some (.int .i64 sl) ∧ W.cell? ⟨w.heap.size + 1, 1, none⟩ = some (.int .i64 ss) ∧ W.cell? ⟨w.heap.size + 1, 2, none⟩ = some (.int .i64 sp)) ∧ W.cell? ⟨w.heap.size + 1 + 1, 0, none⟩ = some (.int .i64 lo) ∧ W.cell? ⟨w.heap.size + 1 + 1, 1, none⟩ = some (.int .i64 size) ∧ W.cell? ⟨w.heap.size + 1 + 1, 2, none⟩ = some (.int .i64 lo))
            (first | ((with_reducible refine HC3.out _ ?_); (repeat (first | with_reducible exact Below.refl _ _ | with_reducible exact Hid.out (by assumption) | with_reducible apply belF_al | with_reducible apply belF_dr)); done) | (go_keep; done))
            (first
              | (go_at_call 31; (with_reducible refine (KU2.out _).mono ?_); rintro e w4 ⟨rfl, hb4⟩; have HB4 : Hid (Below w3.heap.size w3 w4) := hidb (belF_tr (by (repeat (first | with_reducible exact Below.refl _ _ | with_reducible exact Hid.out (by assumption) | with_reducible apply belF_al | with_reducible apply belF_dr))) hb4); have hc4 := HC3.out w4 HB4.out; clear hb4)
              | (go_at_call 16; (with_reducible refine (KX2.out _).mono ?_); rintro e w5 ⟨rfl, hb5⟩; have HB5 : Hid (Below w3.heap.size w3 w5) := hidb (belF_tr (by (repeat (first | with_reducible exact Below.refl _ _ | with_reducible exact Hid.out (by assumption) | with_reducible apply belF_al | with_reducible apply belF_dr))) hb5); have hc5 := HC3.out w5 HB5.out; clear hb5)) | fail)
          have HF5 := hidb (HFR.out _ _ _ HF3.out HB5.out)
          have HBW5 := hidb (HBW.out _ (HBR.out _ _ HB3.out HB5.out))
          cases bf with
          | false =>
            go_wp2
            exact ⟨rfl, P2.out _ HBW5.out (by first | rfl | trivial)⟩
          | true =>
            go_wp2
            go_ret
            exact PZ.out _ A c HBW5.out HF5.out (by first | rfl | trivial)
      · have nb1 : (na != 0) = true := by simp [h1]
        rw [if_pos (by simpa using h1)] at hr
        subst hr
        have P9 : Hid (∀ W, Below w.heap.size w W → MvFr w 9 L (.panicked [{ v := .iface 110 (.agg #[]), recovered := false }]) W) := hidb (fun W hb => ⟨hb, Or.inr (Or.inl ⟨rfl, rfl⟩)⟩)
        clear KX KU
        --@3
        go_enter Tryz.func29, Tryz.ntmps29
        go_wp2_with (first
          | (go_at_call 58; rw [← HW0.out, ← HY.out]; (with_reducible refine cm.mono ?_); rintro e w1 ⟨rfl, hb1⟩; have HB1 := hidb (belF_tr HBY.out hb1); obtain ⟨⟨a0, a1, a2⟩, ⟨b0, b1, b2⟩, c0, c1, c2⟩ := HC.out w1 HB1.out; clear hb1)
          | (go_at_call 59; (with_reducible refine (KF.out _ HB1.out).mono ?_); rintro e w2 ⟨A, c, rfl, hf2, hcap, hb2⟩; have HF2 := hidb hf2; have HCP := hidb hcap; have HB2 := hidb (HBR.out _ _ HB1.out hb2); obtain ⟨⟨a3, a4, a5⟩, ⟨b3, b4, b5⟩, c3, c4, c5⟩ := HC.out w2 HB2.out; clear hb2 hf2 hcap)
          | (go_at_call 60; (with_reducible refine (KA.out _ A c HB2.out HF2.out HCP.out).mono ?_); rintro e w3 ⟨A3, c3', zs3, rfl, _, _, hb3⟩; have HB3 := hidb (HBR.out _ _ HB2.out hb3); clear hb3))
        exact ⟨rfl, P9.out _ (HBW.out _ HB3.out)⟩
    · have nb : (no != 0) = true := by simp [h0]
      rw [if_pos (by simpa using h0)] at hr
      subst hr
      have P9 : Hid (∀ W, Below w.heap.size w W → MvFr w 9 L (.panicked [{ v := .iface 110 (.agg #[]), recovered := false }]) W) := hidb (fun W hb => ⟨hb, Or.inr (Or.inl ⟨rfl, rfl⟩)⟩)
      clear KX KU KA
      --@2
      go_enter Tryz.func29, Tryz.ntmps29
      go_wp2_with (first
        | (go_at_call 58; rw [← HW0.out, ← HY.out]; (with_reducible refine cm.mono ?_); rintro e w1 ⟨rfl, hb1⟩; have HB1 := hidb (belF_tr HBY.out hb1); obtain ⟨⟨a0, a1, a2⟩, ⟨b0, b1, b2⟩, c0, c1, c2⟩ := HC.out w1 HB1.out; clear hb1)
        | (go_at_call 59; (with_reducible refine (KF.out _ HB1.out).mono ?_); rintro e w2 ⟨A, c, rfl, hf2, hcap, hb2⟩; have HB2 := hidb (HBR.out _ _ HB1.out hb2); clear hb2 hf2 hcap))
      exact ⟨rfl, P9.out _ (HBW.out _ HB2.out)⟩
end
end Go.Proofs.YtlniakcoikhilaaGreatDoor
