/- What the code of layer 17 (move) returns: To. -/
import Derived.Test.YtlniakcoikhilaaGreatDoorMovFrC
namespace Go.Proofs.YtlniakcoikhilaaGreatDoor
open Go.RowKit
set_option linter.unusedVariables false

theorem mvTo_err {xs : List Nat} {l : Fns} {s : StV} {lo size r : Int} (h : mvErr xs l s lo size = r) (h0 : r ≠ 0) (hn : xs.length ≤ 65536) : mvTo xs l s lo size = (xs, st0, r) := by
  unfold mvErr at h
  unfold mvTo
  split at h
  · rename_i c
    rw [if_pos, ← h]
    cases k : stMay s xs.length with
    | false => exact Or.inl rfl
    | true => rw [k, Bool.true_and] at c; exact Or.inr (Or.inr c)
  · rename_i c
    have c2 := (Bool.not_eq_false _).mp c
    obtain ⟨m1, m2⟩ := Bool.and_eq_true_iff.1 c2
    have m3 : stkSz size = true := by
      have := m2
      unfold stMay at this
      exact (Bool.and_eq_true_iff.1 this).1
    rw [if_neg (by rw [m1, m2, m3]; simp)]
    split at h
    · rename_i c3
      rw [if_pos c3, ← h]
    · rename_i c3
      rw [if_neg c3]
      split at h
      · rename_i c4
        rw [if_pos c4, ← h]
      · rename_i c4
        rw [if_neg c4]
        split at h
        · rename_i c5
          have c6 : size < s.lo + s.size - s.sp ∨ mvFits s ⟨lo, size, 0⟩ = false := c5
          rw [if_pos c6, ← h]
        · exact absurd h.symm h0
theorem mvErr_ok {xs : List Nat} {l : Fns} {s : StV} {lo size : Int} (h : mvErr xs l s lo size = 0) (hn : xs.length ≤ 65536) : MvOk xs l s lo size (lo + size - s.lo - s.size) (wkFrames xs l s).1 := by
  unfold mvErr at h
  split at h
  · simp at h
  · rename_i c
    have c2 := (Bool.not_eq_false _).mp c
    obtain ⟨m1, m2⟩ := Bool.and_eq_true_iff.1 c2
    split at h
    · simp at h
    · rename_i c3
      split at h
      · simp at h
      · rename_i c4
        split at h
        · simp at h
        · rename_i c5
          refine ⟨hn, m1, ?_, m2, Prod.ext rfl (by simpa using c3), (slAllAux_ok _ _ _ (by simpa [slAll] using c4)).2, by omega, ?_, rfl⟩
          · unfold stMay at m2
            exact (Bool.and_eq_true_iff.1 m2).1
          · cases k : mvFits s ⟨lo, size, 0⟩ with
            | true => rfl
            | false => exact absurd (Or.inr k) c5
theorem mvTo_code {xs : List Nat} {l : Fns} (hl : ∀ x ∈ l, 0 ≤ x.1 ∧ x.1 ≤ 1000) {s : StV} {lo size δ : Int} {L : List FrV} (h : MvOk xs l s lo size δ L) : mvTo xs l s lo size = (mvAdj δ l L (mvCopy xs s δ), ⟨lo, size, s.sp + δ⟩, 0) := by
  obtain ⟨ys, h1, h2⟩ := h.does hl
  have h3 := h.adj hl
  have : ys = mvAdj δ l L (mvCopy xs s δ) := by
    apply List.ext_getElem?
    intro i
    by_cases c : i < xs.length
    · have e1 := h2.2 i
      rw [← h3.2 i, List.getD_eq_getElem?_getD, List.getD_eq_getElem?_getD, List.getElem?_eq_getElem (by rw [h2.1]; exact c), List.getElem?_eq_getElem (by rw [h3.1]; exact c)] at e1
      rw [List.getElem?_eq_getElem (by rw [h2.1]; exact c), List.getElem?_eq_getElem (by rw [h3.1]; exact c)]
      exact congrArg some e1
    · rw [List.getElem?_eq_none (by rw [h2.1]; omega), List.getElem?_eq_none (by rw [h3.1]; omega)]
  rw [h1, this]
theorem mvErr_vals (xs : List Nat) (l : Fns) (s : StV) (lo size : Int) : mvErr xs l s lo size = 1 ∨ mvErr xs l s lo size = 9 ∨ mvErr xs l s lo size = 2 ∨ mvErr xs l s lo size = 0 := by
  unfold mvErr
  split
  · exact Or.inl rfl
  · split
    · exact Or.inr (Or.inl rfl)
    · split
      · exact Or.inr (Or.inl rfl)
      · split
        · exact Or.inr (Or.inr (Or.inl rfl))
        · exact Or.inr (Or.inr (Or.inr rfl))
/-- What is thrown: of which type it is, and what is told of it. -/
theorem mvThrown {r : Int} (hr : r = 1 ∨ r = 9 ∨ r = 2) : ∃ T, (∀ w : World, Calls Tryz.prog 28 #[.iface T (.agg #[])] w fun e w' => e = .returned (.int .i64 r) ∧ w' = w.alloc (.cells #[] T)) ∧ ∀ (w w' : World) (L : List FrV) (e : Ending), MvFr w r L e w' → e = .panicked [{ v := .iface T (.agg #[]), recovered := false }] ∧ Below w.heap.size w w' := by
  rcases hr with rfl | rfl | rfl
  · refine ⟨109, c_mtold1, fun w w' L e ⟨hb, h⟩ => ⟨?_, hb⟩⟩
    rcases h with ⟨_, h⟩ | ⟨h, _⟩ | ⟨h, _⟩ | ⟨h, _⟩
    · exact h
    all_goals simp at h
  · refine ⟨110, c_mtold9, fun w w' L e ⟨hb, h⟩ => ⟨?_, hb⟩⟩
    rcases h with ⟨h, _⟩ | ⟨_, h⟩ | ⟨h, _⟩ | ⟨h, _⟩
    · simp at h
    · exact h
    all_goals simp at h
  · refine ⟨111, c_mtold2, fun w w' L e ⟨hb, h⟩ => ⟨?_, hb⟩⟩
    rcases h with ⟨h, _⟩ | ⟨h, _⟩ | ⟨_, h⟩ | ⟨h, _⟩
    · simp at h
    · simp at h
    · exact h
    · simp at h
/-- The call's first blocks: the stack, the result, the error. -/
def TW (w : World) (s : StV) : World := ((w.alloc (.cells #[.int .i64 s.lo, .int .i64 s.size, .int .i64 s.sp] 25)).alloc (.cells #[.int .i64 0, .int .i64 0, .int .i64 0] 25)).alloc (.cells #[.int .i64 0] 27)
def TwAt (b : Nat) (s : StV) (W : World) : Prop := (W.cell? ⟨b, 0, none⟩ = some (.int .i64 s.lo) ∧ W.cell? ⟨b, 1, none⟩ = some (.int .i64 s.size) ∧ W.cell? ⟨b, 2, none⟩ = some (.int .i64 s.sp)) ∧
  ((W.cell? ⟨b + 1, 0, none⟩ = some (.int .i64 0) ∧ W.cell? ⟨b + 1, 1, none⟩ = some (.int .i64 0) ∧ W.cell? ⟨b + 1, 2, none⟩ = some (.int .i64 0)) ∧ W.frozen? ⟨b + 1, 0, none⟩ = false ∧ W.frozen? ⟨b + 1, 1, none⟩ = false ∧ W.frozen? ⟨b + 1, 2, none⟩ = false) ∧
  W.cell? ⟨b + 1 + 1, 0, none⟩ = some (.int .i64 0) ∧ W.frozen? ⟨b + 1 + 1, 0, none⟩ = false
theorem TW.facts (w : World) (s : StV) : Below w.heap.size w (TW w s) ∧ (TW w s).heap.size = w.heap.size + 3 ∧ TwAt w.heap.size s (TW w s) := by
  have n1 : (w.alloc (.cells #[.int .i64 s.lo, .int .i64 s.size, .int .i64 s.sp] 25)).heap.size = w.heap.size + 1 := by simp
  have n2 : ((w.alloc (.cells #[.int .i64 s.lo, .int .i64 s.size, .int .i64 s.sp] 25)).alloc (.cells #[.int .i64 0, .int .i64 0, .int .i64 0] 25)).heap.size = w.heap.size + 1 + 1 := by simp
  refine ⟨belF_al (belF_al (belF_al (Below.refl _ _) _) _) _, by unfold TW; simp, ⟨?_, ?_, ?_⟩, ⟨⟨?_, ?_, ?_⟩, ?_, ?_, ?_⟩, ?_, ?_⟩
  · unfold TW; rw [World.cell?_alloc_lt _ _ _ (by show w.heap.size < _; rw [n2]; omega), World.cell?_alloc_lt _ _ _ (by show w.heap.size < _; rw [n1]; omega)]; simp
  · unfold TW; rw [World.cell?_alloc_lt _ _ _ (by show w.heap.size < _; rw [n2]; omega), World.cell?_alloc_lt _ _ _ (by show w.heap.size < _; rw [n1]; omega)]; simp
  · unfold TW; rw [World.cell?_alloc_lt _ _ _ (by show w.heap.size < _; rw [n2]; omega), World.cell?_alloc_lt _ _ _ (by show w.heap.size < _; rw [n1]; omega)]; simp
  · unfold TW; rw [World.cell?_alloc_lt _ _ _ (by show w.heap.size + 1 < _; rw [n2]; omega), ← n1]; exact World.cell?_alloc_at _ _ _ 0 (by simp)
  · unfold TW; rw [World.cell?_alloc_lt _ _ _ (by show w.heap.size + 1 < _; rw [n2]; omega), ← n1]; exact World.cell?_alloc_at _ _ _ 1 (by simp)
  · unfold TW; rw [World.cell?_alloc_lt _ _ _ (by show w.heap.size + 1 < _; rw [n2]; omega), ← n1]; exact World.cell?_alloc_at _ _ _ 2 (by simp)
  · unfold TW; simp [go_sem]
  · unfold TW; simp [go_sem]
  · unfold TW; simp [go_sem]
  · unfold TW; rw [← n2]; exact World.cell?_alloc_at _ _ _ 0 (by simp)
  · unfold TW; simp [go_sem]
theorem TwAt.blocks {b : Nat} {s : StV} {w W : World} (h : TwAt b s w) (hk : ∀ k, b ≤ k → k ≤ b + 2 → W.heap[k]? = w.heap[k]?) : TwAt b s W := by
  have hc : ∀ k i, b ≤ k → k ≤ b + 2 → W.cell? ⟨k, i, none⟩ = w.cell? ⟨k, i, none⟩ := fun k i h1 h2 => World.cell?_of_block (w := w) (a := ⟨k, i, none⟩) (hk k h1 h2)
  have hf : ∀ k i, b ≤ k → k ≤ b + 2 → W.frozen? ⟨k, i, none⟩ = w.frozen? ⟨k, i, none⟩ := fun k i h1 h2 => World.frozen?_of_block (w := w) (a := ⟨k, i, none⟩) (hk k h1 h2)
  obtain ⟨⟨a0, a1, a2⟩, ⟨⟨b0, b1, b2⟩, f0, f1, f2⟩, c0, f3⟩ := h
  refine ⟨⟨?_, ?_, ?_⟩, ⟨⟨?_, ?_, ?_⟩, ?_, ?_, ?_⟩, ?_, ?_⟩
  · rw [hc _ _ (by omega) (by omega)]; exact a0
  · rw [hc _ _ (by omega) (by omega)]; exact a1
  · rw [hc _ _ (by omega) (by omega)]; exact a2
  · rw [hc _ _ (by omega) (by omega)]; exact b0
  · rw [hc _ _ (by omega) (by omega)]; exact b1
  · rw [hc _ _ (by omega) (by omega)]; exact b2
  · rw [hf _ _ (by omega) (by omega)]; exact f0
  · rw [hf _ _ (by omega) (by omega)]; exact f1
  · rw [hf _ _ (by omega) (by omega)]; exact f2
  · rw [hc _ _ (by omega) (by omega)]; exact c0
  · rw [hf _ _ (by omega) (by omega)]; exact f3

theorem getD_wd {xs : List Nat} (h : ∀ i : Nat, xs.getD i 0 < 18446744073709551616) : Wd xs := fun z hz => by
  obtain ⟨i, hi⟩ := List.getElem?_of_mem hz
  have := h i
  rw [List.getD_eq_getElem?_getD, hi] at this
  exact this
theorem wd_getD {xs : List Nat} (h : Wd xs) (i : Nat) : xs.getD i 0 < 18446744073709551616 := by
  rw [List.getD_eq_getElem?_getD]
  cases hi : xs[i]? with
  | none => simp
  | some z => exact h z (List.mem_of_getElem? hi)
/-- What was moved has words of 64 bits. -/
theorem MvOk.wd {xs : List Nat} {l : Fns} (hl : ∀ x ∈ l, 0 ≤ x.1 ∧ x.1 ≤ 1000) (hx : Wd xs) {s : StV} {lo size δ : Int} {L : List FrV} (h : MvOk xs l s lo size δ L) : Wd (mvAdj δ l L (mvCopy xs s δ)) := by
  obtain ⟨k1, k2, k3, k4⟩ := h.chn hl
  have hd := h.dist
  have hsm := h.small
  obtain ⟨rz1, rz2, rz3⟩ := h.rz hl
  have hcw : Wd (mvCopy xs s δ) := aStore_wd hx (fun z hz => hx z (by unfold aRow at hz; exact List.mem_of_mem_drop (List.mem_of_mem_take hz))) _
  have hgoal := h.goal
  have hmay := h.may
  unfold stMay stkSz at hgoal hmay
  simp at hgoal hmay
  exact getD_wd fun i => rz1.wd (by omega) rz3 rz2 (wd_getD hcw) (fun a ha => ha) i
/-- The arena's words, and what else is as it was. -/
def ToQ (X w : World) (p g len : Nat) (ys : List Nat) (W : World) : Prop := Ar W X.heap.size p g len ys ∧ w.grownBy W (some g)
theorem ToQ.setCell {X w W : World} {p g len : Nat} {ys : List Nat} (h : ToQ X w p g len ys W) (hp : p < w.heap.size) (hg : g < w.heap.size) {a : Addr} (ha : w.heap.size ≤ a.block) (v : Value) : ToQ X w p g len ys (W.setCell a v) :=
  ⟨h.1.setCell (by omega) (by omega) v, h.2.os, h.2.tape, h.2.output, by simpa using h.2.size, fun i hi hr => (Below.heap_setCell _ _ _ _ (by omega)).trans (h.2.block i hi hr)⟩
section
variable {X w : World} {p g len : Nat} {tp : Option Addr} {l : Fns} {xs : List Nat}
set_option maxRecDepth 100000 in
set_option maxHeartbeats 8000000 in
theorem code_mvto (ht : TabDB X) (st : AT X w p g len xs tp l) (hl : ∀ x ∈ l, 0 ≤ x.1 ∧ x.1 ≤ 1000) (hx : Wd xs) (s : StV) (hs : in64 s.lo ∧ in64 s.size ∧ in64 s.sp) (lo size : Int) (i4 : in64 lo) (i5 : in64 size) (ys : List Nat) (t : StV) (no : Int) (hr : mvTo xs l s lo size = (ys, t, no)) :
    Calls Tryz.prog 10 #[.pointer (some ⟨p, 0, none⟩), .pointer tp, stC s, .int .i64 lo, .int .i64 size] w fun e w' => e = .returned (.tuple #[stC t, .int .i64 no]) ∧ AT X w' p g len ys tp l ∧ w.grownBy w' (some g) := by
  have hlen := st.ar.hlen
  have hsm := st.ar.small
  have hgl := st.ar.lt
  obtain ⟨f1, f2, f3⟩ := TW.facts w s
  obtain ⟨r, hre⟩ : ∃ r, mvErr xs l s lo size = r := ⟨_, rfl⟩
  obtain ⟨δ, hδ⟩ : ∃ δ, mvBy s lo size = δ := ⟨_, rfl⟩
  have kb := fun W => code_mvby s lo size W δ hδ
  have KF : Hid (∀ W, Below (TW w s).heap.size (TW w s) W → Calls Tryz.prog 29 #[mvC (some ⟨p, 0, none⟩) tp δ, stC s, stC ⟨lo, size, lo⟩] W (MvFr W r (wkFrames xs l s).1)) := hidb (fun W hb => c_mvframes (st.step (belF_tr f1 hb)) hl hx s hs lo size δ i4 i5 r hre)
  have HC : Hid (∀ W, (TW w s).grownBy W (some g) → TwAt w.heap.size s W) := hidb (fun W hg => f3.blocks fun k h1 h2 => hg.block k (by omega) (fun e => by injection e with e; omega))
  have HST : Hid (∀ W, Below (TW w s).heap.size (TW w s) W → AT X W p g len xs tp l) := hidb (fun W hb => st.step (belF_tr f1 hb))
  have HBW : Hid (∀ W, Below (TW w s).heap.size (TW w s) W → Below w.heap.size w W) := hidb (fun W hb => belF_tr f1 hb)
  have HMV : Hid (∀ W1 W : World, (W1.alloc (.cells #[.pointer (some ⟨p, 0, none⟩), .pointer tp, .int .i64 δ] 80)).grownBy W (some g) → g < W1.heap.size → W.cell? ⟨W1.heap.size, 0, none⟩ = some (.pointer (some ⟨p, 0, none⟩)) ∧ W.cell? ⟨W1.heap.size, 1, none⟩ = some (.pointer tp) ∧ W.cell? ⟨W1.heap.size, 2, none⟩ = some (.int .i64 δ)) := hidb (fun W1 W hg hgl => by
    have hc : ∀ k, W.cell? ⟨W1.heap.size, k, none⟩ = (W1.alloc (.cells #[.pointer (some ⟨p, 0, none⟩), .pointer tp, .int .i64 δ] 80)).cell? ⟨W1.heap.size, k, none⟩ := fun k => World.cell?_of_block (hg.block W1.heap.size (by simp) (fun e => by injection e with e; omega))
    refine ⟨?_, ?_, ?_⟩ <;> (rw [hc]; simp))
  have HGL := hidb hgl
  have HZ := hidb f2
  by_cases h0 : r = 0
  · subst h0
    have hok := mvErr_ok hre (by omega)
    obtain ⟨k1, k2, k3, k4⟩ := hok.chn hl
    have hto := mvTo_code hl hok
    obtain ⟨L, hL⟩ : ∃ L, (wkFrames xs l s).1 = L := ⟨_, rfl⟩
    rw [hL] at hok hto KF
    have hmay := hok.may
    have hgoal := hok.goal
    unfold stMay stkSz at hmay hgoal
    simp at hmay hgoal
    have hdd : lo + size - s.lo - s.size = δ := by
      rw [← hδ]
      unfold mvBy
      rw [if_pos (by simp [mvRk]; omega)]
    rw [hdd] at hok hto k4
    rw [hto] at hr
    obtain ⟨e1, e2⟩ := Prod.mk.inj hr
    obtain ⟨e2, e3⟩ := Prod.mk.inj e2
    subst e2 e3
    have hLm : L.length ≤ 65536 := by
      have := wkFrames_few hl (Prod.ext hL rfl : wkFrames xs l s = (L, (wkFrames xs l s).2))
      omega
    obtain ⟨rz1, rz2, rz3⟩ := hok.rz hl
    have hwd : ∀ i : Nat, (mvCopy xs s δ).getD i 0 < 18446744073709551616 := fun i => by
      have hcw : Wd (mvCopy xs s δ) := aStore_wd hx (fun z hz => hx z (by unfold aRow at hz; exact List.mem_of_mem_drop (List.mem_of_mem_take hz))) _
      rw [List.getD_eq_getElem?_getD]
      cases h : (mvCopy xs s δ)[i]? with
      | none => simp
      | some z => exact hcw z (List.mem_of_getElem? h)
    obtain ⟨us, hus⟩ : ∃ us, s.lo + s.size - s.sp = us := ⟨_, rfl⟩
    have KZ : Hid (∀ W, Below (TW w s).heap.size (TW w s) W → Calls Tryz.prog 29 #[mvC (some ⟨p, 0, none⟩) tp δ, stC s, stC ⟨lo, size, lo⟩] W fun e w' => ∃ A c, e = .returned (.slice A L.length c) ∧ FrRow w' w'.heap.size A L.length L ∧ Below W.heap.size W w') := hidb (fun W hb => (KF.out W hb).mono fun e w' h => by
      obtain ⟨hb, h⟩ := h
      rcases h with ⟨h, _⟩ | ⟨h, _⟩ | ⟨h, _⟩ | ⟨_, A, c, h1, h2⟩
      · simp at h
      · simp at h
      · simp at h
      · exact ⟨A, c, h1, h2, hb⟩)
    have KU : Hid (∀ W, Calls Tryz.prog 31 #[stC s] W fun e w' => e = .returned (.int .i64 us) ∧ Below W.heap.size W w') := hidb (fun W => by
      have := code_wused s (by unfold StNear; omega) W
      rw [show max (s.lo + s.size - s.sp) 0 = us by omega] at this
      exact this)
    have KM : Hid (∀ W, Below (TW w s).heap.size (TW w s) W → Calls Tryz.prog 30 #[.pointer (some ⟨p, 0, none⟩), .int .i64 (s.sp + δ), .int .i64 s.sp, .int .i64 us] W fun e w' => e = .returned (.int .i64 0) ∧ Hid (AT X w' p g len (mvCopy xs s δ) tp l) ∧ Hid (W.grownBy w' (some g))) := hidb (fun W hb => by
      have s1 := HST.out W hb
      have := code_amove (s.sp + δ).toNat s.sp.toNat us.toNat s1.ar (by omega) (by omega)
      rw [show (((s.sp + δ).toNat : Nat) : Int) = s.sp + δ by omega, show ((s.sp.toNat : Nat) : Int) = s.sp by omega, show ((us.toNat : Nat) : Int) = us by omega] at this
      refine this.mono ?_
      rintro e w' ⟨rfl, h2, h3⟩
      have e : aStore xs (s.sp + δ).toNat (aRow xs s.sp.toNat us.toNat) = mvCopy xs s δ := by unfold mvCopy; rw [hus]
      rw [e] at h2
      exact ⟨rfl, hidb (s1.wrote h2 h3), hidb h3⟩)
    have KJ : Hid (∀ W A c, AT X W p g len (mvCopy xs s δ) tp l → FrRow W W.heap.size A L.length L → Calls Tryz.prog 32 #[mvC (some ⟨p, 0, none⟩) tp δ, .slice A L.length c] W fun e w' => e = .returned (.tuple #[]) ∧ Hid (AT X w' p g len ys tp l) ∧ Hid (W.grownBy w' (some g))) := hidb (fun W A c s1 hf => by
      refine (c_mvadj (c := c) ht s1 hl hwd (by omega) rz3 (by rw [hlen] at rz1; exact rz1) hf (by omega)).mono ?_
      rintro e w' ⟨rfl, h2, h3⟩
      rw [e1] at h2
      exact ⟨rfl, hidb h2, hidb h3⟩)
    have HFIN : Hid (∀ W, AT X W p g len ys tp l → w.grownBy W (some g) → ∀ v0 v1 v2 v3 v4, AT X (((((W.setCell ⟨w.heap.size + 1, 0, none⟩ v0).setCell ⟨w.heap.size + 1, 1, none⟩ v1).setCell ⟨w.heap.size + 1, 2, none⟩ v2).setCell ⟨w.heap.size + 1 + 1, 0, none⟩ v3).setCell ⟨w.heap.size + 1 + 1, 0, none⟩ v4) p g len ys tp l ∧ w.grownBy (((((W.setCell ⟨w.heap.size + 1, 0, none⟩ v0).setCell ⟨w.heap.size + 1, 1, none⟩ v1).setCell ⟨w.heap.size + 1, 2, none⟩ v2).setCell ⟨w.heap.size + 1 + 1, 0, none⟩ v3).setCell ⟨w.heap.size + 1 + 1, 0, none⟩ v4) (some g)) := hidb (fun W s6 hg v0 v1 v2 v3 v4 => by
      have q0 : ToQ X w p g len ys W := ⟨s6.ar, hg⟩
      have hp := st.ar.ltp
      have q5 := ((((q0.setCell hp hgl (a := ⟨w.heap.size + 1, 0, none⟩) (by show w.heap.size ≤ w.heap.size + 1; omega) v0).setCell hp hgl (a := ⟨w.heap.size + 1, 1, none⟩) (by show w.heap.size ≤ w.heap.size + 1; omega) v1).setCell hp hgl (a := ⟨w.heap.size + 1, 2, none⟩) (by show w.heap.size ≤ w.heap.size + 1; omega) v2).setCell hp hgl (a := ⟨w.heap.size + 1 + 1, 0, none⟩) (by show w.heap.size ≤ w.heap.size + 1 + 1; omega) v3).setCell hp hgl (a := ⟨w.heap.size + 1 + 1, 0, none⟩) (by show w.heap.size ≤ w.heap.size + 1 + 1; omega) v4
      exact ⟨st.wrote q5.1 q5.2, q5.2⟩)
    have HFW : Hid (∀ (W W' : World) (A : Option Addr), Below (TW w s).heap.size (TW w s) W → FrRow W W.heap.size A L.length L → W.grownBy W' (some g) → FrRow W' W'.heap.size A L.length L) := hidb (fun W W' A hb hf hg => hf.wrote (HST.out W hb).ar hg)
    have h5 : 0 ≤ s.sp + δ ∧ s.sp + δ ≤ 65536 := by omega
    obtain ⟨g1, g2⟩ := h5
    have g3 : 0 ≤ s.sp ∧ s.sp ≤ 65536 := by omega
    obtain ⟨g3, g4⟩ := g3
    have HBR : Hid (∀ W1 W2, Below (TW w s).heap.size (TW w s) W1 → Below W1.heap.size W1 W2 → Below (TW w s).heap.size (TW w s) W2) := hidb (fun W1 W2 h1 h2 => belF_tr h1 h2)
    have HTG : Hid (w.grownBy (TW w s) (some g)) := hidb (below_to_grown f1 _)
    obtain ⟨sl, ss, sp⟩ := s
    unfold mvC stC at KZ
    unfold mvC at KJ
    unfold stC at kb KU
    unfold TwAt at HC
    unfold TW at KZ HC HZ KM HFW HBR HTG
    unfold stC
    simp only at *
    clear st hl hx hs i4 i5 hr hto hre hδ f1 f2 f3 hlen hsm hgl ht HST HBW KF hok k1 k2 k3 k4 hL hmay hgoal hdd e1 rz1 rz2 rz3 hwd hus
    --@2
    go_enter_defers Tryz.func10, Tryz.ntmps10
    go_wp2_with (first
      | (go_at_call 15; (with_reducible refine (kb _).mono ?_); rintro e w1 ⟨rfl, hb1⟩; have HB1 := hidb hb1; obtain ⟨⟨a0, a1, a2⟩, _⟩ := HC.out w1 (below_to_grown hb1 _); obtain ⟨⟨a3, a4, a5⟩, _⟩ := HC.out _ (below_to_grown (belF_al hb1 (.cells #[.pointer (some ⟨p, 0, none⟩), .pointer tp, .int .i64 δ] 80)) _); have HG1 : Hid (g < w1.heap.size) := hidb (by have := hb1.size; have := HGL.out; have := HZ.out; omega); clear hb1)
      | (go_at_call 29; (with_reducible refine (KZ.out _ (belF_al HB1.out _)).mono ?_); rintro e w3 ⟨A, c, rfl, hf3, hb3⟩; have HF3 := hidb hf3; have HB3 := hidb (HBR.out _ _ (belF_al HB1.out _) hb3); have HM3 : Hid ((w1.alloc (.cells #[.pointer (some ⟨p, 0, none⟩), .pointer tp, .int .i64 δ] 80)).grownBy w3 (some g)) := hidb (below_to_grown hb3 _); clear hb3 hf3))
    have HC3 : Hid (∀ W, w3.grownBy W (some g) → (W.cell? ⟨w.heap.size, 0, none⟩ = some (.int .i64 sl) ∧ W.cell? ⟨w.heap.size, 1, none⟩ = some (.int .i64 ss) ∧ W.cell? ⟨w.heap.size, 2, none⟩ = some (.int .i64 sp)) ∧ W.cell? ⟨w1.heap.size, 0, none⟩ = some (.pointer (some ⟨p, 0, none⟩)) ∧ W.cell? ⟨w1.heap.size, 1, none⟩ = some (.pointer tp) ∧ W.cell? ⟨w1.heap.size, 2, none⟩ = some (.int .i64 δ)) := hidb (fun W hg => ⟨(HC.out W (grown_trans (below_to_grown HB3.out _) hg)).1, HMV.out w1 W (grown_trans HM3.out hg) HG1.out⟩)
    have HC3B : Hid (∀ W, Below w3.heap.size w3 W → (W.cell? ⟨w.heap.size, 0, none⟩ = some (.int .i64 sl) ∧ W.cell? ⟨w.heap.size, 1, none⟩ = some (.int .i64 ss) ∧ W.cell? ⟨w.heap.size, 2, none⟩ = some (.int .i64 sp)) ∧ W.cell? ⟨w1.heap.size, 0, none⟩ = some (.pointer (some ⟨p, 0, none⟩)) ∧ W.cell? ⟨w1.heap.size, 1, none⟩ = some (.pointer tp) ∧ W.cell? ⟨w1.heap.size, 2, none⟩ = some (.int .i64 δ)) := hidb (fun W hb => HC3.out W (below_to_grown hb _))
    have KM3 : Hid (∀ W, Below w3.heap.size w3 W → Calls Tryz.prog 30 #[.pointer (some ⟨p, 0, none⟩), .int .i64 (sp + δ), .int .i64 sp, .int .i64 us] W fun e w' => e = .returned (.int .i64 0) ∧ Hid (AT X w' p g len (mvCopy xs ⟨sl, ss, sp⟩ δ) tp l) ∧ Hid (w3.grownBy w' (some g))) := hidb (fun W hb => (KM.out W (HBR.out _ _ HB3.out hb)).mono fun e w' h => ⟨h.1, h.2.1, hidb (grown_trans (below_to_grown hb _) h.2.2.out)⟩)
    have KJ3 : Hid (∀ W, w3.grownBy W (some g) → Hid (AT X W p g len (mvCopy xs ⟨sl, ss, sp⟩ δ) tp l) → Calls Tryz.prog 32 #[.agg #[.pointer (some ⟨p, 0, none⟩), .pointer tp, .int .i64 δ], .slice A L.length c] W fun e w' => e = .returned (.tuple #[]) ∧ Hid (AT X w' p g len ys tp l) ∧ Hid (w3.grownBy w' (some g))) := hidb (fun W hg s1 => (KJ.out W A c s1.out (HFW.out _ _ _ HB3.out HF3.out hg)).mono fun e w' h => ⟨h.1, h.2.1, hidb (grown_trans hg h.2.2.out)⟩)
    have HWR : Hid (IntKind.i64.wrap (sp + δ) = sp + δ) := hidb (by simp [IntKind.wrap, IntKind.bits, IntKind.signed]; omega)
    clear a0 a1 a2 a3 a4 a5 kb
    have h30 := HC3B.out w3 (Below.refl _ _)
    obtain ⟨⟨a0, a1, a2⟩, b0, b1, b2⟩ := h30
    (first | go_region_held3 (fun W => (W.cell? ⟨w.heap.size, 0, none⟩ = some (.int .i64 sl) ∧ W.cell? ⟨w.heap.size, 1, none⟩ = some (.int .i64 ss) ∧ W.cell? ⟨w.heap.size, 2, none⟩ = some (.int .i64 sp)) ∧ W.cell? ⟨w1.heap.size, 0, none⟩ = some (.pointer (some ⟨p, 0, none⟩)) ∧ W.cell? ⟨w1.heap.size, 1, none⟩ = some (.pointer tp) ∧ W.cell? ⟨w1.heap.size, 2, none⟩ = some (.int .i64 δ))
      (first | ((with_reducible refine HC3B.out _ ?_); (repeat (first | with_reducible exact Below.refl _ _ | with_reducible exact Hid.out (by assumption) | with_reducible apply belF_al | with_reducible apply belF_dr)); done) | (go_keep; done))
      (first
        | (go_at_call 31; (with_reducible refine (KU.out _).mono ?_); rintro e w4 ⟨rfl, hb4⟩; have HB4 : Hid (Below w3.heap.size w3 w4) := hidb (belF_tr (by (repeat (first | with_reducible exact Below.refl _ _ | with_reducible exact Hid.out (by assumption) | with_reducible apply belF_al | with_reducible apply belF_dr))) hb4); have hc4 := HC3B.out w4 HB4.out; clear hb4)
        | (go_at_call 30; (try rw [HWR.out]); (with_reducible refine (KM3.out _ HB4.out).mono ?_); rintro e w5 ⟨rfl, hs5, hg5⟩; have hc5 := HC3.out w5 hg5.out)) | fail)
    obtain ⟨⟨c0, c1, c2⟩, d0, d1, d2⟩ := hc5
    go_wp2_with (first
      | (go_at_call 32; (with_reducible refine (KJ3.out _ hg5.out hs5).mono ?_); rintro e w6 ⟨rfl, hs6, hg6⟩; obtain ⟨⟨e0, e1, e2⟩, i0, i1, i2⟩ := HC3.out w6 hg6.out; obtain ⟨-, ⟨⟨r0, r1, r2⟩, r3, r4, r5⟩, r6, r7⟩ := HC.out w6 (grown_trans (below_to_grown HB3.out _) hg6.out)))
    obtain ⟨t0, t1, t2⟩ := three_cells w6 (w.heap.size + 1) (.int .i64 lo) (.int .i64 size) (.int .i64 (sp + δ)) _ _ _ r0 r1 r2
    have hb12 : w.heap.size + 1 ≠ w.heap.size + 1 + 1 := by omega
    generalize hWA : ((w6.setCell ⟨w.heap.size + 1, 0, none⟩ (.int .i64 lo)).setCell ⟨w.heap.size + 1, 1, none⟩ (.int .i64 size)).setCell ⟨w.heap.size + 1, 2, none⟩ (.int .i64 (sp + δ)) = WA at *
    have hA : WA.cell? ⟨w.heap.size + 1 + 1, 0, none⟩ = some (.int .i64 0) := by
      rw [← hWA, World.cell?_setCell_other _ _ _ _ (fun e => by injection e with e; omega), World.cell?_setCell_other _ _ _ _ (fun e => by injection e with e; omega), World.cell?_setCell_other _ _ _ _ (fun e => by injection e with e; omega)]
      exact r6
    have hF : WA.frozen? ⟨w.heap.size + 1 + 1, 0, none⟩ = false := by rw [← hWA]; simp [r7]
    have hA2 := World.cell?_setCell_same WA ⟨w.heap.size + 1 + 1, 0, none⟩ (.int .i64 0) hA
    have ho : ∀ (v v' : Value) k, ((WA.setCell ⟨w.heap.size + 1 + 1, 0, none⟩ v).setCell ⟨w.heap.size + 1 + 1, 0, none⟩ v').cell? ⟨w.heap.size + 1, k, none⟩ = WA.cell? ⟨w.heap.size + 1, k, none⟩ := fun v v' k => by
      rw [World.cell?_setCell_other _ _ _ _ (fun e => by injection e with e; omega), World.cell?_setCell_other _ _ _ _ (fun e => by injection e with e; omega)]
    refine leaves_cons (f := 27) (args := #[.pointer (some ⟨w.heap.size + 1 + 1, 0, none⟩)]) (by simp) (by simp [go_sem]) ?_
    refine (idle_mv ⟨w.heap.size + 1 + 1, 0, none⟩ 0 _ hA2 (by simp [hF])).mono ?_
    rintro e u' w'' ⟨rfl, rfl, rfl⟩
    have hc2 := World.cell?_setCell_same (WA.setCell ⟨w.heap.size + 1 + 1, 0, none⟩ (.int .i64 0)) ⟨w.heap.size + 1 + 1, 0, none⟩ (.int .i64 0) hA2
    have u0 := (ho (.int .i64 0) (.int .i64 0) 0).trans t0
    have u1 := (ho (.int .i64 0) (.int .i64 0) 1).trans t1
    have u2 := (ho (.int .i64 0) (.int .i64 0) 2).trans t2
    simp [Leaves, settle, results, Tryz.results10, go_sem, hc2, u0, u1, u2]
    rw [← hWA]
    exact HFIN.out w6 hs6.out (grown_trans HTG.out (grown_trans (below_to_grown HB3.out _) hg6.out)) _ _ _ _ _
  · have hto := mvTo_err hre h0 (by omega)
    rw [hr] at hto
    obtain ⟨e1, e2⟩ := Prod.mk.inj hto
    obtain ⟨e2, e3⟩ := Prod.mk.inj e2
    subst e1 e2 e3
    have PE : Hid (∀ W, Below (TW w s).heap.size (TW w s) W → ∀ v : Int, AT X (W.setCell ⟨w.heap.size + 1 + 1, 0, none⟩ (.int .i64 v)) p g len ys tp l ∧ w.grownBy (W.setCell ⟨w.heap.size + 1 + 1, 0, none⟩ (.int .i64 v)) (some g)) := hidb (fun W hb v => by
      have hb2 : Below w.heap.size w (W.setCell ⟨w.heap.size + 1 + 1, 0, none⟩ (.int .i64 v)) := (belF_tr f1 hb).setCell (by show w.heap.size ≤ w.heap.size + 1 + 1; omega) _
      exact ⟨st.step hb2, below_to_grown hb2 _⟩)
    obtain ⟨T, hT1, hT2⟩ := mvThrown (r := no) (by have := mvErr_vals ys l s lo size; omega)
    have KP : Hid (∀ W, Below (TW w s).heap.size (TW w s) W → Calls Tryz.prog 29 #[mvC (some ⟨p, 0, none⟩) tp δ, stC s, stC ⟨lo, size, lo⟩] W fun e w' => e = .panicked [{ v := .iface T (.agg #[]), recovered := false }] ∧ Below W.heap.size W w') := hidb (fun W hb => (KF.out W hb).mono fun e w' h => hT2 _ _ _ _ h)
    have HCT := hidb (catch_mv T no hT1)
    have HTI := hidb f3
    obtain ⟨sl, ss, sp⟩ := s
    unfold mvC stC at KP
    unfold stC at kb
    unfold TwAt at HC
    unfold TW at KP HC HST HBW HZ PE
    unfold stC st0
    simp only at *
    clear st hl hx hs i4 i5 hr hto hre hδ f1 f2 f3 hlen hsm hgl ht HST HBW HMV KF hT1 hT2
    --@1
    go_enter_defers Tryz.func10, Tryz.ntmps10
    go_wp2_with (first
      | (go_at_call 15; (with_reducible refine (kb _).mono ?_); rintro e w1 ⟨rfl, hb1⟩; have HB1 := hidb hb1; obtain ⟨⟨a0, a1, a2⟩, _⟩ := HC.out w1 (below_to_grown hb1 _); obtain ⟨⟨a3, a4, a5⟩, _⟩ := HC.out _ (below_to_grown (belF_al hb1 (.cells #[.pointer (some ⟨p, 0, none⟩), .pointer tp, .int .i64 δ] 80)) _); clear hb1)
      | (go_at_call 29; (with_reducible refine (KP.out _ (belF_al HB1.out _)).mono ?_); rintro e w2 ⟨rfl, hb2⟩))
    have HB2 := hidb (belF_tr (belF_al HB1.out _) hb2)
    obtain ⟨-, ⟨⟨b0, b1, b2⟩, -, -, -⟩, hce, hfe⟩ := HC.out w2 (below_to_grown HB2.out _)
    refine leaves_cons (f := 27) (args := #[.pointer (some ⟨w.heap.size + 1 + 1, 0, none⟩)]) (by simp) (by simp [go_sem]) ?_
    refine (HCT.out ⟨w.heap.size + 1 + 1, 0, none⟩ 0 w2 (lt_of_cell' hce) hce hfe).mono ?_
    rintro e u' w'' ⟨rfl, rfl, rfl⟩
    have hc2 : ((w2.alloc (.cells #[] T)).setCell ⟨w.heap.size + 1 + 1, 0, none⟩ (.int .i64 no)).cell? ⟨w.heap.size + 1 + 1, 0, none⟩ = some (.int .i64 no) := World.cell?_setCell_same _ _ _ ((World.cell?_alloc_lt _ _ _ (lt_of_cell' hce)).trans hce)
    have hcz : ∀ k, ((w2.alloc (.cells #[] T)).setCell ⟨w.heap.size + 1 + 1, 0, none⟩ (.int .i64 no)).cell? ⟨w.heap.size + 1, k, none⟩ = w2.cell? ⟨w.heap.size + 1, k, none⟩ := fun k => (World.cell?_setCell_other _ _ _ _ (fun e => by injection e with e; omega)).trans (World.cell?_alloc_lt _ _ _ (by show w.heap.size + 1 < _; have := lt_of_cell' b0; exact this))
    have z0 := (hcz 0).trans b0
    have z1 := (hcz 1).trans b1
    have z2 := (hcz 2).trans b2
    simp [Leaves, settle, results, Tryz.results10, go_sem, hc2, z0, z1, z2]
    exact PE.out _ (belF_al HB2.out _) no
end
end Go.Proofs.YtlniakcoikhilaaGreatDoor
