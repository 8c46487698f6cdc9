/- Several texts in one: MdcRow, MdcRight, MdcSlot, MdcThrow, MdcCopy, MdcChange, MdcAsked, MdcFresh, MdcStore. -/
import Derived.Test.YtdcnpaodcjfdbaaGreatDoorMdlBase
import Derived.Test.YtdcnpaodcjfdbaaGreatDoorMdlIn
import Derived.Test.YtdcnpaodcjfdbaaGreatDoorFloatLib
/- What the code of layer 19 (model) returns: has, against. -/
namespace Go.Proofs.YtdcnpaodcjfdbaaGreatDoor
open Go.RowKit
set_option linter.unusedVariables false

/-- Of which type is what is thrown of an error. -/
def thrT (r : Int) : TypeId := if r = 9 then 140 else if r = 1 then 91 else if r = 2 then 126 else if r = 5 then 125 else if r = 7 then 127 else if r = 8 then 94 else 128
/-- What is to be thrown, or nothing. -/
def agV (r : Int) : Value := if r = 0 then .nilIface else .iface (thrT r) (.agg #[])
/-- What was thrown. -/
def Threw19 (r : Int) (w : World) (e : Ending) (w' : World) : Prop := e = .panicked [{ v := .iface (thrT r) (.agg #[]), recovered := false }] ∧ Below w.heap.size w w'
/-- A row's value. -/
abbrev rwB (w : World) (tp A : Option Addr) (n c : Nat) : World := w.alloc (.cells #[.pointer tp, .slice A n c] 66)
theorem rwB_at (w : World) (tp A : Option Addr) (n c : Nat) : Hid (∀ W, Below (rwB w tp A n c).heap.size (rwB w tp A n c) W → W.cell? ⟨w.heap.size, 0, none⟩ = some (.pointer tp) ∧ W.cell? ⟨w.heap.size, 1, none⟩ = some (.slice A n c)) := hidb (fun W hb => by
  have hz : (rwB w tp A n c).heap.size = w.heap.size + 1 := by simp
  exact ⟨(hb.cell (p := ⟨w.heap.size, 0, none⟩) (by show w.heap.size < _; omega)).trans (by simp), (hb.cell (p := ⟨w.heap.size, 1, none⟩) (by show w.heap.size < _; omega)).trans (by simp)⟩)
section
variable {w : World} {A : Option Addr} {n c B : Nat} {zs : List AfS} {tp : Option Addr} {lo hi : Nat} {l : Fns}
theorem c_rhas (h : AfRow w B A n zs) (hB : B ≤ w.heap.size) (hn : n ≤ 1000000) (d i : Int) (hd : in64 d) (hi : in64 i) (b : Bool) (hb : mdHas (afvals zs) d i = b) :
    Calls Tryz.prog 84 #[.agg #[.pointer tp, .slice A n c], .int .i64 d, .int .i64 i] w fun e w' => e = .returned (.bool b) ∧ Below w.heap.size w w' := by
  have hlen : ((afvals zs).length : Int) = (n : Int) := by rw [afvals_length, h.len]
  unfold in64 at hd hi
  by_cases h1 : d < 0
  · rw [mdHas_out (Or.inl h1)] at hb
    subst hb
    clear h hlen
    --@1
    go_enter Tryz.func84, Tryz.ntmps84
    go_wp2
    go_ret
    exact ⟨rfl, belF_al (Below.refl _ _) _⟩
  by_cases h2 : (n : Int) ≤ d
  · rw [mdHas_out (Or.inr (Or.inl (by omega)))] at hb
    subst hb
    clear h hlen
    --@2
    go_enter Tryz.func84, Tryz.ntmps84
    go_wp2
    go_ret
    exact ⟨rfl, belF_al (Below.refl _ _) _⟩
  by_cases h3 : i < 0
  · rw [mdHas_out (Or.inr (Or.inr h3))] at hb
    subst hb
    clear h hlen
    --@3
    go_enter Tryz.func84, Tryz.ntmps84
    go_wp2
    go_ret
    exact ⟨rfl, belF_al (Below.refl _ _) _⟩
  obtain ⟨bb, off, z, rfl, hbl, hx, hc0, hc1, hok⟩ := h.at_ (j := d.toNat) (by omega)
  rw [mdHas_in hx (by omega) (by omega), hok.len] at hb
  have hsm := hok.small
  obtain ⟨zf, zA, zn, zc, zvs⟩ := z
  simp only at *
  have f1 : d < (n : Int) := by omega
  have f2 : 0 ≤ d := by omega
  have f3 : 0 ≤ i := by omega
  have hc2 : (rwB w tp (some ⟨bb, off, none⟩) n c).cell? ⟨bb, off + d.toNat * 2 + 1, none⟩ = some (.slice zA zn zc) := by rw [World.cell?_alloc_lt _ _ _ (by show bb < w.heap.size; omega)]; exact hc1
  have hbl2 : bb < w.heap.size := by omega
  clear h hlen hx hok hc0
  --@4
  go_enter Tryz.func84, Tryz.ntmps84
  go_wp2
  go_ret
  exact ⟨by (first | exact congrArg Ending.returned (congrArg Value.bool hb) | (rw [← hb]; rfl)), belF_al (Below.refl _ _) _⟩

/-- The call's first blocks: the row, the value. -/
abbrev agB (w : World) (tp A : Option Addr) (n c : Nat) (v : VlV) : World := (rwB w tp A n c).alloc (.cells #[.int .u8 (v.kind : Int), .int .u64 (v.bits : Int), .int .i64 v.depth, .int .i64 v.slot] 34)
set_option maxRecDepth 100000 in
set_option maxHeartbeats 4000000 in
theorem c_against (ht : TbO w lo hi tp l) (hhi : hi ≤ w.heap.size) (hs : AfRow w w.heap.size A n zs) (hn : n ≤ 1000000) (d : Nat) (hd : d < n) (i : Int) (h64 : in64 i) (v : VlV) (hv : VIn v) (r : Int) (hr : mdFits l (afvals zs) d i v = r) :
    Calls Tryz.prog 53 #[.agg #[.pointer tp, .slice A n c], .int .i64 (d : Int), .int .i64 i, vlC v] w fun e w' => e = .returned (agV r) ∧ Below w.heap.size w w' := by
  obtain ⟨b, off, z, rfl, hbl, hx, hc0, _, hok⟩ := hs.at_ hd
  have hfn := hok.fn
  have hg := afvals_at hx
  obtain ⟨fn, hfe⟩ : ∃ fn, z.fn = fn := ⟨_, rfl⟩
  rw [hfe] at hc0 hg hfn
  obtain ⟨P, hP⟩ : ∃ P, fPtr l fn i = P := ⟨_, rfl⟩
  obtain ⟨H, hH⟩ : ∃ H, mdHas (afvals zs) v.depth v.slot = H := ⟨_, rfl⟩
  have E0 : r = if vMay v = false then 1 else if P = decide (v.kind = 1) then 5 else if v.kind = 2 ∧ H = false then 2 else if v.kind = 2 ∧ (d : Int) < v.depth then 7 else 0 := by
    rw [← hr]; unfold mdFits; rw [hg, hP, hH]
  have hb0 : Below w.heap.size w (agB w tp (some ⟨b, off, none⟩) n c v) := belF_al (belF_al (Below.refl _ _) _) _
  have HB := hidb hb0
  have hz1 : (rwB w tp (some ⟨b, off, none⟩) n c).heap.size = w.heap.size + 1 := by simp
  have HMAY : Hid (∀ W m q, vMay v = m → q = W.heap.size → Calls Tryz.prog 83 #[.slice (some ⟨q, 0, none⟩) 1 1] (W.alloc (.cells #[.int .u8 (v.kind : Int), .int .u64 (v.bits : Int), .int .i64 v.depth, .int .i64 v.slot] 34)) fun e w' => e = .returned (.bool m) ∧ Below W.heap.size W w') := hidb (fun W m q hm hq => by
    subst hq
    refine (code_vmay _ 1 1 [v] _ _ (vlit_row W v) (by simp) (by omega) (fun u hu => by rw [List.mem_singleton.1 hu]; exact ⟨hv.depth, hv.slot⟩) m (by simp [hm])).mono ?_
    rintro e w' ⟨rfl, hb⟩
    exact ⟨rfl, belF_tr (belF_al (Below.refl _ _) _) hb⟩)
  have CH : Hid (∀ W, Below w.heap.size w W → Calls Tryz.prog 84 #[.agg #[.pointer tp, .slice (some ⟨b, off, none⟩) n c], .int .i64 v.depth, .int .i64 v.slot] W fun e w' => e = .returned (.bool H) ∧ Below W.heap.size W w') := hidb (fun W hb => c_rhas (hs.step hb) (Nat.le_refl _) hn _ _ hv.depth hv.slot _ hH)
  have CP : Hid (∀ W, Below w.heap.size w W → Calls Tryz.prog 81 #[.pointer tp, .int .i64 fn, .int .i64 i] W fun e w' => e = .returned (.bool P) ∧ Below W.heap.size W w') := hidb (fun W hb => by rw [← hP]; exact code_fptr (ht.below (hb.mono hhi)) (Nat.le_trans hhi hb.size) fn i h64)
  obtain ⟨k, vb, vd, vi⟩ := v
  obtain ⟨hk, hvb, hvd, hvi⟩ := hv
  unfold vlC at *
  simp only at *
  have HC : Hid (∀ W, Below (agB w tp (some ⟨b, off, none⟩) n c ⟨k, vb, vd, vi⟩).heap.size (agB w tp (some ⟨b, off, none⟩) n c ⟨k, vb, vd, vi⟩) W → (W.cell? ⟨w.heap.size, 0, none⟩ = some (.pointer tp) ∧ W.cell? ⟨w.heap.size, 1, none⟩ = some (.slice (some ⟨b, off, none⟩) n c)) ∧ W.cell? ⟨b, off + d * 2, none⟩ = some (.int .i64 fn) ∧ W.cell? ⟨w.heap.size + 1, 0, none⟩ = some (.int .u8 (k : Int)) ∧ W.cell? ⟨w.heap.size + 1, 2, none⟩ = some (.int .i64 vd) ∧ W.cell? ⟨w.heap.size + 1, 3, none⟩ = some (.int .i64 vi)) := hidb (fun W hb => by
    have hz2 : (agB w tp (some ⟨b, off, none⟩) n c ⟨k, vb, vd, vi⟩).heap.size = w.heap.size + 2 := by simp
    have h0 := (rwB_at w tp (some ⟨b, off, none⟩) n c).out W (belF_tr (belF_al (Below.refl _ _) _) hb)
    have e : ∀ j, W.cell? ⟨w.heap.size + 1, j, none⟩ = (agB w tp (some ⟨b, off, none⟩) n c ⟨k, vb, vd, vi⟩).cell? ⟨w.heap.size + 1, j, none⟩ := fun j => hb.cell (by show w.heap.size + 1 < _; omega)
    refine ⟨h0, ((belF_tr hb0 hb).cell (p := ⟨b, off + d * 2, none⟩) hbl).trans hc0, ?_, ?_, ?_⟩ <;> (rw [e, ← hz1]; simp))
  have hi0 : (0 : Int) ≤ (d : Int) := by omega
  have hi1 : (d : Int) < (n : Int) := by omega
  clear hs ht hx hc0 hok hg hfe hP hb0 hH hhi hfn hr hz1 h64
  cases hm : vMay ⟨k, vb, vd, vi⟩ with
  | false =>
    rw [if_pos hm] at E0
    have cm := fun W q => HMAY.out W _ q hm
    subst E0
    clear hm HMAY CH CP
    --@5
    go_enter Tryz.func53, Tryz.ntmps53
    go_wp2_with (first | (go_at_call 83; (with_reducible refine (cm _ _ (by simp)).mono ?_); rintro e w1 ⟨rfl, hb1⟩))
    go_ret
    exact ⟨rfl, belF_tr HB.out hb1⟩
  | true =>
    rw [if_neg (by rw [hm]; simp)] at E0
    have cm := fun W q => HMAY.out W _ q hm
    clear hm HMAY
    by_cases h5 : P = decide (k = 1)
    · rw [if_pos h5] at E0
      subst E0
      have eb : (P == ((k : Int) == 1)) = true := by rw [h5]; by_cases e : k = 1 <;> simp [e] <;> omega
      clear h5 CH
      --@6
      go_enter Tryz.func53, Tryz.ntmps53
      go_wp2_with (first | (go_at_call 83; (with_reducible refine (cm _ _ (by simp)).mono ?_); rintro e w1 ⟨rfl, hb1⟩; have HB1 := hidb hb1; have hc1 := HC.out w1 hb1; clear hb1))
      clear cm
      (first | go_region_held3 (fun W => (W.cell? ⟨w.heap.size, 0, none⟩ = some (.pointer tp) ∧ W.cell? ⟨w.heap.size, 1, none⟩ = some (.slice (some ⟨b, off, none⟩) n c)) ∧ W.cell? ⟨b, off + d * 2, none⟩ = some (.int .i64 fn) ∧ W.cell? ⟨w.heap.size + 1, 0, none⟩ = some (.int .u8 (k : Int)) ∧ W.cell? ⟨w.heap.size + 1, 2, none⟩ = some (.int .i64 vd) ∧ W.cell? ⟨w.heap.size + 1, 3, none⟩ = some (.int .i64 vi))
        (first | ((with_reducible refine HC.out _ ?_); (repeat (first | with_reducible exact Below.refl _ _ | with_reducible exact Hid.out (by assumption) | with_reducible apply belF_al | with_reducible apply belF_dr)); done) | (go_keep; done))
        (first | (go_at_call 81; (with_reducible refine (CP.out _ (belF_tr HB.out (by (repeat (first | with_reducible exact Below.refl _ _ | with_reducible exact Hid.out (by assumption) | with_reducible apply belF_al | with_reducible apply belF_dr))))).mono ?_); rintro e w2 ⟨rfl, hb2⟩; have HB2 := hidb (belF_tr HB1.out (belF_tr (belF_dr (Below.refl _ _)) hb2)); have hc2 := HC.out w2 HB2.out; clear hb2)) | fail)
      go_wp2
      go_ret
      exact ⟨rfl, belF_tr HB.out HB2.out⟩
    · rw [if_neg h5] at E0
      have eb : (P == ((k : Int) == 1)) = false := by cases P <;> by_cases e : k = 1 <;> simp [e] at h5 ⊢ <;> omega
      clear h5
      by_cases h2 : k = 2
      · have ek : ((k : Int) != 2) = false := by simp; omega
        by_cases h7 : H = false
        · rw [if_pos ⟨h2, h7⟩] at E0
          subst E0 h7
          clear h2
          --@7
          go_enter Tryz.func53, Tryz.ntmps53
          go_wp2_with (first | (go_at_call 83; (with_reducible refine (cm _ _ (by simp)).mono ?_); rintro e w1 ⟨rfl, hb1⟩; have HB1 := hidb hb1; have hc1 := HC.out w1 hb1; clear hb1))
          clear cm
          (first | go_region_held3 (fun W => (W.cell? ⟨w.heap.size, 0, none⟩ = some (.pointer tp) ∧ W.cell? ⟨w.heap.size, 1, none⟩ = some (.slice (some ⟨b, off, none⟩) n c)) ∧ W.cell? ⟨b, off + d * 2, none⟩ = some (.int .i64 fn) ∧ W.cell? ⟨w.heap.size + 1, 0, none⟩ = some (.int .u8 (k : Int)) ∧ W.cell? ⟨w.heap.size + 1, 2, none⟩ = some (.int .i64 vd) ∧ W.cell? ⟨w.heap.size + 1, 3, none⟩ = some (.int .i64 vi))
            (first | ((with_reducible refine HC.out _ ?_); (repeat (first | with_reducible exact Below.refl _ _ | with_reducible exact Hid.out (by assumption) | with_reducible apply belF_al | with_reducible apply belF_dr)); done) | (go_keep; done))
            (first | (go_at_call 81; (with_reducible refine (CP.out _ (belF_tr HB.out (by (repeat (first | with_reducible exact Below.refl _ _ | with_reducible exact Hid.out (by assumption) | with_reducible apply belF_al | with_reducible apply belF_dr))))).mono ?_); rintro e w2 ⟨rfl, hb2⟩; have HB2 := hidb (belF_tr HB1.out (belF_tr (belF_dr (Below.refl _ _)) hb2)); have hc2 := HC.out w2 HB2.out; clear hb2)) | fail)
          obtain ⟨⟨c0, c1⟩, c2, c3, c4, c5⟩ := hc2
          go_wp2_with (first | (go_at_call 84; (with_reducible refine (CH.out _ (belF_tr HB.out HB2.out)).mono ?_); rintro e w3 ⟨rfl, hb3⟩; have HB3 := hidb (belF_tr HB2.out hb3); have hc3 := HC.out w3 HB3.out; clear hb3))
          go_ret
          exact ⟨rfl, belF_tr HB.out HB3.out⟩
        · rw [if_neg (fun e => h7 e.2)] at E0
          obtain rfl : H = true := by cases H <;> simp at h7 ⊢
          by_cases h8 : (d : Int) < vd
          · rw [if_pos ⟨h2, h8⟩] at E0
            subst E0
            clear h2 h7
            --@8
            go_enter Tryz.func53, Tryz.ntmps53
            go_wp2_with (first | (go_at_call 83; (with_reducible refine (cm _ _ (by simp)).mono ?_); rintro e w1 ⟨rfl, hb1⟩; have HB1 := hidb hb1; have hc1 := HC.out w1 hb1; clear hb1))
            clear cm
            (first | go_region_held3 (fun W => (W.cell? ⟨w.heap.size, 0, none⟩ = some (.pointer tp) ∧ W.cell? ⟨w.heap.size, 1, none⟩ = some (.slice (some ⟨b, off, none⟩) n c)) ∧ W.cell? ⟨b, off + d * 2, none⟩ = some (.int .i64 fn) ∧ W.cell? ⟨w.heap.size + 1, 0, none⟩ = some (.int .u8 (k : Int)) ∧ W.cell? ⟨w.heap.size + 1, 2, none⟩ = some (.int .i64 vd) ∧ W.cell? ⟨w.heap.size + 1, 3, none⟩ = some (.int .i64 vi))
              (first | ((with_reducible refine HC.out _ ?_); (repeat (first | with_reducible exact Below.refl _ _ | with_reducible exact Hid.out (by assumption) | with_reducible apply belF_al | with_reducible apply belF_dr)); done) | (go_keep; done))
              (first | (go_at_call 81; (with_reducible refine (CP.out _ (belF_tr HB.out (by (repeat (first | with_reducible exact Below.refl _ _ | with_reducible exact Hid.out (by assumption) | with_reducible apply belF_al | with_reducible apply belF_dr))))).mono ?_); rintro e w2 ⟨rfl, hb2⟩; have HB2 := hidb (belF_tr HB1.out (belF_tr (belF_dr (Below.refl _ _)) hb2)); have hc2 := HC.out w2 HB2.out; clear hb2)) | fail)
            obtain ⟨⟨c0, c1⟩, c2, c3, c4, c5⟩ := hc2
            go_wp2_with (first | (go_at_call 84; (with_reducible refine (CH.out _ (belF_tr HB.out HB2.out)).mono ?_); rintro e w3 ⟨rfl, hb3⟩; have HB3 := hidb (belF_tr HB2.out hb3); have hc3 := HC.out w3 HB3.out; clear hb3))
            go_ret
            exact ⟨rfl, belF_tr HB.out HB3.out⟩
          · rw [if_neg (fun e => h8 e.2)] at E0
            subst E0
            clear h2 h7
            --@9
            go_enter Tryz.func53, Tryz.ntmps53
            go_wp2_with (first | (go_at_call 83; (with_reducible refine (cm _ _ (by simp)).mono ?_); rintro e w1 ⟨rfl, hb1⟩; have HB1 := hidb hb1; have hc1 := HC.out w1 hb1; clear hb1))
            clear cm
            (first | go_region_held3 (fun W => (W.cell? ⟨w.heap.size, 0, none⟩ = some (.pointer tp) ∧ W.cell? ⟨w.heap.size, 1, none⟩ = some (.slice (some ⟨b, off, none⟩) n c)) ∧ W.cell? ⟨b, off + d * 2, none⟩ = some (.int .i64 fn) ∧ W.cell? ⟨w.heap.size + 1, 0, none⟩ = some (.int .u8 (k : Int)) ∧ W.cell? ⟨w.heap.size + 1, 2, none⟩ = some (.int .i64 vd) ∧ W.cell? ⟨w.heap.size + 1, 3, none⟩ = some (.int .i64 vi))
              (first | ((with_reducible refine HC.out _ ?_); (repeat (first | with_reducible exact Below.refl _ _ | with_reducible exact Hid.out (by assumption) | with_reducible apply belF_al | with_reducible apply belF_dr)); done) | (go_keep; done))
              (first | (go_at_call 81; (with_reducible refine (CP.out _ (belF_tr HB.out (by (repeat (first | with_reducible exact Below.refl _ _ | with_reducible exact Hid.out (by assumption) | with_reducible apply belF_al | with_reducible apply belF_dr))))).mono ?_); rintro e w2 ⟨rfl, hb2⟩; have HB2 := hidb (belF_tr HB1.out (belF_tr (belF_dr (Below.refl _ _)) hb2)); have hc2 := HC.out w2 HB2.out; clear hb2)) | fail)
            obtain ⟨⟨c0, c1⟩, c2, c3, c4, c5⟩ := hc2
            go_wp2_with (first | (go_at_call 84; (with_reducible refine (CH.out _ (belF_tr HB.out HB2.out)).mono ?_); rintro e w3 ⟨rfl, hb3⟩; have HB3 := hidb (belF_tr HB2.out hb3); have hc3 := HC.out w3 HB3.out; clear hb3))
            go_ret
            exact ⟨rfl, belF_tr HB.out HB3.out⟩
      · have ek : ((k : Int) != 2) = true := by simp; omega
        rw [if_neg (fun e => h2 e.1), if_neg (fun e => h2 e.1)] at E0
        subst E0
        clear h2 CH
        --@10
        go_enter Tryz.func53, Tryz.ntmps53
        go_wp2_with (first | (go_at_call 83; (with_reducible refine (cm _ _ (by simp)).mono ?_); rintro e w1 ⟨rfl, hb1⟩; have HB1 := hidb hb1; have hc1 := HC.out w1 hb1; clear hb1))
        clear cm
        (first | go_region_held3 (fun W => (W.cell? ⟨w.heap.size, 0, none⟩ = some (.pointer tp) ∧ W.cell? ⟨w.heap.size, 1, none⟩ = some (.slice (some ⟨b, off, none⟩) n c)) ∧ W.cell? ⟨b, off + d * 2, none⟩ = some (.int .i64 fn) ∧ W.cell? ⟨w.heap.size + 1, 0, none⟩ = some (.int .u8 (k : Int)) ∧ W.cell? ⟨w.heap.size + 1, 2, none⟩ = some (.int .i64 vd) ∧ W.cell? ⟨w.heap.size + 1, 3, none⟩ = some (.int .i64 vi))
          (first | ((with_reducible refine HC.out _ ?_); (repeat (first | with_reducible exact Below.refl _ _ | with_reducible exact Hid.out (by assumption) | with_reducible apply belF_al | with_reducible apply belF_dr)); done) | (go_keep; done))
          (first | (go_at_call 81; (with_reducible refine (CP.out _ (belF_tr HB.out (by (repeat (first | with_reducible exact Below.refl _ _ | with_reducible exact Hid.out (by assumption) | with_reducible apply belF_al | with_reducible apply belF_dr))))).mono ?_); rintro e w2 ⟨rfl, hb2⟩; have HB2 := hidb (belF_tr HB1.out (belF_tr (belF_dr (Below.refl _ _)) hb2)); have hc2 := HC.out w2 HB2.out; clear hb2)) | fail)
        go_wp2
        go_ret
        exact ⟨rfl, belF_tr HB.out HB2.out⟩
end
end Go.Proofs.YtdcnpaodcjfdbaaGreatDoor

/- What the code of layer 19 (model) returns: right, ask. -/
namespace Go.Proofs.YtdcnpaodcjfdbaaGreatDoor
open Go.RowKit
set_option linter.unusedVariables false

theorem mdRight_all {l : Fns} {L : Afs} (h : ∀ d, d < L.length → fSize l (L.getD d (0, [])).1 = ((afAt L d).length : Int) ∧ mdFit l L d = true) : mdRight l L = true :=
  mdRight_iff.2 ⟨mdSized_at.2 fun d hd => (h d hd).1, fun d hd => (h d hd).2⟩
theorem ag_zero : agV 0 = .nilIface := rfl
theorem ag_some {r : Int} (h : r ≠ 0) : ∃ T, agV r = .iface T (.agg #[]) ∧ T = thrT r := ⟨_, by unfold agV; rw [if_neg h], rfl⟩
theorem nil_neq (W : World) : (binOp .neq 20 .nilIface .nilIface).run Tryz.prog W = .ok (.bool false) W := by kernel_rfl
theorem one_neq (W : World) (T : TypeId) : (binOp .neq 20 (.iface T (.agg #[])) .nilIface).run Tryz.prog W = .ok (.bool true) W := by kernel_rfl
section
variable {w : World} {A : Option Addr} {n c B : Nat} {zs : List AfS} {tp : Option Addr} {lo hi : Nat} {l : Fns}
set_option maxRecDepth 100000 in
set_option maxHeartbeats 4000000 in
theorem c_rright (ht : TbO w lo hi tp l) (hhi : hi ≤ w.heap.size) (hs : AfRow w w.heap.size A n zs) (hn : n ≤ 1000000) (r : Bool) (hr : mdRight l (afvals zs) = r) :
    Calls Tryz.prog 23 #[.agg #[.pointer tp, .slice A n c]] w fun e w' => e = .returned (.bool r) ∧ Below w.heap.size w w' := by
  have HS := hidb hs
  have HLN := hidb hs.len
  have KS : Hid (∀ W f, Below w.heap.size w W → Calls Tryz.prog 47 #[.pointer tp, .int .i64 f] W fun e w' => e = .returned (.int .i64 (fSize l f)) ∧ Below W.heap.size W w') := hidb (fun W f hb => code_fsize (ht.below (hb.mono hhi)) (Nat.le_trans hhi hb.size) f)
  have KA : Hid (∀ W d (i : Int) v, Below w.heap.size w W → d < n → in64 i → VIn v → Calls Tryz.prog 53 #[.agg #[.pointer tp, .slice A n c], .int .i64 (d : Int), .int .i64 i, vlC v] W fun e w' => e = .returned (agV (mdFits l (afvals zs) d i v)) ∧ Below W.heap.size W w') := hidb (fun W d i v hb hd hi hv =>
    c_against (ht.below (hb.mono hhi)) (Nat.le_trans hhi hb.size) (hs.step hb) hn d hd i hi v hv _ rfl)
  have HB0 := hidb (belF_al (Below.refl w.heap.size w) (.cells #[.pointer tp, .slice A n c] 66))
  have HR0 := rwB_at w tp A n c
  have PF : Hid (∀ W r', Below w.heap.size w W → mdRight l (afvals zs) = r' → (Ending.returned (.bool r') = Ending.returned (.bool r) ∧ Below w.heap.size w W)) := hidb (fun W r' hb h => ⟨by rw [← hr, h], hb⟩)
  clear hs ht hr hhi
  --@1
  go_enter Tryz.func23, Tryz.ntmps23
  go_wp2
  go_loopw [10, 3, 4, 5, 6, 27] (fun k _ _ _ _ _ wr => ∃ j : Nat, j ≤ n ∧ k = .int .i64 j ∧ Hid (∀ d, d < j → fSize l ((afvals zs).getD d (0, [])).1 = ((afAt (afvals zs) d).length : Int) ∧ mdFit l (afvals zs) d = true) ∧ Hid (Below (rwB w tp A n c).heap.size (rwB w tp A n c) wr)) (fun k _ _ _ _ _ _ => (n - intOf k).toNat)
  case atStart => exact ⟨0, by omega, rfl, hidb (fun d h => absurd h (Nat.not_lt_zero _)), hidb (Below.refl _ _)⟩
  case round =>
    obtain ⟨j, hj, rfl, HFT, HB⟩ := hrel
    have HBW : Hid (Below w.heap.size w wr) := hidb (belF_tr HB0.out HB.out)
    have e0 := HR0.out wr HB.out
    obtain ⟨e0, e1⟩ := e0
    by_cases hlt : j < n
    · obtain ⟨b, off, z, rfl, hbl, hx, hc0, hc1, hok⟩ := HS.out.at_ hlt
      have d0 := (HBW.out.cell (p := ⟨b, off + j * 2, none⟩) hbl).trans hc0
      have d1 := (HBW.out.cell (p := ⟨b, off + j * 2 + 1, none⟩) hbl).trans hc1
      have HK := hidb hok
      have HXZ := hidb hx
      have hsm := hok.small
      have hbadS := fun e => mdRight_size (l := l) (afvals_mem hx) e
      have hgd := afvals_at hx
      have haf := afAt_at hx
      have hi0 : (0 : Int) ≤ (j : Int) := by omega
      have hi1 : (j : Int) < (n : Int) := by omega
      obtain ⟨q, hq⟩ : ∃ q, fSize l z.fn = q := ⟨_, rfl⟩
      have KSZ : Hid (∀ W, Below w.heap.size w W → Calls Tryz.prog 47 #[.pointer tp, .int .i64 z.fn] W fun e w' => e = .returned (.int .i64 q) ∧ Below W.heap.size W w') := hidb (fun W hb => by rw [← hq]; exact KS.out W _ hb)
      simp only at hbadS
      rw [hok.len, hq] at hbadS
      obtain ⟨zf, zA, zn, zc, zvs⟩ := z
      simp only at *
      have HX : Hid (∀ W, Below (wr.alloc (.cells #[.int .i64 zf, .slice zA zn zc] 59)).heap.size (wr.alloc (.cells #[.int .i64 zf, .slice zA zn zc] 59)) W → (W.cell? ⟨w.heap.size, 0, none⟩ = some (.pointer tp) ∧ W.cell? ⟨w.heap.size, 1, none⟩ = some (.slice (some ⟨b, off, none⟩) n c)) ∧ W.cell? ⟨wr.heap.size, 0, none⟩ = some (.int .i64 zf) ∧ W.cell? ⟨wr.heap.size, 1, none⟩ = some (.slice zA zn zc)) := hidb (fun W hb => by
        have hz : (wr.alloc (.cells #[.int .i64 zf, .slice zA zn zc] 59)).heap.size = wr.heap.size + 1 := by simp
        exact ⟨HR0.out W (belF_tr HB.out (belF_tr (belF_al (Below.refl _ _) _) hb)), (hb.cell (p := ⟨wr.heap.size, 0, none⟩) (by show wr.heap.size < _; omega)).trans (by simp), (hb.cell (p := ⟨wr.heap.size, 1, none⟩) (by show wr.heap.size < _; omega)).trans (by simp)⟩)
      have HBX := hidb (belF_tr HBW.out (belF_al (Below.refl _ _) (.cells #[.int .i64 zf, .slice zA zn zc] 59)))
      have HQ := hidb hq
      have HGD := hidb hgd
      have HAF := hidb haf
      clear hx hok hc0 hc1 hq hgd haf
      by_cases h2 : q = (zn : Int)
      · have h2b : ((zn : Int) != q) = false := by simp [h2]
        clear hbadS
        obtain ⟨wo, rfl⟩ : ∃ wo : World, wo = wr := ⟨_, rfl⟩
        have HSZ : Hid (fSize l ((afvals zs).getD j (0, [])).1 = ((afAt (afvals zs) j).length : Int)) := hidb (by rw [HGD.out, HAF.out, HK.out.len]; exact HQ.out.trans h2)
        clear h2
        --@3
        go_wp2
        (first | go_region_held3 (fun W => (W.cell? ⟨w.heap.size, 0, none⟩ = some (.pointer tp) ∧ W.cell? ⟨w.heap.size, 1, none⟩ = some (.slice (some ⟨b, off, none⟩) n c)) ∧ W.cell? ⟨wo.heap.size, 0, none⟩ = some (.int .i64 zf) ∧ W.cell? ⟨wo.heap.size, 1, none⟩ = some (.slice zA zn zc))
          (first | ((with_reducible refine HX.out _ ?_); (repeat (first | with_reducible exact Below.refl _ _ | with_reducible exact Hid.out (by assumption) | with_reducible apply belF_al | with_reducible apply belF_dr)); done) | (go_keep; done))
          (first | (go_at_call 47; (with_reducible refine (KSZ.out _ (belF_tr HBX.out (by (repeat (first | with_reducible exact Below.refl _ _ | with_reducible exact Hid.out (by assumption) | with_reducible apply belF_al | with_reducible apply belF_dr))))).mono ?_); rintro e w1 ⟨rfl, hb1⟩; have HB1 := hidb (belF_tr (belF_dr (Below.refl _ _)) hb1); have hc1 := HX.out w1 HB1.out; clear hb1)) | fail)
        obtain ⟨⟨g0, g1⟩, g2, g3⟩ := hc1
        clear d0 d1 e0 e1
        go_wp2
        go_loopw [27, 5, 6] (fun k _ _ wq => ∃ i : Nat, i ≤ zn ∧ k = .int .i64 i ∧ Hid (∀ i' : Nat, i' < i → mdFits l (afvals zs) j i' (zvs.getD i' vl0) = 0) ∧ Hid (Below (wo.alloc (.cells #[.int .i64 zf, .slice zA zn zc] 59)).heap.size (wo.alloc (.cells #[.int .i64 zf, .slice zA zn zc] 59)) wq)) (fun k _ _ _ => (zn - intOf k).toNat)
        case atStart => exact ⟨0, by omega, rfl, hidb (fun i' h => absurd h (Nat.not_lt_zero _)), HB1⟩
        case round =>
          obtain ⟨i, hi, rfl, HFI, HBQ⟩ := hrel
          clear g0 g1 g2 g3
          by_cases hlti : i < zn
          · have HBT := hidb (belF_tr HBX.out HBQ.out)
            obtain ⟨b2, off2, v, rfl, hbl2, hv, hvin, x0, x1, x2, x3⟩ := (HK.out.below HBT.out).at_ hlti
            have ka := KA.out _ j (i : Int) v (belF_al HBT.out (.cells #[.int .u8 (v.kind : Int), .int .u64 (v.bits : Int), .int .i64 v.depth, .int .i64 v.slot] 34)) hlt (by unfold in64; omega) hvin
            obtain ⟨⟨y0, y1⟩, -⟩ := HX.out _ (belF_al HBQ.out (.cells #[.int .u8 (v.kind : Int), .int .u64 (v.bits : Int), .int .i64 v.depth, .int .i64 v.slot] 34))
            have hbad := fun e => mdRight_bad (l := l) (L := afvals zs) (d := j) (i := i) (v := v) (by rw [afvals_length, HLN.out]; exact hlt) (by rw [HAF.out]; exact hv) e
            obtain ⟨q2, hq2⟩ : ∃ q2, mdFits l (afvals zs) j i v = q2 := ⟨_, rfl⟩
            rw [hq2] at ka hbad
            have hgd2 : zvs.getD i vl0 = v := by rw [List.getD_eq_getElem?_getD, hv]; rfl
            have hji0 : (0 : Int) ≤ (i : Int) := by omega
            have hji1 : (i : Int) < (zn : Int) := by omega
            by_cases h0 : q2 = 0
            · have HFN : Hid (∀ i' : Nat, i' < i + 1 → mdFits l (afvals zs) j i' (zvs.getD i' vl0) = 0) := hidb (fun i' h => by
                by_cases e : i' = i
                · subst e; rw [hgd2, hq2, h0]
                · exact HFI.out i' (by omega))
              subst h0
              have qn := fun W => nil_neq W
              rw [ag_zero] at ka
              obtain ⟨vk, vb, vd, vi⟩ := v
              unfold vlC at ka
              simp only at *
              clear hbad hq2 hgd2 hv hvin
              --@4
              go_wp2_with (first | (go_at_call 53; (with_reducible refine ka.mono ?_); rintro e w3 ⟨rfl, hb3⟩; have HB3 := hidb (belF_tr (belF_al HBQ.out _) hb3); clear hb3))
              go_roundw
              case rel => exact ⟨i + 1, by omega, by go_num, HFN, HB3⟩
              case measure => simp [intOf]; omega
            · have HF := hidb (hbad h0)
              obtain ⟨T, hT, -⟩ := ag_some h0
              have qn := fun W => one_neq W T
              rw [hT] at ka
              obtain ⟨vk, vb, vd, vi⟩ := v
              unfold vlC at ka
              simp only at *
              clear hbad hq2 hgd2 hv hvin h0
              --@5
              go_wp2_with (first | (go_at_call 53; (with_reducible refine ka.mono ?_); rintro e w3 ⟨rfl, hb3⟩; have HB3 := hidb (belF_tr (belF_al HBQ.out _) hb3); clear hb3))
              go_ret
              exact PF.out _ _ (belF_tr HBX.out HB3.out) HF.out
          · obtain rfl : i = zn := by omega
            have hge : ¬ ((i : Int) < (i : Int)) := by omega
            have HFN : Hid (∀ d, d < j + 1 → fSize l ((afvals zs).getD d (0, [])).1 = ((afAt (afvals zs) d).length : Int) ∧ mdFit l (afvals zs) d = true) := hidb (fun d hd => by
              by_cases e : d = j
              · subst e
                refine ⟨HSZ.out, mdFit_iff.2 fun i' hi' => ?_⟩
                rw [HAF.out] at hi' ⊢
                rw [HK.out.len] at hi'
                exact HFI.out i' hi'
              · exact HFT.out d (by omega))
            have HBN := hidb (belF_tr (belF_al HB.out (.cells #[.int .i64 zf, .slice zA i zc] 59)) HBQ.out)
            --@6
            go_wp2
            go_roundw
            case rel => exact ⟨j + 1, by omega, by go_num, HFN, HBN⟩
            case measure => simp [intOf]; omega
      · have h2b : ((zn : Int) != q) = true := by simpa using Ne.symm h2
        have HF := hidb (hbadS h2)
        clear hbadS h2
        --@2
        go_wp2
        (first | go_region_held3 (fun W => (W.cell? ⟨w.heap.size, 0, none⟩ = some (.pointer tp) ∧ W.cell? ⟨w.heap.size, 1, none⟩ = some (.slice (some ⟨b, off, none⟩) n c)) ∧ W.cell? ⟨wr.heap.size, 0, none⟩ = some (.int .i64 zf) ∧ W.cell? ⟨wr.heap.size, 1, none⟩ = some (.slice zA zn zc))
          (first | ((with_reducible refine HX.out _ ?_); (repeat (first | with_reducible exact Below.refl _ _ | with_reducible exact Hid.out (by assumption) | with_reducible apply belF_al | with_reducible apply belF_dr)); done) | (go_keep; done))
          (first | (go_at_call 47; (with_reducible refine (KSZ.out _ (belF_tr HBX.out (by (repeat (first | with_reducible exact Below.refl _ _ | with_reducible exact Hid.out (by assumption) | with_reducible apply belF_al | with_reducible apply belF_dr))))).mono ?_); rintro e w1 ⟨rfl, hb1⟩; have HB1 := hidb (belF_tr (belF_dr (Below.refl _ _)) hb1); have hc1 := HX.out w1 HB1.out; clear hb1)) | fail)
        go_wp2
        go_ret
        exact PF.out _ _ (belF_tr HBX.out HB1.out) HF.out
    · have HF : Hid (mdRight l (afvals zs) = true) := hidb (mdRight_all fun d hd => HFT.out d (by rw [afvals_length, HLN.out] at hd; omega))
      --@9
      go_wp2
      go_ret
      exact PF.out _ _ HBW.out HF.out
end
end Go.Proofs.YtdcnpaodcjfdbaaGreatDoor

/- What the code of layer 19 (model) returns, or throws: ask, slot, target. -/
namespace Go.Proofs.YtdcnpaodcjfdbaaGreatDoor
open Go.RowKit
set_option linter.unusedVariables false

section
variable {w : World} {A : Option Addr} {n c B : Nat} {zs : List AfS} {tp : Option Addr} {lo hi : Nat} {l : Fns}
theorem c_rask (ht : TbO w lo hi tp l) (hhi : hi ≤ w.heap.size) (hs : AfRow w w.heap.size A n zs) (hn : n ≤ 1000000) (hr : mdRight l (afvals zs) = true) :
    Calls Tryz.prog 79 #[.agg #[.pointer tp, .slice A n c]] w fun e w' => e = .returned (.tuple #[]) ∧ Below w.heap.size w w' := by
  have hb0 := belF_al (Below.refl w.heap.size w) (.cells #[.pointer tp, .slice A n c] 66)
  have cr := c_rright (c := c) (ht.below (hb0.mono hhi)) (Nat.le_trans hhi hb0.size) (hs.step hb0) hn _ hr
  have HB := hidb hb0
  clear ht hs hr hb0
  --@1
  go_enter Tryz.func79, Tryz.ntmps79
  go_wp2_with (first | (go_at_call 23; (with_reducible refine cr.mono ?_); rintro e w1 ⟨rfl, hb1⟩))
  exact bodyPost_end (v := .tuple #[]) (by simp [results, Tryz.results79, go_sem]) rfl ⟨rfl, belF_tr HB.out hb1⟩
theorem c_rask_no (ht : TbO w lo hi tp l) (hhi : hi ≤ w.heap.size) (hs : AfRow w w.heap.size A n zs) (hn : n ≤ 1000000) (hr : mdRight l (afvals zs) = false) :
    Calls Tryz.prog 79 #[.agg #[.pointer tp, .slice A n c]] w (Threw19 9 w) := by
  have hb0 := belF_al (Below.refl w.heap.size w) (.cells #[.pointer tp, .slice A n c] 66)
  have cr := c_rright (c := c) (ht.below (hb0.mono hhi)) (Nat.le_trans hhi hb0.size) (hs.step hb0) hn _ hr
  have HB := hidb hb0
  clear ht hs hr hb0
  --@2
  go_enter Tryz.func79, Tryz.ntmps79
  go_wp2_with (first | (go_at_call 23; (with_reducible refine cr.mono ?_); rintro e w1 ⟨rfl, hb1⟩))
  exact ⟨rfl, rfl, belF_tr HB.out hb1⟩

/-- Where a slot stands. -/
def SlotAt (zs : List AfS) (d i : Int) (q : Addr) : Prop := ∃ z b off, zs[d.toNat]? = some z ∧ z.A = some ⟨b, off, none⟩ ∧ i.toNat < z.n ∧ q = ⟨b, off + i.toNat * 4, none⟩
theorem c_rslot (hs : AfRow w w.heap.size A n zs) (hn : n ≤ 1000000) (d i : Int) (hd : in64 d) (hi : in64 i) (hh : mdHas (afvals zs) d i = true) :
    Calls Tryz.prog 57 #[.agg #[.pointer tp, .slice A n c], .int .i64 d, .int .i64 i] w fun e w' => ∃ q, e = .returned (.pointer (some q)) ∧ SlotAt zs d i q ∧ Below w.heap.size w w' := by
  have hb0 := belF_al (Below.refl w.heap.size w) (.cells #[.pointer tp, .slice A n c] 66)
  have ch := c_rhas (c := c) (tp := tp) (hs.step hb0) (Nat.le_refl _) hn d i hd hi _ hh
  have HB := hidb hb0
  obtain ⟨z, hz, d0, d1, i0, i1⟩ := mdHas_true hh
  rw [hs.len] at d1
  obtain ⟨b, off, z', rfl, hbl, hz', hc0, hc1, hok⟩ := hs.at_ (j := d.toNat) (by omega)
  obtain rfl : z = z' := Option.some.inj (hz.symm.trans hz')
  rw [hok.len] at i1
  have hsm := hok.small
  obtain ⟨b2, off2, v, hzA, hbl2, hv, _, e0, e1, e2, e3⟩ := hok.at_ (j := i.toNat) (by omega)
  have PN : Hid (∀ W, Below w.heap.size w W → ∃ q, Ending.returned (.pointer (some ⟨b2, off2 + i.toNat * 4, none⟩)) = Ending.returned (.pointer (some q)) ∧ SlotAt zs d i q ∧ Below w.heap.size w W) := hidb (fun W hb => ⟨_, rfl, ⟨z, b2, off2, hz, hzA, by omega, rfl⟩, hb⟩)
  rw [hzA] at hc1
  have HC : Hid (∀ W, Below (rwB w tp (some ⟨b, off, none⟩) n c).heap.size (rwB w tp (some ⟨b, off, none⟩) n c) W → (W.cell? ⟨w.heap.size, 0, none⟩ = some (.pointer tp) ∧ W.cell? ⟨w.heap.size, 1, none⟩ = some (.slice (some ⟨b, off, none⟩) n c)) ∧ W.cell? ⟨b, off + d.toNat * 2 + 1, none⟩ = some (.slice (some ⟨b2, off2, none⟩) z.n z.c)) := hidb (fun W hb => ⟨(rwB_at _ _ _ _ _).out W hb, ((belF_tr hb0 hb).cell (p := ⟨b, off + d.toNat * 2 + 1, none⟩) hbl).trans hc1⟩)
  clear hs hh hz hz' hc0 hc1 hok hv e0 e1 e2 e3 hzA hb0
  --@3
  go_enter Tryz.func57, Tryz.ntmps57
  go_wp2_with (first | (go_at_call 84; (with_reducible refine ch.mono ?_); rintro e w1 ⟨rfl, hb1⟩; have HB1 := hidb hb1; obtain ⟨⟨g0, g1⟩, g2⟩ := HC.out w1 hb1; clear hb1))
  go_ret
  exact PN.out _ (belF_tr HB.out HB1.out)
theorem c_rslot_no (hs : AfRow w w.heap.size A n zs) (hn : n ≤ 1000000) (d i : Int) (hd : in64 d) (hi : in64 i) (hh : mdHas (afvals zs) d i = false) :
    Calls Tryz.prog 57 #[.agg #[.pointer tp, .slice A n c], .int .i64 d, .int .i64 i] w (Threw19 2 w) := by
  have hb0 := belF_al (Below.refl w.heap.size w) (.cells #[.pointer tp, .slice A n c] 66)
  have ch := c_rhas (c := c) (tp := tp) (hs.step hb0) (Nat.le_refl _) hn d i hd hi _ hh
  have HB := hidb hb0
  clear hs hh hb0
  --@4
  go_enter Tryz.func57, Tryz.ntmps57
  go_wp2_with (first | (go_at_call 84; (with_reducible refine ch.mono ?_); rintro e w1 ⟨rfl, hb1⟩))
  exact ⟨rfl, rfl, belF_tr HB.out hb1⟩
theorem SlotAt.cells {zs : List AfS} {d i : Int} {q : Addr} (hq : SlotAt zs d i q) {w : World} {B n : Nat} {A : Option Addr} (hs : AfRow w B A n zs) : ∃ b o v, q = ⟨b, o, none⟩ ∧ b < B ∧ (afAt (afvals zs) d.toNat).getD i.toNat vl0 = v ∧ VIn v ∧ w.cell? ⟨b, o, none⟩ = some (.int .u8 v.kind) ∧ w.cell? ⟨b, o + 1, none⟩ = some (.int .u64 v.bits) ∧ w.cell? ⟨b, o + 2, none⟩ = some (.int .i64 v.depth) ∧ w.cell? ⟨b, o + 3, none⟩ = some (.int .i64 v.slot) := by
  obtain ⟨z, b, off, hz, hA, hlt, rfl⟩ := hq
  obtain ⟨b2, off2, v, hA2, hb, hv, hin, c0, c1, c2, c3⟩ := (hs.each z (List.mem_of_getElem? hz)).at_ hlt
  rw [hA] at hA2
  injection hA2 with hA2
  injection hA2 with h1 h2
  subst h1 h2
  exact ⟨b, _, v, rfl, hb, by rw [afAt_at hz, List.getD_eq_getElem?_getD, hv]; rfl, hin, c0, c1, c2, c3⟩
set_option maxRecDepth 100000 in
theorem c_rtarget (hs : AfRow w w.heap.size A n zs) (hn : n ≤ 1000000) (hR : mdRight l (afvals zs) = true) (d i : Int) (hd : in64 d) (hi : in64 i) :
    Calls Tryz.prog 61 #[.agg #[.pointer tp, .slice A n c], .int .i64 d, .int .i64 i] w fun e w' => if (mdRefers l (afvals zs) d i).2 = 0 then ∃ q, e = .returned (.pointer (some q)) ∧ SlotAt zs (mdRefers l (afvals zs) d i).1.depth (mdRefers l (afvals zs) d i).1.slot q ∧ Below w.heap.size w w' else Threw19 (mdRefers l (afvals zs) d i).2 w e w' := by
  have hb0 := belF_al (Below.refl w.heap.size w) (.cells #[.pointer tp, .slice A n c] 66)
  have HB := hidb hb0
  have HR0 := rwB_at w tp A n c
  cases hh : mdHas (afvals zs) d i with
  | false =>
    have ct := c_rslot_no (c := c) (tp := tp) (hs.step hb0) hn d i hd hi hh
    have E : mdRefers l (afvals zs) d i = (vl0, 2) := by
      have G : mdGet l (afvals zs) d i = (vl0, 2) := by unfold mdGet; rw [if_neg (by rw [hR]; simp), if_pos hh]
      unfold mdRefers; rw [G]; rfl
    rw [E]
    unfold Threw19 at ct
    clear hs hh E hR hb0
    --@5
    go_enter Tryz.func61, Tryz.ntmps61
    go_wp2_with (first | (go_at_call 57; (with_reducible refine ct.mono ?_); rintro e w1 ⟨rfl, hb1⟩))
    exact ⟨rfl, rfl, belF_tr HB.out hb1⟩
  | true =>
    have CT := hidb (c_rslot (c := c) (tp := tp) (hs.step hb0) hn d i hd hi hh)
    have HS := hidb hs
    obtain ⟨v, hv⟩ : ∃ v, (afAt (afvals zs) d.toNat).getD i.toNat vl0 = v := ⟨_, rfl⟩
    have E : mdRefers l (afvals zs) d i = if v.kind = 1 then (vl0, 5) else if v.kind = 0 then (v, 12) else (v, 0) := by
      have G : mdGet l (afvals zs) d i = (v, 0) := by unfold mdGet; rw [if_neg (by rw [hR]; simp), if_neg (by rw [hh]; simp), hv]
      unfold mdRefers; rw [G]; rfl
    rw [E]
    by_cases h1 : v.kind = 1
    · have e1 : ((v.kind : Int) == 1) = true := by simp; omega
      rw [if_pos h1]
      clear hs hh E hR hb0 h1
      --@6
      go_enter Tryz.func61, Tryz.ntmps61
      go_wp2_with (first | (go_at_call 57; (with_reducible refine CT.out.mono ?_); rintro e w1 ⟨q, rfl, hq, hb1⟩; obtain ⟨b, o, v', rfl, hbl, hv', hin, c0, c1, c2, c3⟩ := hq.cells (HS.out.below (belF_tr HB.out hb1)); obtain rfl : v = v' := hv.symm.trans hv'; have HB1 := hidb hb1; clear hb1 hq hv' hv))
      exact ⟨rfl, rfl, belF_tr HB.out HB1.out⟩
    · have e1 : ((v.kind : Int) == 1) = false := by simp; omega
      rw [if_neg h1]
      by_cases h0 : v.kind = 0
      · have e0 : ((v.kind : Int) == 0) = true := by simp; omega
        rw [if_pos h0]
        clear hs hh E hR hb0 h1 h0
        --@7
        go_enter Tryz.func61, Tryz.ntmps61
        go_wp2_with (first | (go_at_call 57; (with_reducible refine CT.out.mono ?_); rintro e w1 ⟨q, rfl, hq, hb1⟩; obtain ⟨b, o, v', rfl, hbl, hv', hin, c0, c1, c2, c3⟩ := hq.cells (HS.out.below (belF_tr HB.out hb1)); obtain rfl : v = v' := hv.symm.trans hv'; have HB1 := hidb hb1; clear hb1 hq hv' hv))
        exact ⟨rfl, rfl, belF_tr HB.out HB1.out⟩
      · have e0 : ((v.kind : Int) == 0) = false := by simp; omega
        rw [if_neg h0] at E ⊢
        rw [if_neg h1] at E
        obtain ⟨-, -, g3⟩ := mdRefers_ok E
        have KT : Hid (VIn v → ∀ W, Below w.heap.size w W → Calls Tryz.prog 57 #[.agg #[.pointer tp, .slice A n c], .int .i64 v.depth, .int .i64 v.slot] W fun e w' => ∃ q, e = .returned (.pointer (some q)) ∧ SlotAt zs v.depth v.slot q ∧ Below W.heap.size W w') := hidb (fun hin W hb => c_rslot (hs.step hb) hn _ _ hin.depth hin.slot g3)
        have HFC : Hid (∀ W, Below (rwB w tp A n c).heap.size (rwB w tp A n c) W → ∀ q, SlotAt zs d i q → ∃ b o v, q = ⟨b, o, none⟩ ∧ (afAt (afvals zs) d.toNat).getD i.toNat vl0 = v ∧ VIn v ∧ W.cell? ⟨b, o, none⟩ = some (.int .u8 v.kind) ∧ W.cell? ⟨b, o + 2, none⟩ = some (.int .i64 v.depth) ∧ W.cell? ⟨b, o + 3, none⟩ = some (.int .i64 v.slot)) := hidb (fun W hb q hq => by
          obtain ⟨b, o, v, e, hbl, hv, hin, c0, c1, c2, c3⟩ := hq.cells (HS.out.below (belF_tr HB.out hb))
          exact ⟨b, o, v, e, hv, hin, c0, c2, c3⟩)
        clear hs hh E hR hb0 h1 h0 g3
        --@8
        go_enter Tryz.func61, Tryz.ntmps61
        go_wp2_with (first | (go_at_call 57; (with_reducible refine CT.out.mono ?_); rintro e w1 ⟨q, rfl, hq, hb1⟩; obtain ⟨b, o, v', rfl, hv', hin, c0, c2, c3⟩ := HFC.out w1 hb1 q hq; obtain rfl : v = v' := hv.symm.trans hv'; have HB1 := hidb hb1; obtain ⟨r0, r1⟩ := HR0.out w1 hb1; clear hb1 hv'))
        have HX : Hid (∀ W, Below w1.heap.size w1 W → (W.cell? ⟨w.heap.size, 0, none⟩ = some (.pointer tp) ∧ W.cell? ⟨w.heap.size, 1, none⟩ = some (.slice A n c)) ∧ W.cell? ⟨b, o + 2, none⟩ = some (.int .i64 v.depth) ∧ W.cell? ⟨b, o + 3, none⟩ = some (.int .i64 v.slot)) := hidb (fun W hb => by
          obtain ⟨b', o', v', e, hv', hin', x0, x2, x3⟩ := HFC.out W (belF_tr HB1.out hb) _ hq
          injection e with e1 e2
          subst e1 e2
          obtain rfl : v = v' := hv.symm.trans hv'
          exact ⟨HR0.out W (belF_tr HB1.out hb), x2, x3⟩)
        have kt := KT.out hin
        clear hv hq hin CT KT HFC
        (first | go_region_held3 (fun W => (W.cell? ⟨w.heap.size, 0, none⟩ = some (.pointer tp) ∧ W.cell? ⟨w.heap.size, 1, none⟩ = some (.slice A n c)) ∧ W.cell? ⟨b, o + 2, none⟩ = some (.int .i64 v.depth) ∧ W.cell? ⟨b, o + 3, none⟩ = some (.int .i64 v.slot))
          (first | ((with_reducible refine HX.out _ ?_); (repeat (first | with_reducible exact Below.refl _ _ | with_reducible exact Hid.out (by assumption) | with_reducible apply belF_al | with_reducible apply belF_dr)); done) | (go_keep; done))
          (first | (go_at_call 57; (with_reducible refine (kt _ (belF_tr HB.out (belF_tr HB1.out (by (repeat (first | with_reducible exact Below.refl _ _ | with_reducible exact Hid.out (by assumption) | with_reducible apply belF_al | with_reducible apply belF_dr)))))).mono ?_); rintro e w2 ⟨q, rfl, hq2, hb2⟩; have HB2 := hidb (belF_tr (belF_dr (Below.refl _ _)) hb2); have HQ2 := hidb hq2; have hc2 := HX.out w2 HB2.out; clear hb2 hq2)) | fail)
        go_wp2
        go_ret
        exact ⟨_, rfl, HQ2.out, belF_tr HB.out (belF_tr HB1.out HB2.out)⟩
end
end Go.Proofs.YtdcnpaodcjfdbaaGreatDoor

/- What the code of layer 19 (model) tells of what was thrown: told, the closures that are deferred. -/
namespace Go.Proofs.YtdcnpaodcjfdbaaGreatDoor
open Go.RowKit
set_option linter.unusedVariables false

theorem mdnil_no (W : World) (T : TypeId) (v : Value) : (binOp .eql 20 (.iface T v) .nilIface).run Tryz.prog W = .ok (.bool false) W := by kernel_rfl
theorem mdnil_yes (W : World) : (binOp .eql 20 .nilIface .nilIface).run Tryz.prog W = .ok (.bool true) W := by kernel_rfl
theorem c_mdtold0 (w : World) : Calls Tryz.prog 77 #[.nilIface] w fun e w' => e = .returned (.int .i64 0) ∧ w = w' := by
  have q := fun W => mdnil_yes W
  go_enter Tryz.func77, Tryz.ntmps77
  go_wp2
  go_ret
  exact ⟨rfl, rfl⟩
theorem mdta00 (W : World) (v : Value) : (Instr.typeAssert (.iface 140 v) 20 140 true).run Tryz.prog W = .ok (.tuple #[v, .bool true]) W := by kernel_rfl
theorem c_mdtold9 (w : World) : Calls Tryz.prog 77 #[.iface 140 (.agg #[])] w fun e w' => e = .returned (.int .i64 9) ∧ w' = w.alloc (.cells #[] 140) := by
  have q := fun W => mdnil_no W 140 (.agg #[])
  have q0 := fun W => mdta00 W (.agg #[])
  go_enter Tryz.func77, Tryz.ntmps77
  go_wp2
  go_ret
  exact ⟨rfl, rfl⟩
theorem mdta10 (W : World) (v : Value) : (Instr.typeAssert (.iface 91 v) 20 140 true).run Tryz.prog W = .ok (.tuple #[.agg #[], .bool false]) W := by kernel_rfl
theorem mdta11 (W : World) (v : Value) : (Instr.typeAssert (.iface 91 v) 20 91 true).run Tryz.prog W = .ok (.tuple #[v, .bool true]) W := by kernel_rfl
theorem c_mdtold1 (w : World) : Calls Tryz.prog 77 #[.iface 91 (.agg #[])] w fun e w' => e = .returned (.int .i64 1) ∧ w' = w.alloc (.cells #[] 91) := by
  have q := fun W => mdnil_no W 91 (.agg #[])
  have q0 := fun W => mdta10 W (.agg #[])
  have q1 := fun W => mdta11 W (.agg #[])
  go_enter Tryz.func77, Tryz.ntmps77
  go_wp2
  go_ret
  exact ⟨rfl, rfl⟩
theorem mdta20 (W : World) (v : Value) : (Instr.typeAssert (.iface 126 v) 20 140 true).run Tryz.prog W = .ok (.tuple #[.agg #[], .bool false]) W := by kernel_rfl
theorem mdta21 (W : World) (v : Value) : (Instr.typeAssert (.iface 126 v) 20 91 true).run Tryz.prog W = .ok (.tuple #[.agg #[], .bool false]) W := by kernel_rfl
theorem mdta22 (W : World) (v : Value) : (Instr.typeAssert (.iface 126 v) 20 126 true).run Tryz.prog W = .ok (.tuple #[v, .bool true]) W := by kernel_rfl
theorem c_mdtold2 (w : World) : Calls Tryz.prog 77 #[.iface 126 (.agg #[])] w fun e w' => e = .returned (.int .i64 2) ∧ w' = w.alloc (.cells #[] 126) := by
  have q := fun W => mdnil_no W 126 (.agg #[])
  have q0 := fun W => mdta20 W (.agg #[])
  have q1 := fun W => mdta21 W (.agg #[])
  have q2 := fun W => mdta22 W (.agg #[])
  go_enter Tryz.func77, Tryz.ntmps77
  go_wp2
  go_ret
  exact ⟨rfl, rfl⟩
theorem mdta30 (W : World) (v : Value) : (Instr.typeAssert (.iface 125 v) 20 140 true).run Tryz.prog W = .ok (.tuple #[.agg #[], .bool false]) W := by kernel_rfl
theorem mdta31 (W : World) (v : Value) : (Instr.typeAssert (.iface 125 v) 20 91 true).run Tryz.prog W = .ok (.tuple #[.agg #[], .bool false]) W := by kernel_rfl
theorem mdta32 (W : World) (v : Value) : (Instr.typeAssert (.iface 125 v) 20 126 true).run Tryz.prog W = .ok (.tuple #[.agg #[], .bool false]) W := by kernel_rfl
theorem mdta33 (W : World) (v : Value) : (Instr.typeAssert (.iface 125 v) 20 125 true).run Tryz.prog W = .ok (.tuple #[v, .bool true]) W := by kernel_rfl
theorem c_mdtold5 (w : World) : Calls Tryz.prog 77 #[.iface 125 (.agg #[])] w fun e w' => e = .returned (.int .i64 5) ∧ w' = w.alloc (.cells #[] 125) := by
  have q := fun W => mdnil_no W 125 (.agg #[])
  have q0 := fun W => mdta30 W (.agg #[])
  have q1 := fun W => mdta31 W (.agg #[])
  have q2 := fun W => mdta32 W (.agg #[])
  have q3 := fun W => mdta33 W (.agg #[])
  go_enter Tryz.func77, Tryz.ntmps77
  go_wp2
  go_ret
  exact ⟨rfl, rfl⟩
theorem mdta40 (W : World) (v : Value) : (Instr.typeAssert (.iface 127 v) 20 140 true).run Tryz.prog W = .ok (.tuple #[.agg #[], .bool false]) W := by kernel_rfl
theorem mdta41 (W : World) (v : Value) : (Instr.typeAssert (.iface 127 v) 20 91 true).run Tryz.prog W = .ok (.tuple #[.agg #[], .bool false]) W := by kernel_rfl
theorem mdta42 (W : World) (v : Value) : (Instr.typeAssert (.iface 127 v) 20 126 true).run Tryz.prog W = .ok (.tuple #[.agg #[], .bool false]) W := by kernel_rfl
theorem mdta43 (W : World) (v : Value) : (Instr.typeAssert (.iface 127 v) 20 125 true).run Tryz.prog W = .ok (.tuple #[.agg #[], .bool false]) W := by kernel_rfl
theorem mdta44 (W : World) (v : Value) : (Instr.typeAssert (.iface 127 v) 20 127 true).run Tryz.prog W = .ok (.tuple #[v, .bool true]) W := by kernel_rfl
theorem c_mdtold7 (w : World) : Calls Tryz.prog 77 #[.iface 127 (.agg #[])] w fun e w' => e = .returned (.int .i64 7) ∧ w' = w.alloc (.cells #[] 127) := by
  have q := fun W => mdnil_no W 127 (.agg #[])
  have q0 := fun W => mdta40 W (.agg #[])
  have q1 := fun W => mdta41 W (.agg #[])
  have q2 := fun W => mdta42 W (.agg #[])
  have q3 := fun W => mdta43 W (.agg #[])
  have q4 := fun W => mdta44 W (.agg #[])
  go_enter Tryz.func77, Tryz.ntmps77
  go_wp2
  go_ret
  exact ⟨rfl, rfl⟩
theorem mdta50 (W : World) (v : Value) : (Instr.typeAssert (.iface 94 v) 20 140 true).run Tryz.prog W = .ok (.tuple #[.agg #[], .bool false]) W := by kernel_rfl
theorem mdta51 (W : World) (v : Value) : (Instr.typeAssert (.iface 94 v) 20 91 true).run Tryz.prog W = .ok (.tuple #[.agg #[], .bool false]) W := by kernel_rfl
theorem mdta52 (W : World) (v : Value) : (Instr.typeAssert (.iface 94 v) 20 126 true).run Tryz.prog W = .ok (.tuple #[.agg #[], .bool false]) W := by kernel_rfl
theorem mdta53 (W : World) (v : Value) : (Instr.typeAssert (.iface 94 v) 20 125 true).run Tryz.prog W = .ok (.tuple #[.agg #[], .bool false]) W := by kernel_rfl
theorem mdta54 (W : World) (v : Value) : (Instr.typeAssert (.iface 94 v) 20 127 true).run Tryz.prog W = .ok (.tuple #[.agg #[], .bool false]) W := by kernel_rfl
theorem mdta55 (W : World) (v : Value) : (Instr.typeAssert (.iface 94 v) 20 94 true).run Tryz.prog W = .ok (.tuple #[v, .bool true]) W := by kernel_rfl
theorem c_mdtold8 (w : World) : Calls Tryz.prog 77 #[.iface 94 (.agg #[])] w fun e w' => e = .returned (.int .i64 8) ∧ w' = w.alloc (.cells #[] 94) := by
  have q := fun W => mdnil_no W 94 (.agg #[])
  have q0 := fun W => mdta50 W (.agg #[])
  have q1 := fun W => mdta51 W (.agg #[])
  have q2 := fun W => mdta52 W (.agg #[])
  have q3 := fun W => mdta53 W (.agg #[])
  have q4 := fun W => mdta54 W (.agg #[])
  have q5 := fun W => mdta55 W (.agg #[])
  go_enter Tryz.func77, Tryz.ntmps77
  go_wp2
  go_ret
  exact ⟨rfl, rfl⟩
theorem mdta60 (W : World) (v : Value) : (Instr.typeAssert (.iface 128 v) 20 140 true).run Tryz.prog W = .ok (.tuple #[.agg #[], .bool false]) W := by kernel_rfl
theorem mdta61 (W : World) (v : Value) : (Instr.typeAssert (.iface 128 v) 20 91 true).run Tryz.prog W = .ok (.tuple #[.agg #[], .bool false]) W := by kernel_rfl
theorem mdta62 (W : World) (v : Value) : (Instr.typeAssert (.iface 128 v) 20 126 true).run Tryz.prog W = .ok (.tuple #[.agg #[], .bool false]) W := by kernel_rfl
theorem mdta63 (W : World) (v : Value) : (Instr.typeAssert (.iface 128 v) 20 125 true).run Tryz.prog W = .ok (.tuple #[.agg #[], .bool false]) W := by kernel_rfl
theorem mdta64 (W : World) (v : Value) : (Instr.typeAssert (.iface 128 v) 20 127 true).run Tryz.prog W = .ok (.tuple #[.agg #[], .bool false]) W := by kernel_rfl
theorem mdta65 (W : World) (v : Value) : (Instr.typeAssert (.iface 128 v) 20 94 true).run Tryz.prog W = .ok (.tuple #[.agg #[], .bool false]) W := by kernel_rfl
theorem mdta66 (W : World) (v : Value) : (Instr.typeAssert (.iface 128 v) 20 128 true).run Tryz.prog W = .ok (.tuple #[v, .bool true]) W := by kernel_rfl
theorem c_mdtold12 (w : World) : Calls Tryz.prog 77 #[.iface 128 (.agg #[])] w fun e w' => e = .returned (.int .i64 12) ∧ w' = w.alloc (.cells #[] 128) := by
  have q := fun W => mdnil_no W 128 (.agg #[])
  have q0 := fun W => mdta60 W (.agg #[])
  have q1 := fun W => mdta61 W (.agg #[])
  have q2 := fun W => mdta62 W (.agg #[])
  have q3 := fun W => mdta63 W (.agg #[])
  have q4 := fun W => mdta64 W (.agg #[])
  have q5 := fun W => mdta65 W (.agg #[])
  have q6 := fun W => mdta66 W (.agg #[])
  go_enter Tryz.func77, Tryz.ntmps77
  go_wp2
  go_ret
  exact ⟨rfl, rfl⟩
/-- The errors that are told. -/
def ErrOf (r : Int) : Prop := r = 9 ∨ r = 1 ∨ r = 2 ∨ r = 5 ∨ r = 7 ∨ r = 8 ∨ r = 12
theorem c_mdtold {r : Int} (h : ErrOf r) (w : World) : Calls Tryz.prog 77 #[.iface (thrT r) (.agg #[])] w fun e w' => e = .returned (.int .i64 r) ∧ w' = w.alloc (.cells #[] (thrT r)) := by
  rcases h with rfl | rfl | rfl | rfl | rfl | rfl | rfl
  · exact c_mdtold9 w
  · exact c_mdtold1 w
  · exact c_mdtold2 w
  · exact c_mdtold5 w
  · exact c_mdtold7 w
  · exact c_mdtold8 w
  · exact c_mdtold12 w
/-- The closure that changed defers: what was thrown is told. -/
theorem catch_md_ch {no : Int} (ht : ErrOf no) (p : Addr) (x : Int) (w : World) (hb : p.block < w.heap.size) (hc : w.cell? p = some (.int .i64 x)) (hz : w.frozen? p = false) :
    CallsD Tryz.prog 76 #[.pointer (some p)] (.panicking [{ v := .iface (thrT no) (.agg #[]), recovered := false }]) w fun e u' w' =>
      e = .returned (.tuple #[]) ∧ u' = .panicking [{ v := .iface (thrT no) (.agg #[]), recovered := true }] ∧ w' = (w.alloc (.cells #[] (thrT no))).setCell p (.int .i64 no) := by
  have hz' : (w.alloc (.cells #[] (thrT no))).frozen? p = false := by rw [((Below.refl w.heap.size w).alloc (Nat.le_refl _) _).frozen hb]; exact hz
  have hc' : (w.alloc (.cells #[] (thrT no))).cell? p = some (.int .i64 x) := by rw [World.cell?_alloc_lt _ _ _ hb]; exact hc
  refine callsD_of_wpS Tryz.func76 rfl fun c₀ cs' hu => ?_
  change Code.wpS _ _ _ { tmps := #[.pointer (some p), undef, undef], defers := [] } _ _
  apply wpS_region
  simp [wpOpsS, go_sem, recoverD, hu]
  refine (c_mdtold ht _).mono ?_
  rintro e w' ⟨rfl, rfl⟩
  simp [go_sem, hz', hc', bodyPostS, results, Tryz.results76]
theorem idle_md_ch (p : Addr) (x : Int) (w : World) (hc : w.cell? p = some (.int .i64 x)) (hz : w.frozen? p = false) :
    CallsD Tryz.prog 76 #[.pointer (some p)] .returning w fun e u' w' => e = .returned (.tuple #[]) ∧ u' = .returning ∧ w' = w.setCell p (.int .i64 0) := by
  refine callsD_of_wpS Tryz.func76 rfl fun c₀ cs' hu => ?_
  change Code.wpS _ _ _ { tmps := #[.pointer (some p), undef, undef], defers := [] } _ _
  apply wpS_region
  simp [wpOpsS, go_sem, recoverD, hu]
  refine (c_mdtold0 _).mono ?_
  rintro e w' ⟨rfl, rfl⟩
  simp [go_sem, hz, hc, bodyPostS, results, Tryz.results76]
  cases c₀
  simp_all
/-- The closure that asked defers: what was thrown is told. -/
theorem catch_md_as {no : Int} (ht : ErrOf no) (p : Addr) (x : Int) (w : World) (hb : p.block < w.heap.size) (hc : w.cell? p = some (.int .i64 x)) (hz : w.frozen? p = false) :
    CallsD Tryz.prog 86 #[.pointer (some p)] (.panicking [{ v := .iface (thrT no) (.agg #[]), recovered := false }]) w fun e u' w' =>
      e = .returned (.tuple #[]) ∧ u' = .panicking [{ v := .iface (thrT no) (.agg #[]), recovered := true }] ∧ w' = (w.alloc (.cells #[] (thrT no))).setCell p (.int .i64 no) := by
  have hz' : (w.alloc (.cells #[] (thrT no))).frozen? p = false := by rw [((Below.refl w.heap.size w).alloc (Nat.le_refl _) _).frozen hb]; exact hz
  have hc' : (w.alloc (.cells #[] (thrT no))).cell? p = some (.int .i64 x) := by rw [World.cell?_alloc_lt _ _ _ hb]; exact hc
  refine callsD_of_wpS Tryz.func86 rfl fun c₀ cs' hu => ?_
  change Code.wpS _ _ _ { tmps := #[.pointer (some p), undef, undef], defers := [] } _ _
  apply wpS_region
  simp [wpOpsS, go_sem, recoverD, hu]
  refine (c_mdtold ht _).mono ?_
  rintro e w' ⟨rfl, rfl⟩
  simp [go_sem, hz', hc', bodyPostS, results, Tryz.results86]
theorem idle_md_as (p : Addr) (x : Int) (w : World) (hc : w.cell? p = some (.int .i64 x)) (hz : w.frozen? p = false) :
    CallsD Tryz.prog 86 #[.pointer (some p)] .returning w fun e u' w' => e = .returned (.tuple #[]) ∧ u' = .returning ∧ w' = w.setCell p (.int .i64 0) := by
  refine callsD_of_wpS Tryz.func86 rfl fun c₀ cs' hu => ?_
  change Code.wpS _ _ _ { tmps := #[.pointer (some p), undef, undef], defers := [] } _ _
  apply wpS_region
  simp [wpOpsS, go_sem, recoverD, hu]
  refine (c_mdtold0 _).mono ?_
  rintro e w' ⟨rfl, rfl⟩
  simp [go_sem, hz, hc, bodyPostS, results, Tryz.results86]
  cases c₀
  simp_all
end Go.Proofs.YtdcnpaodcjfdbaaGreatDoor

/- Layer 19 (model): frames in new memory; what copied returns. -/
namespace Go.Proofs.YtdcnpaodcjfdbaaGreatDoor
open Go.RowKit
set_option linter.unusedVariables false

/-- append of a whole row, nil and empty ones too, of whatever capacity, onto a row of the call's own, as one step of a region that draws. -/
theorem step_append_rowN {P : Program} {ops : Array Oper} {o : Oper} {a : Act} {w : World} {K : Act → World → Prop} {Q : Exit → Act → World → Prop} {E : Prop}
    (hg : o.guard = none) (s x : Operand) (t : TypeId) (hop : o.op = Op.call { callee := Callee.builtin Builtin.append, args := #[s, x], argTypes := #[t, t] })
    (base : Nat) (e : TypeId) (i : TypeInfo) (z : Value) (size bytes : Nat) (ht : P.underlying t = some (.slice e)) (hi : P.info? e = some i) (hz : i.zero = some z)
    (hsize : i.size = size) (hby : i.bytes = bytes) (hzs : z.cells.size = size) (hsz : 0 < size)
    (v : Value) (n : Nat) (xs : List Value) (hs : a.eval s = v) (hown : w.ownsRow base e size v n xs) (hbase : base ≤ w.heap.size)
    (A : Option Addr) (m c : Nat) (news : List Value) (hx : a.eval x = .slice A m c) (hl : news.length = m * size) (hA : A = none → m = 0)
    (hnews : CellsAt w A news) (h1 : ∀ u ∈ news, u.oneCell' = true) (h63 : n + m ≤ maxLen) (hbytes : (n + m) * bytes ≤ 140737488355328)
    (hK : ∀ A' c' w', w'.ownsRow base e size (.slice A' (n + m) c') (n + m) (xs ++ news) → w.grownBy w' v.ownBlock → K (a.put o.dst (.slice A' (n + m) c')) w') :
    if Region.wanted o (yielded ops a.tmps) = true then Oper.wp P o a w K Q else E := by
  have hw : Region.wanted o (yielded ops a.tmps) = true := by simp [Region.wanted, hg]
  cases A with
  | some ad => exact step_append_own hg s x t hop base e i z size bytes ht hi hz hsize hby hzs hsz v n xs hs hown ad m c news hx hl (hnews ad rfl) h1 h63 hbytes hbase hK
  | none =>
    obtain rfl := hA rfl
    obtain rfl : news = [] := List.eq_nil_of_length_eq_zero (by rw [hl, Nat.zero_mul])
    rw [if_pos hw]
    obtain ⟨A', c', rfl⟩ : ∃ A c, v = .slice A n c := by
      rcases hown.2 with ⟨rfl, h0⟩ | ⟨g, cap, cur, rfl, _⟩
      · exact ⟨none, 0, by rw [h0]⟩
      · exact ⟨_, _, rfl⟩
    have hrun := run_append_none' (P := P) w t o.type e i ht hi A' n c' (own_capsL hown) c
    unfold Oper.wp
    simp [execOp, hop, resolve, invoke, builtin, hs, hx, hrun, Result.andThen]
    have := hK A' c' w (by rw [List.append_nil]; exact hown) ⟨rfl, rfl, rfl, Nat.le_refl _, fun _ _ _ => rfl⟩
    rw [Nat.add_zero] at this
    exact this

/-- Frames in memory that a call made: no two share a slot. -/
structure AfOwn (w wr : World) (v : Value) (zs : List AfS) : Prop where
  bel : Below w.heap.size w wr
  own : wr.ownsRow w.heap.size 59 2 v zs.length (cellsAll afcells zs)
  fns : ∀ z ∈ zs, wr.ownsRow w.heap.size 34 4 (.slice z.A z.n z.c) z.n (cellsAll vlcells z.vs) ∧ z.vs.length = z.n ∧ in64 z.fn ∧ ∀ v ∈ z.vs, VIn v
  apart : ∀ (i j : Nat) (zi zj : AfS) (g : Nat), i < j → zs[i]? = some zi → zs[j]? = some zj → (Value.slice zi.A zi.n zi.c).ownBlock = some g → (Value.slice zj.A zj.n zj.c).ownBlock ≠ some g
section
variable {w wr X w6 : World} {v : Value} {zs : List AfS} {z : AfS}
theorem AfOwn.below (h : AfOwn w wr v zs) (hb : Below wr.heap.size wr X) : AfOwn w X v zs :=
  ⟨h.bel.trans (hb.mono h.bel.size), own_same h.own fun k hk => hb.block k (h.own.lt k hk).2, fun y hy => ⟨own_same (h.fns y hy).1 fun k hk => hb.block k ((h.fns y hy).1.lt k hk).2, (h.fns y hy).2⟩, h.apart⟩
theorem AfOwn.nil_ (w : World) {wr : World} (hb : Below w.heap.size w wr) : AfOwn w wr (.slice none 0 0) [] :=
  ⟨hb, World.ownsRow_nil _ _ _ _, fun y hy => (by cases hy), fun i j zi zj g _ h => (by simp at h)⟩
theorem AfOwn.push (h : AfOwn w X v zs) {A6 : Option Addr} {c6 base : Nat} (hbase : w.heap.size ≤ base) (hz : X.ownsRow base 34 4 (.slice z.A z.n z.c) z.n (cellsAll vlcells z.vs)) (hold : ∀ y ∈ zs, ∀ g, (Value.slice y.A y.n y.c).ownBlock = some g → g < base) (hzl : z.vs.length = z.n ∧ in64 z.fn ∧ ∀ v ∈ z.vs, VIn v)
    (ho : w6.ownsRow w.heap.size 59 2 (.slice A6 (zs.length + 1) c6) (zs.length + 1) (cellsAll afcells zs ++ afcells z)) (hg : X.grownBy w6 v.ownBlock) : AfOwn w w6 (.slice A6 (zs.length + 1) c6) (zs ++ [z]) := by
  refine ⟨h.bel.grown hg h.bel.size (fun k hk => (h.own.lt k hk).1), ?_, fun y hy => ?_, fun i j zi zj g hij hi hj hgi hgj => ?_⟩
  · rw [List.length_append, cellsAll_append, cellsAll_one]; exact ho
  · have hz' : X.ownsRow w.heap.size 34 4 (.slice y.A y.n y.c) y.n (cellsAll vlcells y.vs) ∧ y.vs.length = y.n ∧ in64 y.fn ∧ ∀ v ∈ y.vs, VIn v := by
      rcases List.mem_append.1 hy with hy | hy
      · exact h.fns y hy
      · rw [List.mem_singleton.1 hy]; exact ⟨hz.mono hbase, hzl⟩
    exact ⟨own_grown hz'.1 hg (own_types19 h.own hz'.1 (by decide)), hz'.2⟩
  · have hjl : j < zs.length + 1 := by have := (List.getElem?_eq_some_iff.1 hj).1; simpa using this
    rw [List.getElem?_append_left (by omega)] at hi
    by_cases e : j = zs.length
    · subst e
      rw [List.getElem?_append_right (Nat.le_refl _), Nat.sub_self] at hj
      obtain rfl : z = zj := Option.some.inj hj
      have := hold zi (List.mem_of_getElem? hi) g hgi
      have := (hz.lt g hgj).1
      omega
    · rw [List.getElem?_append_left (by omega)] at hj
      exact h.apart i j zi zj g hij hi hj hgi hgj
theorem AfOwn.row {A : Option Addr} {n c : Nat} (h : AfOwn w wr (.slice A n c) zs) (hn : zs.length = n) : AfRow wr wr.heap.size A n zs ∧ n ≤ c ∧ c ≤ 9223372036854775807 := by
  have ho := h.own
  rw [hn] at ho
  refine ⟨⟨RowOf.of_own afcells_len ho hn, fun z hz => ?_⟩, own_cap0 ho⟩
  obtain ⟨h1, h2, h3, h4⟩ := h.fns z hz
  obtain ⟨q1, q2⟩ := own_cap0 h1
  exact ⟨RowOf.of_own vlcells_len h1 h2, h3, q1, q2, h4⟩
theorem AfOwn.form (h : AfOwn w wr v zs) : ∃ A c, v = .slice A zs.length c := by
  rcases h.own.2 with ⟨e, h0⟩ | ⟨g, cap, cur, e, _⟩
  · exact ⟨none, 0, by rw [h0]; exact e⟩
  · exact ⟨_, _, e⟩
end

section
variable {w : World} {A : Option Addr} {n c B : Nat} {zs : List AfS}
set_option maxRecDepth 100000 in
set_option maxHeartbeats 4000000 in
theorem c_copied (hs : AfRow w w.heap.size A n zs) (hn : n ≤ 1000000) (hz : ∀ x ∈ afvals zs, x.2.length ≤ 1000000) :
    Calls Tryz.prog 78 #[.slice A n c] w fun e w' => ∃ A' c' zs', e = .returned (.slice A' n c') ∧ AfOwn w w' (.slice A' n c') zs' ∧ afvals zs' = afvals zs := by
  obtain ⟨i0, hi0, hz0, hz1, hz2⟩ := info_parts info_vl
  obtain ⟨i1, hi1, hy0, hy1, hy2⟩ := info_parts info_af
  have HS := hidb hs
  have HLN := hidb hs.len
  have HSM := hidb hz
  clear hs hz
  go_enter Tryz.func78, Tryz.ntmps78
  go_wp2
  go_loopw [8, 3, 5] (fun k v _ wr => ∃ (j : Nat) (us : List AfS), j ≤ n ∧ k = .int .i64 j ∧ Hid (AfOwn w wr v us) ∧ Hid (afvals us = (afvals zs).take j)) (fun k _ _ _ => (n - intOf k).toNat)
  case atStart => exact ⟨0, [], by omega, rfl, hidb (AfOwn.nil_ w (Below.refl _ _)), hidb rfl⟩
  case round =>
    obtain ⟨j, us, hj, rfl, HN, HV⟩ := hrel
    by_cases hlt : j < n
    · obtain ⟨b, off, z, rfl, hbl, hx, hc0, hc1, hok⟩ := HS.out.at_ hlt
      have d0 := (HN.out.bel.cell (p := ⟨b, off + j * 2, none⟩) hbl).trans hc0
      have d1 := (HN.out.bel.cell (p := ⟨b, off + j * 2 + 1, none⟩) hbl).trans hc1
      have hzl := HSM.out _ (afvals_mem hx)
      have hul : us.length = j := by
        have := congrArg List.length HV.out
        rw [afvals_length, List.length_take, afvals_length, HLN.out] at this; omega
      have HVN : Hid (afvals (us ++ [z]) = (afvals zs).take (j + 1)) := hidb (by
        rw [List.take_add_one, ← HV.out, afvals_get, hx]
        unfold afvals; rw [List.map_append]; rfl)
      simp only at hzl
      rw [hok.len] at hzl
      have HOK := hidb hok
      have HON2 : Hid (∀ (A2 : Option Addr) (c2 : Nat), ∀ u ∈ [Value.int .i64 z.fn, Value.slice A2 z.n c2], u.oneCell' = true) := hidb (fun A2 c2 u hu => by
        rcases List.mem_cons.1 hu with rfl | hu
        · rfl
        · obtain rfl := List.mem_singleton.1 hu; rfl)
      obtain ⟨zf, zA, zn, zc, zvs⟩ := z
      simp only at *
      obtain ⟨W0, hW0⟩ : ∃ W0, W0 = wr.alloc (.cells #[.int .i64 zf, .slice zA zn zc] 59) := ⟨_, rfl⟩
      have HB0 : Hid (Below wr.heap.size wr W0) := hidb (by rw [hW0]; exact belF_al (Below.refl _ _) _)
      have HX : Hid (∀ W, Below W0.heap.size W0 W → W.cell? ⟨wr.heap.size, 0, none⟩ = some (.int .i64 zf) ∧ W.cell? ⟨wr.heap.size, 1, none⟩ = some (.slice zA zn zc)) := hidb (fun W hb => by
        have hz : W0.heap.size = wr.heap.size + 1 := by rw [hW0]; simp
        exact ⟨(hb.cell (p := ⟨wr.heap.size, 0, none⟩) (by show wr.heap.size < _; omega)).trans (by rw [hW0]; simp), (hb.cell (p := ⟨wr.heap.size, 1, none⟩) (by show wr.heap.size < _; omega)).trans (by rw [hW0]; simp)⟩)
      have HCE : Hid (CellsAt W0.drew zA (cellsAll vlcells zvs)) := hidb (cellsAt_of vlcells_len (by decide) (HOK.out.below (belF_dr (belF_tr HN.out.bel HB0.out))).vals)
      have HNA : Hid (zA = none → zn = 0) := hidb (fun e => by
        rcases Nat.eq_zero_or_pos zn with h | h
        · exact h
        · obtain ⟨b, off, v, e2, _⟩ := HOK.out.at_ (j := 0) h
          simp only at e2
          rw [e] at e2; cases e2)
      have HLZ : Hid ((cellsAll vlcells zvs).length = zn * 4) := hidb (by rw [cellsAll_length vlcells_len]; have := HOK.out.len; simp only at this; rw [this])
      have HON := hidb (vl_one zvs)
      have HOW : Hid (W0.drew.ownsRow wr.heap.size 34 4 (.slice none 0 0) 0 []) := hidb (World.ownsRow_nil _ _ _ _)
      have hbz : wr.heap.size ≤ W0.drew.heap.size := by have := HB0.out.size; exact this
      have HP1 : Hid (∀ (A5 : Option Addr) (c5 : Nat) (w5 : World), w5.ownsRow wr.heap.size 34 4 (.slice A5 (0 + zn) c5) (0 + zn) ([] ++ cellsAll vlcells zvs) → W0.drew.grownBy w5 (Value.slice none 0 0).ownBlock → (AfOwn w (w5.alloc (.cells #[.int .i64 zf, .slice A5 zn c5] 59)) u3 us ∧ (w5.alloc (.cells #[.int .i64 zf, .slice A5 zn c5] 59)).ownsRow wr.heap.size 34 4 (.slice A5 zn c5) zn (cellsAll vlcells zvs)) ∧ Below W0.heap.size W0 w5) := hidb (fun A5 c5 w5 h1 h2 => by
        rw [Nat.zero_add, List.nil_append] at h1
        have hb5 : Below W0.heap.size W0 w5 := (belF_dr (Below.refl _ _)).grown h2 (Nat.le_refl _) (fun k hk => by cases hk)
        exact ⟨⟨(HN.out.below (belF_tr HB0.out hb5)).below (belF_al (Below.refl _ _) _), h1.alloc _⟩, hb5⟩)
      have HP2 : Hid (∀ (A5 A6 : Option Addr) (c5 c6 : Nat) (X w6 : World), AfOwn w X u3 us → X.ownsRow wr.heap.size 34 4 (.slice A5 zn c5) zn (cellsAll vlcells zvs) → w6.ownsRow w.heap.size 59 2 (.slice A6 (j + 1) c6) (j + 1) (cellsAll afcells us ++ [.int .i64 zf, .slice A5 zn c5]) → X.grownBy w6 u3.ownBlock → ∃ us', AfOwn w w6 (.slice A6 (j + 1) c6) us' ∧ afvals us' = (afvals zs).take (j + 1)) := hidb (fun A5 A6 c5 c6 X w6 k1 k2 k3 k4 => by
        rw [← hul] at k3 ⊢
        refine ⟨_, k1.push (z := ⟨zf, A5, zn, c5, zvs⟩) HN.out.bel.size k2 (fun y hy g hg => ((HN.out.fns y hy).1.lt g hg).2) ⟨HOK.out.len, HOK.out.fn, HOK.out.vin⟩ k3 k4, ?_⟩
        rw [hul, ← HVN.out]
        unfold afvals; simp)
      have HUL := hidb hul
      have HW0 := hidb hW0
      have x0 := HX.out W0 (Below.refl _ _)
      obtain ⟨x0, x1⟩ := x0
      clear hx hok hc0 hc1 hul hW0
      --@1
      go_wp2
      rw [← HW0.out]
      go_region_law (first
        | (refine step_append_rowN rfl (.const (.slice none 0 0)) (.tmp 16) 57 rfl wr.heap.size 34 i0 (.agg #[.int .u8 0, .int .u64 0, .int .i64 0, .int .i64 0]) 4 32 Tryz.underlying57 hi0 hz0 hz1 hz2 rfl (by decide) _ 0 [] rfl (by exact HOW.out) (by exact hbz) zA zn zc (cellsAll vlcells zvs) rfl HLZ.out HNA.out (by exact HCE.out) HON.out (by unfold maxLen; omega) (by omega) ?_; intro A5 c5 w5 ho5 hg5; have K5 := hidb (HP1.out A5 c5 w5 ho5 hg5); clear ho5 hg5; rw [Nat.zero_add]; obtain ⟨q4, q5⟩ := HX.out w5 K5.out.2)
        | (refine step_append_rowN rfl (.tmp 12) (.tmp 19) 23 rfl w.heap.size 59 i1 (.agg #[.int .i64 0, .slice none 0 0]) 2 32 Tryz.underlying23 hi1 hy0 hy1 hy2 rfl (by decide) _ j (cellsAll afcells us) rfl (by have := K5.out.1.1.own; rw [HUL.out] at this; exact this) K5.out.1.1.bel.size (some ⟨w5.heap.size, 0, none⟩) 1 1 [.int .i64 zf, .slice A5 zn c5] rfl rfl (fun h => by cases h) (cells_new w5 [.int .i64 zf, .slice A5 zn c5] _) (HON2.out A5 c5) (by unfold maxLen; omega) (by omega) ?_; intro A6 c6 w6 ho6 hg6; have K6 := hidb (HP2.out A5 A6 c5 c6 _ w6 K5.out.1.1 K5.out.1.2 ho6 hg6); clear ho6 hg6))
      all_goals go_wp2
      all_goals go_roundw
      all_goals first
        | (obtain ⟨us', hu1, hu2⟩ := K6.out; exact ⟨j + 1, us', by omega, by go_num, hidb hu1, hidb hu2⟩)
        | (simp [intOf]; omega)
    · have hje : j = n := by omega
      have hv : afvals us = afvals zs := by rw [HV.out]; exact List.take_of_length_le (by rw [afvals_length, HLN.out]; omega)
      have hul : us.length = n := by have := congrArg List.length hv; rw [afvals_length, afvals_length, HLN.out] at this; exact this
      obtain ⟨A7, c7, rfl⟩ := HN.out.form
      rw [hul] at *
      have HVV := hidb hv
      clear hv hje
      --@2
      go_wp2
      go_ret
      first | exact ⟨_, _, us, rfl, HN.out, HVV.out⟩ | exact ⟨_, _, rfl, us, HN.out, HVV.out⟩
end
end Go.Proofs.YtdcnpaodcjfdbaaGreatDoor

/- Layer 19 (model): what changed returns of any change. -/
namespace Go.Proofs.YtdcnpaodcjfdbaaGreatDoor
open Go.RowKit
set_option linter.unusedVariables false

section
variable {w wr X : World} {zs : List AfS} {A : Option Addr} {n c : Nat}
theorem AfOwn.rowC (h : AfOwn w wr (.slice A n c) zs) (hn : zs.length = n) (hk : ∀ k, w.heap.size ≤ k → X.heap[k]? = wr.heap[k]?) (hX : wr.heap.size ≤ X.heap.size) : AfRow X X.heap.size A n zs ∧ n ≤ c ∧ c ≤ 9223372036854775807 := by
  have ho := h.own
  rw [hn] at ho
  have ho2 := own_same ho fun k hk2 => hk k (ho.lt k hk2).1
  refine ⟨⟨RowOf.of_own afcells_len ho2 hn, fun z hz => ?_⟩, own_cap0 ho⟩
  obtain ⟨h1, h2, h3, h4⟩ := h.fns z hz
  obtain ⟨q1, q2⟩ := own_cap0 h1
  exact ⟨RowOf.of_own vlcells_len (own_same h1 fun k hk2 => hk k (h1.lt k hk2).1) h2, h3, q1, q2, h4⟩
end
/-- A row in the call's own memory, and its frames. -/
structure ChgAt (w W : World) (tp : Option Addr) (q : Nat) (A : Option Addr) (n c : Nat) (us : List AfS) : Prop where
  own : AfOwn w W (.slice A n c) us
  len : us.length = n
  obj : W.heap[q]? = some (.cells #[.pointer tp, .slice A n c] 66 (0, 0))
  low : w.heap.size ≤ q
section
variable {w W W' : World} {tp : Option Addr} {q : Nat} {A : Option Addr} {n c : Nat} {us : List AfS}
theorem ChgAt.c0 (h : ChgAt w W tp q A n c us) : W.cell? ⟨q, 0, none⟩ = some (.pointer tp) := by simp [World.cell?, h.obj]
theorem ChgAt.c1 (h : ChgAt w W tp q A n c us) : W.cell? ⟨q, 1, none⟩ = some (.slice A n c) := by simp [World.cell?, h.obj]
theorem ChgAt.fz (h : ChgAt w W tp q A n c us) (k : Nat) : W.frozen? ⟨q, k, none⟩ = false := by simp [World.frozen?, h.obj]
theorem ChgAt.lt (h : ChgAt w W tp q A n c us) : q < W.heap.size := (Array.getElem?_eq_some_iff.1 h.obj).1
theorem ChgAt.below (h : ChgAt w W tp q A n c us) (hb : Below W.heap.size W W') : ChgAt w W' tp q A n c us := ⟨h.own.below hb, h.len, (hb.block q h.lt).trans h.obj, h.low⟩
theorem ChgAt.row (h : ChgAt w W tp q A n c us) : AfRow W W.heap.size A n us := (h.own.row h.len).1
end
/-- What a change comes to: the row has other frames; or something is thrown, and nothing was written. -/
def ChgTo (w W : World) (q : Nat) (L : Afs) (r : Afs × Int) (e : Ending) (w' : World) : Prop :=
  if r.2 = 0 then e = .returned (.tuple #[]) ∧ ∃ A n c zs, w'.cell? ⟨q, 1, none⟩ = some (.slice A n c) ∧ AfRow w' w'.heap.size A n zs ∧ afvals zs = r.1 ∧ n ≤ c ∧ c ≤ 9223372036854775807 ∧ Below w.heap.size w w'
  else Threw19 r.2 W e w' ∧ r.1 = L ∧ ErrOf r.2
theorem erB_at (w : World) : Hid (∀ W, Below (w.alloc (.cells #[.int .i64 0] 26)).heap.size (w.alloc (.cells #[.int .i64 0] 26)) W → W.cell? ⟨w.heap.size, 0, none⟩ = some (.int .i64 0) ∧ W.frozen? ⟨w.heap.size, 0, none⟩ = false) := hidb (fun W hb => by
  have hz : (w.alloc (.cells #[.int .i64 0] 26)).heap.size = w.heap.size + 1 := by simp
  exact ⟨(hb.cell (p := ⟨w.heap.size, 0, none⟩) (by show w.heap.size < _; omega)).trans (by simp), (hb.frozen (p := ⟨w.heap.size, 0, none⟩) (by show w.heap.size < _; omega)).trans (by simp [go_sem])⟩)
section
variable {w : World} {A : Option Addr} {n c : Nat} {zs : List AfS} {tp : Option Addr} {lo hi : Nat} {l : Fns} {k : FuncId} {caps : Array Value}
set_option maxRecDepth 100000 in
set_option maxHeartbeats 4000000 in
theorem c_changed (ht : TbO w lo hi tp l) (hhi : hi ≤ w.heap.size) (hs : AfRow w w.heap.size A n zs) (hn : n ≤ 1000000) (hz : ∀ x ∈ afvals zs, x.2.length ≤ 1000000) (r : Afs × Int) (hk : ∀ (args : Array Value) (W : World), (callFunc k args).run Tryz.prog W = .ok (.enter k args) W)
    (h9 : mdRight l (afvals zs) = false → r = (afvals zs, 9))
    (HK : mdRight l (afvals zs) = true → ∀ (W : World) (q : Nat) (A' : Option Addr) (c' : Nat) (us : List AfS), ChgAt (w.alloc (.cells #[.int .i64 0] 26)) W tp q A' n c' us → afvals us = afvals zs → Calls Tryz.prog k (#[.pointer (some ⟨q, 0, none⟩)] ++ caps) W (ChgTo (w.alloc (.cells #[.int .i64 0] 26)) W q (afvals zs) r)) :
    Calls Tryz.prog 45 #[.pointer tp, .slice A n c, .func (.func k) #[] caps] w (ResA w r) := by
  have hb0 : Below w.heap.size w (w.alloc (.cells #[.int .i64 0] 26)) := belF_al (Below.refl _ _) _
  have kc := c_copied (c := c) (hs.step hb0) hn hz
  have HB0 := hidb hb0
  have HER := erB_at w
  have HKA : Hid (∀ W q A' c' us, ChgAt (w.alloc (.cells #[.int .i64 0] 26)) W tp q A' n c' us → afvals us = afvals zs → mdRight l (afvals zs) = true → Calls Tryz.prog 79 #[.agg #[.pointer tp, .slice A' n c']] W fun e w' => e = .returned (.tuple #[]) ∧ Below W.heap.size W w') := hidb (fun W q A' c' us h e hR => by
    have hb := belF_tr hb0 h.own.bel
    exact c_rask (ht.below (hb.mono hhi)) (Nat.le_trans hhi hb.size) h.row hn (by rw [e]; exact hR))
  have HKN : Hid (∀ W q A' c' us, ChgAt (w.alloc (.cells #[.int .i64 0] 26)) W tp q A' n c' us → afvals us = afvals zs → mdRight l (afvals zs) = false → Calls Tryz.prog 79 #[.agg #[.pointer tp, .slice A' n c']] W (Threw19 9 W)) := hidb (fun W q A' c' us h e hR => by
    have hb := belF_tr hb0 h.own.bel
    exact c_rask_no (ht.below (hb.mono hhi)) (Nat.le_trans hhi hb.size) h.row hn (by rw [e]; exact hR))
  have HAT : Hid (∀ w1 A' c' us, AfOwn (w.alloc (.cells #[.int .i64 0] 26)) w1 (.slice A' n c') us → us.length = n → ChgAt (w.alloc (.cells #[.int .i64 0] 26)) (w1.alloc (.cells #[.pointer tp, .slice A' n c'] 66)) tp w1.heap.size A' n c' us) := hidb (fun w1 A' c' us h hl => ⟨h.below (belF_al (Below.refl _ _) _), hl, by show (w1.heap.push _)[w1.heap.size]? = _; simp, h.bel.size⟩)
  have HLN : Hid (∀ us, afvals us = afvals zs → us.length = n) := hidb (fun us h => by have := congrArg List.length h; rw [afvals_length, afvals_length, hs.len] at this; exact this)
  have PE : Hid (∀ W A' c' us (no : Int), AfOwn (w.alloc (.cells #[.int .i64 0] 26)) W (.slice A' n c') us → afvals us = afvals zs → r = (afvals zs, no) → ∀ v : Int, ResA w r (.returned (.tuple #[.slice A' n c', .int .i64 no])) (W.setCell ⟨w.heap.size, 0, none⟩ (.int .i64 v))) := hidb (fun W A' c' us no h e hr v => by
    have hq : (w.alloc (.cells #[.int .i64 0] 26)).heap.size = w.heap.size + 1 := by simp
    obtain ⟨x1, x2, x3⟩ := h.rowC (X := W.setCell ⟨w.heap.size, 0, none⟩ (.int .i64 v)) (HLN.out us e) (fun k hk => Below.heap_setCell _ _ _ _ (by show k ≠ w.heap.size; omega)) (by simp)
    exact ⟨A', n, c', us, by rw [hr], x1, by rw [e, hr], x2, x3, (belF_tr hb0 h.bel).setCell (by show w.heap.size ≤ w.heap.size; omega) _⟩)
  have PO : Hid (∀ W A' n' c' us, AfRow W W.heap.size A' n' us → afvals us = r.1 → n' ≤ c' → c' ≤ 9223372036854775807 → Below (w.alloc (.cells #[.int .i64 0] 26)).heap.size (w.alloc (.cells #[.int .i64 0] 26)) W → r.2 = 0 → ResA w r (.returned (.tuple #[.slice A' n' c', .int .i64 0])) ((W.setCell ⟨w.heap.size, 0, none⟩ (.int .i64 0)).setCell ⟨w.heap.size, 0, none⟩ (.int .i64 0))) := hidb (fun W A' n' c' us h1 h2 h3 h4 hb h5 => by
    obtain ⟨e0, _⟩ := HER.out W hb
    have i1 := cell_idem W _ _ e0
    have i2 := cell_idem (W.setCell ⟨w.heap.size, 0, none⟩ (.int .i64 0)) ⟨w.heap.size, 0, none⟩ (.int .i64 0) ((i1 _).trans e0)
    refine ⟨A', n', c', us, by rw [h5], ?_, h2, h3, h4, ((belF_tr hb0 hb).setCell (by show w.heap.size ≤ w.heap.size; omega) _).setCell (by show w.heap.size ≤ w.heap.size; omega) _⟩
    have := h1.keepC (w' := (W.setCell ⟨w.heap.size, 0, none⟩ (.int .i64 0)).setCell ⟨w.heap.size, 0, none⟩ (.int .i64 0)) (fun p => (i2 p).trans (i1 p))
    simpa using this)
  have HCT : Hid (∀ no, ErrOf no → ∀ W, W.cell? ⟨w.heap.size, 0, none⟩ = some (.int .i64 0) → W.frozen? ⟨w.heap.size, 0, none⟩ = false → CallsD Tryz.prog 76 #[.pointer (some ⟨w.heap.size, 0, none⟩)] (.panicking [{ v := .iface (thrT no) (.agg #[]), recovered := false }]) W fun e u' w' =>
      e = .returned (.tuple #[]) ∧ u' = .panicking [{ v := .iface (thrT no) (.agg #[]), recovered := true }] ∧ w' = (W.alloc (.cells #[] (thrT no))).setCell ⟨w.heap.size, 0, none⟩ (.int .i64 no)) := hidb (fun no h W hc hf => catch_md_ch h _ 0 W (lt_of_cell' hc) hc hf)
  cases hR : mdRight l (afvals zs) with
  | false =>
    have hr := h9 hR
    have HRR := hidb hr
    have HRF := hidb hR
    clear hs ht hR h9 HK hr hz hb0 hk
    --@1
    go_enter_defers Tryz.func45, Tryz.ntmps45
    go_wp2_with (first
      | (go_at_call 78; (with_reducible refine kc.mono ?_); rintro e w1 ⟨A', c', us, rfl, ho, hv⟩; have HO := hidb ho; have HV := hidb hv; have HC1 := HAT.out w1 A' c' us ho (HLN.out us hv); have ka := HKN.out _ _ _ _ _ HC1 hv HRF.out; clear ho hv)
      | (go_at_call 79; (with_reducible refine ka.mono ?_); rintro e w2 ⟨rfl, hb2⟩))
    have HC2 := HC1.below hb2
    obtain ⟨hce, hfe⟩ := HER.out w2 HC2.own.bel
    refine leaves_cons (f := 76) (args := #[.pointer (some ⟨w.heap.size, 0, none⟩)]) (by simp) (by simp [go_sem]) ?_
    refine (HCT.out 9 (Or.inl rfl) w2 hce hfe).mono ?_
    rintro e u' w'' ⟨rfl, rfl, rfl⟩
    have hc2 : ((w2.alloc (.cells #[] (thrT 9))).setCell ⟨w.heap.size, 0, none⟩ (.int .i64 9)).cell? ⟨w.heap.size, 0, none⟩ = some (.int .i64 9) := World.cell?_setCell_same _ _ _ ((World.cell?_alloc_lt _ _ _ (lt_of_cell' hce)).trans hce)
    simp [Leaves, settle, results, Tryz.results45, go_sem, hc2]
    exact PE.out _ A' c' us 9 (HC2.own.below (belF_al (Below.refl _ _) _)) HV.out HRR.out 9
  | true =>
    have HKK : Hid (∀ (W : World) (q : Nat) (A' : Option Addr) (c' : Nat) (us : List AfS), ChgAt (w.alloc (.cells #[.int .i64 0] 26)) W tp q A' n c' us → afvals us = afvals zs → Calls Tryz.prog k (#[.pointer (some ⟨q, 0, none⟩)] ++ caps) W (ChgTo (w.alloc (.cells #[.int .i64 0] 26)) W q (afvals zs) r)) := hidb (HK hR)
    have HRF := hidb hR
    clear hs ht hR h9 HK hz hb0
    by_cases h0 : r.2 = 0
    · have HR0 := hidb h0
      clear h0
      --@2
      go_enter_defers Tryz.func45, Tryz.ntmps45
      go_wp2_with (first
        | (go_at_call 78; (with_reducible refine kc.mono ?_); rintro e w1 ⟨A', c', us, rfl, ho, hv⟩; have HO := hidb ho; have HV := hidb hv; have HC1 := HAT.out w1 A' c' us ho (HLN.out us hv); have ka := HKA.out _ _ _ _ _ HC1 hv HRF.out; clear ho hv)
        | (go_at_call 79; (with_reducible refine ka.mono ?_); rintro e w2 ⟨rfl, hb2⟩; have HC2 := hidb (HC1.below hb2); have kk := HKK.out _ _ _ _ _ HC2.out HV.out; clear ka HC1 hb2))
      refine kk.mono ?_
      intro e w3 h3
      unfold ChgTo at h3
      rw [if_pos HR0.out] at h3
      obtain ⟨rfl, A3, n3, c3, us3, hc3, hrow, hv3, hn3, hm3, hb3⟩ := h3
      obtain ⟨hce, hfe⟩ := HER.out w3 hb3
      have PN := hidb (PO.out w3 A3 n3 c3 us3 hrow hv3 hn3 hm3 hb3 HR0.out)
      have HE2 : Hid (((w3.setCell ⟨w.heap.size, 0, none⟩ (.int .i64 0)).cell? ⟨w.heap.size, 0, none⟩ = some (.int .i64 0)) ∧ (w3.setCell ⟨w.heap.size, 0, none⟩ (.int .i64 0)).frozen? ⟨w.heap.size, 0, none⟩ = false) := hidb ⟨World.cell?_setCell_same _ _ _ hce, by simp [hfe]⟩
      clear hrow hv3 hn3 hm3 hb3
      go_wp2
      obtain ⟨hA2, hF2⟩ := HE2.out
      refine leaves_cons (f := 76) (args := #[.pointer (some ⟨w.heap.size, 0, none⟩)]) (by simp) (by simp [go_sem]) ?_
      refine (idle_md_ch ⟨w.heap.size, 0, none⟩ 0 _ hA2 hF2).mono ?_
      rintro e u' w'' ⟨rfl, rfl, rfl⟩
      have hc2 := World.cell?_setCell_same (w3.setCell ⟨w.heap.size, 0, none⟩ (.int .i64 0)) ⟨w.heap.size, 0, none⟩ (.int .i64 0) hA2
      simp [Leaves, settle, results, Tryz.results45, go_sem, hc2]
      exact PN.out
    · have HR0 := hidb h0
      clear h0
      --@3
      go_enter_defers Tryz.func45, Tryz.ntmps45
      go_wp2_with (first
        | (go_at_call 78; (with_reducible refine kc.mono ?_); rintro e w1 ⟨A', c', us, rfl, ho, hv⟩; have HO := hidb ho; have HV := hidb hv; have HC1 := HAT.out w1 A' c' us ho (HLN.out us hv); have ka := HKA.out _ _ _ _ _ HC1 hv HRF.out; clear ho hv)
        | (go_at_call 79; (with_reducible refine ka.mono ?_); rintro e w2 ⟨rfl, hb2⟩; have HC2 := hidb (HC1.below hb2); have kk := HKK.out _ _ _ _ _ HC2.out HV.out; clear ka HC1 hb2))
      refine kk.mono ?_
      intro e w3 h3
      unfold ChgTo at h3
      rw [if_neg HR0.out] at h3
      obtain ⟨⟨rfl, hb3⟩, hr1, her⟩ := h3
      have HC3 := HC2.out.below hb3
      obtain ⟨hce, hfe⟩ := HER.out w3 HC3.own.bel
      obtain ⟨r1, r2⟩ := r
      simp only at hr1 her
      subst hr1
      refine leaves_cons (f := 76) (args := #[.pointer (some ⟨w.heap.size, 0, none⟩)]) (by simp) (by simp [go_sem]) ?_
      refine (HCT.out r2 her w3 hce hfe).mono ?_
      rintro e u' w'' ⟨rfl, rfl, rfl⟩
      have hc2 : ((w3.alloc (.cells #[] (thrT r2))).setCell ⟨w.heap.size, 0, none⟩ (.int .i64 r2)).cell? ⟨w.heap.size, 0, none⟩ = some (.int .i64 r2) := World.cell?_setCell_same _ _ _ ((World.cell?_alloc_lt _ _ _ (lt_of_cell' hce)).trans hce)
      simp [Leaves, settle, results, Tryz.results45, go_sem, hc2]
      exact PE.out _ A' c' us r2 (HC3.own.below (belF_al (Below.refl _ _) _)) HV.out rfl r2
end
end Go.Proofs.YtdcnpaodcjfdbaaGreatDoor

/- Layer 19 (model): what asked returns of any answer. -/
namespace Go.Proofs.YtdcnpaodcjfdbaaGreatDoor
open Go.RowKit
set_option linter.unusedVariables false

/-- What an answer comes to: a value, or something is thrown. -/
def AskTo (W : World) (r : VlV × Int) (e : Ending) (w' : World) : Prop :=
  if r.2 = 0 then e = .returned (vlC r.1) ∧ Below W.heap.size W w' else Threw19 r.2 W e w' ∧ r.1 = vl0 ∧ ErrOf r.2
/-- The call's first blocks: the value, the error, the row. -/
abbrev askB (w : World) (tp A : Option Addr) (n c : Nat) : World := rwB ((w.alloc (.cells #[.int .u8 0, .int .u64 0, .int .i64 0, .int .i64 0] 34)).alloc (.cells #[.int .i64 0] 26)) tp A n c
structure AskAt (w W : World) (tp A : Option Addr) (n c : Nat) : Prop where
  rc : W.cell? ⟨w.heap.size, 0, none⟩ = some (.int .u8 0) ∧ W.cell? ⟨w.heap.size, 1, none⟩ = some (.int .u64 0) ∧ W.cell? ⟨w.heap.size, 2, none⟩ = some (.int .i64 0) ∧ W.cell? ⟨w.heap.size, 3, none⟩ = some (.int .i64 0)
  rf : W.frozen? ⟨w.heap.size, 0, none⟩ = false ∧ W.frozen? ⟨w.heap.size, 1, none⟩ = false ∧ W.frozen? ⟨w.heap.size, 2, none⟩ = false ∧ W.frozen? ⟨w.heap.size, 3, none⟩ = false
  ec : W.cell? ⟨w.heap.size + 1, 0, none⟩ = some (.int .i64 0)
  ef : W.frozen? ⟨w.heap.size + 1, 0, none⟩ = false
  wc : W.cell? ⟨w.heap.size + 1 + 1, 0, none⟩ = some (.pointer tp) ∧ W.cell? ⟨w.heap.size + 1 + 1, 1, none⟩ = some (.slice A n c)
theorem askB_at (w : World) (tp A : Option Addr) (n c : Nat) : Hid (∀ W, Below (askB w tp A n c).heap.size (askB w tp A n c) W → AskAt w W tp A n c) := hidb (fun W hb => by
  obtain ⟨W1, hW1⟩ : ∃ W1, W1 = w.alloc (.cells #[.int .u8 0, .int .u64 0, .int .i64 0, .int .i64 0] 34) := ⟨_, rfl⟩
  obtain ⟨W2, hW2⟩ : ∃ W2, W2 = W1.alloc (.cells #[.int .i64 0] 26) := ⟨_, rfl⟩
  have z1 : W1.heap.size = w.heap.size + 1 := by rw [hW1]; simp
  have z2 : W2.heap.size = w.heap.size + 1 + 1 := by rw [hW2]; simp [z1]
  have h2 := new_val w
  unfold askB at hb
  rw [← hW1] at hb h2
  rw [← hW2] at hb
  have b2 : Below W2.heap.size W2 W := belF_tr (belF_al (Below.refl _ _) _) hb
  have b1 : Below W1.heap.size W1 W := belF_tr (by rw [hW2]; exact belF_al (Below.refl _ _) _) b2
  obtain ⟨x1, x2⟩ := h2.out W b1
  have hr := (rwB_at W2 tp A n c).out W hb
  rw [z2] at hr
  refine ⟨x1, x2, ?_, ?_, hr⟩
  · rw [b2.cell (p := ⟨w.heap.size + 1, 0, none⟩) (by show w.heap.size + 1 < _; omega), hW2, ← z1]; simp
  · rw [b2.frozen (p := ⟨w.heap.size + 1, 0, none⟩) (by show w.heap.size + 1 < _; omega), hW2, ← z1]; simp [go_sem])
section
variable {w : World} {A : Option Addr} {n c : Nat} {zs : List AfS} {tp : Option Addr} {lo hi : Nat} {l : Fns} {k : FuncId} {caps : Array Value}
set_option maxRecDepth 100000 in
set_option maxHeartbeats 4000000 in
theorem c_asked (ht : TbO w lo hi tp l) (hhi : hi ≤ w.heap.size) (hs : AfRow w w.heap.size A n zs) (hn : n ≤ 1000000) (r : VlV × Int) (hk : ∀ (args : Array Value) (W : World), (callFunc k args).run Tryz.prog W = .ok (.enter k args) W)
    (h9 : mdRight l (afvals zs) = false → r = (vl0, 9))
    (HK : mdRight l (afvals zs) = true → ∀ (W : World), Below w.heap.size w W → Calls Tryz.prog k (#[.agg #[.pointer tp, .slice A n c]] ++ caps) W (AskTo W r)) :
    Calls Tryz.prog 58 #[.pointer tp, .slice A n c, .func (.func k) #[] caps] w (ResVl w r) := by
  have hb0 : Below w.heap.size w (askB w tp A n c) := belF_al (belF_al (belF_al (Below.refl _ _) _) _) _
  have HB0 := hidb hb0
  have HX := askB_at w tp A n c
  have PE : Hid (∀ W v0 v1 v2 v3 v4 v5, Below w.heap.size w W → Below w.heap.size w ((((((W.setCell ⟨w.heap.size, 0, none⟩ v0).setCell ⟨w.heap.size, 1, none⟩ v1).setCell ⟨w.heap.size, 2, none⟩ v2).setCell ⟨w.heap.size, 3, none⟩ v3).setCell ⟨w.heap.size + 1, 0, none⟩ v4).setCell ⟨w.heap.size + 1, 0, none⟩ v5)) := hidb (fun W v0 v1 v2 v3 v4 v5 hb =>
    ((bel_set4 hb (Nat.le_refl _) v0 v1 v2 v3).setCell (p := ⟨w.heap.size + 1, 0, none⟩) (by show w.heap.size ≤ w.heap.size + 1; omega) _).setCell (p := ⟨w.heap.size + 1, 0, none⟩) (by show w.heap.size ≤ w.heap.size + 1; omega) _)
  have HCT : Hid (∀ no, ErrOf no → ∀ W, W.cell? ⟨w.heap.size + 1, 0, none⟩ = some (.int .i64 0) → W.frozen? ⟨w.heap.size + 1, 0, none⟩ = false → CallsD Tryz.prog 86 #[.pointer (some ⟨w.heap.size + 1, 0, none⟩)] (.panicking [{ v := .iface (thrT no) (.agg #[]), recovered := false }]) W fun e u' w' =>
      e = .returned (.tuple #[]) ∧ u' = .panicking [{ v := .iface (thrT no) (.agg #[]), recovered := true }] ∧ w' = (W.alloc (.cells #[] (thrT no))).setCell ⟨w.heap.size + 1, 0, none⟩ (.int .i64 no)) := hidb (fun no h W hc hf => catch_md_as h _ 0 W (lt_of_cell' hc) hc hf)
  have PN : Hid (∀ W no, AskAt w W tp A n c → Below w.heap.size w W → let w'' := (W.alloc (.cells #[] (thrT no))).setCell ⟨w.heap.size + 1, 0, none⟩ (.int .i64 no); (w''.cell? ⟨w.heap.size + 1, 0, none⟩ = some (.int .i64 no) ∧ w''.cell? ⟨w.heap.size, 0, none⟩ = some (.int .u8 0) ∧ w''.cell? ⟨w.heap.size, 1, none⟩ = some (.int .u64 0) ∧ w''.cell? ⟨w.heap.size, 2, none⟩ = some (.int .i64 0) ∧ w''.cell? ⟨w.heap.size, 3, none⟩ = some (.int .i64 0)) ∧ Below w.heap.size w w'') := hidb (fun W no h hb => by
    obtain ⟨⟨r0, r1, r2, r3⟩, -, hce, hfe, -⟩ := h
    have hcz : ∀ k, ((W.alloc (.cells #[] (thrT no))).setCell ⟨w.heap.size + 1, 0, none⟩ (.int .i64 no)).cell? ⟨w.heap.size, k, none⟩ = W.cell? ⟨w.heap.size, k, none⟩ := fun k => (World.cell?_setCell_other _ _ _ _ (fun e => by injection e with e; omega)).trans (World.cell?_alloc_lt _ _ _ (by show w.heap.size < _; exact lt_of_cell' r0))
    refine ⟨⟨World.cell?_setCell_same _ _ _ ((World.cell?_alloc_lt _ _ _ (lt_of_cell' hce)).trans hce), (hcz 0).trans r0, (hcz 1).trans r1, (hcz 2).trans r2, (hcz 3).trans r3⟩, (belF_al hb _).setCell (p := ⟨w.heap.size + 1, 0, none⟩) (by show w.heap.size ≤ w.heap.size + 1; omega) _⟩)
  cases hR : mdRight l (afvals zs) with
  | false =>
    have hr := h9 hR
    subst hr
    have ka := c_rask_no (c := c) (ht.below (hb0.mono hhi)) (Nat.le_trans hhi hb0.size) (hs.step hb0) hn hR
    clear hs ht hR h9 HK hb0 hk
    --@1
    go_enter_defers Tryz.func58, Tryz.ntmps58
    go_wp2_with (first | (go_at_call 79; (with_reducible refine ka.mono ?_); rintro e w2 ⟨rfl, hb2⟩))
    have HA := HX.out w2 hb2
    obtain ⟨⟨hc2, z0, z1, z2, z3⟩, hbz⟩ := PN.out w2 9 HA (belF_tr HB0.out hb2)
    refine leaves_cons (f := 86) (args := #[.pointer (some ⟨w.heap.size + 1, 0, none⟩)]) (by simp) (by simp [go_sem]) ?_
    refine (HCT.out 9 (Or.inl rfl) w2 HA.ec HA.ef).mono ?_
    rintro e u' w'' ⟨rfl, rfl, rfl⟩
    simp [Leaves, settle, results, Tryz.results58, go_sem, hc2, z0, z1, z2, z3]
    exact ⟨rfl, hbz⟩
  | true =>
    have ka := c_rask (c := c) (ht.below (hb0.mono hhi)) (Nat.le_trans hhi hb0.size) (hs.step hb0) hn hR
    have HKK := hidb (HK hR)
    clear hs ht hR h9 HK hb0
    by_cases h0 : r.2 = 0
    · have HR0 := hidb h0
      obtain ⟨⟨vk, vb, vd, vi⟩, r2⟩ := r
      simp only at h0
      subst h0
      --@2
      go_enter_defers Tryz.func58, Tryz.ntmps58
      go_wp2_with (first | (go_at_call 79; (with_reducible refine ka.mono ?_); rintro e w2 ⟨rfl, hb2⟩; obtain ⟨-, -, -, -, x0, x1⟩ := HX.out w2 hb2; have HB2 := hidb hb2; have kk := HKK.out w2 (belF_tr HB0.out hb2); clear hb2))
      refine kk.mono ?_
      intro e w3 h3
      obtain ⟨rfl, hb3⟩ : e = .returned (vlC ⟨vk, vb, vd, vi⟩) ∧ Below w2.heap.size w2 w3 := h3
      have HB3 := hidb (belF_tr HB2.out hb3)
      obtain ⟨⟨r0, r1, r2, r3⟩, ⟨f0, f1, f2, f3⟩, ec, ef, -⟩ := HX.out w3 HB3.out
      unfold vlC
      clear hb3 kk x0 x1
      have HTE : Hid (∀ W0, W0 = (((w3.setCell ⟨w.heap.size, 0, none⟩ (.int .u8 (vk : Int))).setCell ⟨w.heap.size, 1, none⟩ (.int .u64 (vb : Int))).setCell ⟨w.heap.size, 2, none⟩ (.int .i64 vd)).setCell ⟨w.heap.size, 3, none⟩ (.int .i64 vi) → W0.cell? ⟨w.heap.size + 1, 0, none⟩ = some (.int .i64 0) ∧ W0.frozen? ⟨w.heap.size + 1, 0, none⟩ = false ∧ (W0.cell? ⟨w.heap.size, 0, none⟩ = some (.int .u8 (vk : Int)) ∧ W0.cell? ⟨w.heap.size, 1, none⟩ = some (.int .u64 (vb : Int)) ∧ W0.cell? ⟨w.heap.size, 2, none⟩ = some (.int .i64 vd) ∧ W0.cell? ⟨w.heap.size, 3, none⟩ = some (.int .i64 vi))) := hidb (fun W0 h => by
        subst h
        refine ⟨?_, by simp [ef], four_cellsV w3 w.heap.size (.int .u8 (vk : Int)) (.int .u64 (vb : Int)) (.int .i64 vd) (.int .i64 vi) _ _ _ _ r0 r1 r2 r3⟩
        rw [four_other w3 w.heap.size (w.heap.size + 1) 0 _ _ _ _ (by omega)]
        exact ec)
      go_wp2
      generalize hW0 : (((w3.setCell ⟨w.heap.size, 0, none⟩ (.int .u8 (vk : Int))).setCell ⟨w.heap.size, 1, none⟩ (.int .u64 (vb : Int))).setCell ⟨w.heap.size, 2, none⟩ (.int .i64 vd)).setCell ⟨w.heap.size, 3, none⟩ (.int .i64 vi) = W0 at *
      obtain ⟨g1, g2, s0, s1, s2, s3⟩ := HTE.out W0 rfl
      have hA2 := World.cell?_setCell_same W0 ⟨w.heap.size + 1, 0, none⟩ (.int .i64 0) g1
      have ho : ∀ (v v' : Value) j, ((W0.setCell ⟨w.heap.size + 1, 0, none⟩ v).setCell ⟨w.heap.size + 1, 0, none⟩ v').cell? ⟨w.heap.size, j, none⟩ = W0.cell? ⟨w.heap.size, j, none⟩ := fun v v' j => by
        rw [World.cell?_setCell_other _ _ _ _ (fun e => by injection e with e; omega), World.cell?_setCell_other _ _ _ _ (fun e => by injection e with e; omega)]
      refine leaves_cons (f := 86) (args := #[.pointer (some ⟨w.heap.size + 1, 0, none⟩)]) (by simp) (by simp [go_sem]) ?_
      refine (idle_md_as ⟨w.heap.size + 1, 0, none⟩ 0 _ hA2 (by simp [g2])).mono ?_
      rintro e u' w'' ⟨rfl, rfl, rfl⟩
      have hc2 := World.cell?_setCell_same (W0.setCell ⟨w.heap.size + 1, 0, none⟩ (.int .i64 0)) ⟨w.heap.size + 1, 0, none⟩ (.int .i64 0) hA2
      have u0 := (ho (.int .i64 0) (.int .i64 0) 0).trans s0
      have u1 := (ho (.int .i64 0) (.int .i64 0) 1).trans s1
      have u2 := (ho (.int .i64 0) (.int .i64 0) 2).trans s2
      have u3 := (ho (.int .i64 0) (.int .i64 0) 3).trans s3
      simp [Leaves, settle, results, Tryz.results58, go_sem, hc2, u0, u1, u2, u3]
      rw [← hW0]
      exact ⟨rfl, PE.out w3 _ _ _ _ _ _ (belF_tr HB0.out HB3.out)⟩
    · have HR0 := hidb h0
      obtain ⟨r1, r2⟩ := r
      simp only at h0
      clear h0
      --@3
      go_enter_defers Tryz.func58, Tryz.ntmps58
      go_wp2_with (first | (go_at_call 79; (with_reducible refine ka.mono ?_); rintro e w2 ⟨rfl, hb2⟩; obtain ⟨-, -, -, -, x0, x1⟩ := HX.out w2 hb2; have HB2 := hidb hb2; have kk := HKK.out w2 (belF_tr HB0.out hb2); clear hb2))
      refine kk.mono ?_
      intro e w3 h3
      unfold AskTo at h3
      rw [if_neg HR0.out] at h3
      obtain ⟨⟨rfl, hb3⟩, hr1, her⟩ := h3
      simp only at hr1 her
      subst hr1
      have hb4 := belF_tr HB2.out hb3
      have HA := HX.out w3 hb4
      obtain ⟨⟨hc2, z0, z1, z2, z3⟩, hbz⟩ := PN.out w3 r2 HA (belF_tr HB0.out hb4)
      refine leaves_cons (f := 86) (args := #[.pointer (some ⟨w.heap.size + 1, 0, none⟩)]) (by simp) (by simp [go_sem]) ?_
      refine (HCT.out r2 her w3 HA.ec HA.ef).mono ?_
      rintro e u' w'' ⟨rfl, rfl, rfl⟩
      simp [Leaves, settle, results, Tryz.results58, go_sem, hc2, z0, z1, z2, z3]
      exact ⟨rfl, hbz⟩
end
end Go.Proofs.YtdcnpaodcjfdbaaGreatDoor

/- What the code of layer 19 (model) returns: scalar, fresh. -/
namespace Go.Proofs.YtdcnpaodcjfdbaaGreatDoor
open Go.RowKit
set_option linter.unusedVariables false

theorem c_scalar0 (w : World) : Calls Tryz.prog 80 #[.float .f64 0] w fun e w' => e = .returned (vlC ⟨1, 0, 0, 0⟩) ∧ Below w.heap.size w w' := by
  have hb := fun W => call_bits 0 W
  unfold vlC
  --@1
  go_enter Tryz.func80, Tryz.ntmps80
  go_wp2
  exact bodyPost_ret (v := .agg #[.int .u8 1, .int .u64 0, .int .i64 0, .int .i64 0]) (by simp [results, Tryz.results80, go_sem]) rfl ⟨rfl, by first | exact bel_set4 (belF_al (Below.refl _ _) _) (Nat.le_refl _) _ _ _ _ | exact belF_al (Below.refl _ _) _⟩
/-- A frame that fresh answers, and where its slots lie. -/
def FreshTo (w : World) (f : Int) (vs : List VlV) (e : Ending) (w' : World) : Prop := ∃ D c, e = .returned (.agg #[.int .i64 f, .slice D vs.length c]) ∧ w'.ownsRow w.heap.size 34 4 (.slice D vs.length c) vs.length (cellsAll vlcells vs) ∧ Below w.heap.size w w'
/-- A new block of four cells stays till it is written. -/
theorem new_four (w : World) (u0 u1 u2 u3 : Value) (T : TypeId) : Hid (∀ W, Below (w.alloc (.cells #[u0, u1, u2, u3] T)).heap.size (w.alloc (.cells #[u0, u1, u2, u3] T)) W → (W.cell? ⟨w.heap.size, 0, none⟩ = some u0 ∧ W.cell? ⟨w.heap.size, 1, none⟩ = some u1 ∧ W.cell? ⟨w.heap.size, 2, none⟩ = some u2 ∧ W.cell? ⟨w.heap.size, 3, none⟩ = some u3) ∧ W.frozen? ⟨w.heap.size, 0, none⟩ = false ∧ W.frozen? ⟨w.heap.size, 1, none⟩ = false ∧ W.frozen? ⟨w.heap.size, 2, none⟩ = false ∧ W.frozen? ⟨w.heap.size, 3, none⟩ = false) := hidb (fun W hb => by
  obtain ⟨W0, hW0⟩ : ∃ W0, W0 = w.alloc (.cells #[u0, u1, u2, u3] T) := ⟨_, rfl⟩
  rw [← hW0] at hb
  have hz0 : W0.heap.size = w.heap.size + 1 := by rw [hW0]; simp
  have hc : ∀ k, W.cell? ⟨w.heap.size, k, none⟩ = W0.cell? ⟨w.heap.size, k, none⟩ := fun k => hb.cell (by show w.heap.size < _; omega)
  have hf : ∀ k, W.frozen? ⟨w.heap.size, k, none⟩ = W0.frozen? ⟨w.heap.size, k, none⟩ := fun k => hb.frozen (by show w.heap.size < _; omega)
  refine ⟨⟨?_, ?_, ?_, ?_⟩, ?_, ?_, ?_, ?_⟩
  · rw [hc, hW0]; simp
  · rw [hc, hW0]; simp
  · rw [hc, hW0]; simp
  · rw [hc, hW0]; simp
  all_goals (rw [hf, hW0]; simp [go_sem]))
/-- fresh's first blocks: the row, the result. -/
abbrev frB (w : World) (tp A : Option Addr) (n c : Nat) : World := (rwB w tp A n c).alloc (.cells #[.int .i64 0, .slice none 0 0] 59)
/-- The frame that fresh makes. -/
structure FrSt (w wr : World) (tp A : Option Addr) (n c : Nat) (f : Int) (D : Option Addr) (i k : Nat) (vs : List VlV) : Prop where
  bel : Below (frB w tp A n c).heap.size (frB w tp A n c) wr
  big : w.heap.size + 3 ≤ wr.heap.size
  x0 : wr.cell? ⟨w.heap.size + 1 + 1, 0, none⟩ = some (.int .i64 f)
  x1 : wr.cell? ⟨w.heap.size + 1 + 1, 1, none⟩ = some (.slice D i k)
  xf : wr.frozen? ⟨w.heap.size + 1 + 1, 1, none⟩ = false
  own : wr.ownsRow (w.heap.size + 3) 34 4 (.slice D i k) i (cellsAll vlcells vs)
section
variable {w wr X w6 : World} {tp A : Option Addr} {n c : Nat} {f : Int} {D : Option Addr} {i k : Nat} {vs : List VlV}
theorem frB_size (w : World) (tp A : Option Addr) (n c : Nat) : (frB w tp A n c).heap.size = w.heap.size + 2 := by simp
theorem FrSt.start (w : World) (tp A : Option Addr) (n c : Nat) (f : Int) : FrSt w ((frB w tp A n c).alloc (.cells #[.int .i64 f, .slice none 0 0] 59)) tp A n c f none 0 0 [] := by
  have hz := frB_size w tp A n c
  refine ⟨belF_al (Below.refl _ _) _, by simp, ?_, ?_, ?_, World.ownsRow_nil _ _ _ _⟩
  · rw [show w.heap.size + 1 + 1 = (frB w tp A n c).heap.size by omega]; exact World.cell?_alloc_at _ _ _ 0 (by simp)
  · rw [show w.heap.size + 1 + 1 = (frB w tp A n c).heap.size by omega]; exact World.cell?_alloc_at _ _ _ 1 (by simp)
  · rw [show w.heap.size + 1 + 1 = (frB w tp A n c).heap.size by omega]; simp [go_sem]
theorem FrSt.step (h : FrSt w wr tp A n c f D i k vs) (hb : Below wr.heap.size wr X) : FrSt w X tp A n c f D i k vs := by
  have := h.big
  exact ⟨belF_tr h.bel hb, by have := hb.size; omega, (hb.cell (p := ⟨w.heap.size + 1 + 1, 0, none⟩) (by show w.heap.size + 1 + 1 < _; omega)).trans h.x0, (hb.cell (p := ⟨w.heap.size + 1 + 1, 1, none⟩) (by show w.heap.size + 1 + 1 < _; omega)).trans h.x1, (hb.frozen (p := ⟨w.heap.size + 1 + 1, 1, none⟩) (by show w.heap.size + 1 + 1 < _; omega)).trans h.xf, own_same h.own fun j hj => hb.block j (h.own.lt j hj).2⟩
theorem FrSt.belw (h : FrSt w wr tp A n c f D i k vs) : Below w.heap.size w wr := belF_tr (belF_al (belF_al (Below.refl _ _) _) _) h.bel
/-- Another block is written. -/
theorem FrSt.set4 (h : FrSt w wr tp A n c f D i k vs) {g : Nat} (hg : wr.heap.size ≤ g) {Y : World} (hY : Below wr.heap.size wr Y) (u0 u1 u2 u3 : Value) : FrSt w ((((Y.setCell ⟨g, 0, none⟩ u0).setCell ⟨g, 1, none⟩ u1).setCell ⟨g, 2, none⟩ u2).setCell ⟨g, 3, none⟩ u3) tp A n c f D i k vs :=
  h.step (bel_set4 hY hg u0 u1 u2 u3)
theorem FrSt.push (h : FrSt w X tp A n c f D i k vs) {A6 : Option Addr} {c6 : Nat} {v : VlV} (ho : w6.ownsRow (w.heap.size + 3) 34 4 (.slice A6 (i + 1) c6) (i + 1) (cellsAll vlcells vs ++ vlcells v)) (hg : X.grownBy w6 (Value.slice D i k).ownBlock) :
    (w6.cell? ⟨w.heap.size + 1 + 1, 1, none⟩ = some (.slice D i k) ∧ w6.frozen? ⟨w.heap.size + 1 + 1, 1, none⟩ = false) ∧ FrSt w (w6.setCell ⟨w.heap.size + 1 + 1, 1, none⟩ (.slice A6 (i + 1) c6)) tp A n c f A6 (i + 1) c6 (vs ++ [v]) := by
  have hz := frB_size w tp A n c
  have hbig := h.big
  have hbk : w6.heap[w.heap.size + 1 + 1]? = X.heap[w.heap.size + 1 + 1]? := hg.block _ (by omega) (fun e => by have := (h.own.lt _ e.symm).1; omega)
  have e1 : ∀ j, w6.cell? ⟨w.heap.size + 1 + 1, j, none⟩ = X.cell? ⟨w.heap.size + 1 + 1, j, none⟩ := fun j => World.cell?_of_block hbk
  have e2 : w6.frozen? ⟨w.heap.size + 1 + 1, 1, none⟩ = X.frozen? ⟨w.heap.size + 1 + 1, 1, none⟩ := World.frozen?_of_block hbk
  have c1 := (e1 1).trans h.x1
  refine ⟨⟨c1, e2.trans h.xf⟩, ⟨(h.bel.grown hg h.bel.size (fun j hj => by have := (h.own.lt j hj).1; omega)).setCell (p := ⟨w.heap.size + 1 + 1, 1, none⟩) (by show _ ≤ w.heap.size + 1 + 1; omega) _, by have := hg.size; simp; omega, ?_, World.cell?_setCell_same _ _ _ c1, by simp [e2, h.xf], ?_⟩⟩
  · rw [World.cell?_setCell_other _ _ _ _ (by simp)]; exact (e1 0).trans h.x0
  · rw [cellsAll_append, cellsAll_one]
    exact own_same ho fun j hj => Below.heap_setCell _ _ _ _ (by show j ≠ w.heap.size + 1 + 1; have := (ho.lt j hj).1; omega)
end
section
variable {w : World} {A : Option Addr} {n c : Nat} {tp : Option Addr} {lo hi : Nat} {l : Fns}
set_option maxRecDepth 100000 in
set_option maxHeartbeats 4000000 in
theorem c_fresh (ht : TbO w lo hi tp l) (hhi : hi ≤ w.heap.size) (f : Int) (sz : Nat) (hsz : fSize l f = (sz : Int)) (hs9 : sz ≤ 1000) :
    Calls Tryz.prog 48 #[.agg #[.pointer tp, .slice A n c], .int .i64 f] w (FreshTo w f (mdNew l f sz)) := by
  obtain ⟨i0, hy, hz0, hz1, hz2⟩ := info_parts info_vl
  have KS : Hid (∀ W, Below w.heap.size w W → Calls Tryz.prog 47 #[.pointer tp, .int .i64 f] W fun e w' => e = .returned (.int .i64 (sz : Int)) ∧ Below W.heap.size W w') := hidb (fun W hb => by rw [← hsz]; exact code_fsize (ht.below (hb.mono hhi)) (Nat.le_trans hhi hb.size) f)
  have KP : Hid (∀ W (i : Nat), Below w.heap.size w W → i ≤ 1000 → Calls Tryz.prog 81 #[.pointer tp, .int .i64 f, .int .i64 i] W fun e w' => e = .returned (.bool (fPtr l f i)) ∧ Below W.heap.size W w') := hidb (fun W i hb hi => code_fptr (ht.below (hb.mono hhi)) (Nat.le_trans hhi hb.size) f i (by unfold in64; omega))
  have HR0 : Hid (∀ W, Below (frB w tp A n c).heap.size (frB w tp A n c) W → (W.cell? ⟨w.heap.size, 0, none⟩ = some (.pointer tp) ∧ W.cell? ⟨w.heap.size, 1, none⟩ = some (.slice A n c)) ∧ (W.cell? ⟨w.heap.size + 1, 0, none⟩ = some (.int .i64 0) ∧ W.cell? ⟨w.heap.size + 1, 1, none⟩ = some (.slice none 0 0)) ∧ W.frozen? ⟨w.heap.size + 1, 0, none⟩ = false ∧ W.frozen? ⟨w.heap.size + 1, 1, none⟩ = false) := hidb (fun W hb => by
    have hz1 : (rwB w tp A n c).heap.size = w.heap.size + 1 := by simp
    have hz2 := frB_size w tp A n c
    have e : ∀ j, W.cell? ⟨w.heap.size + 1, j, none⟩ = (frB w tp A n c).cell? ⟨w.heap.size + 1, j, none⟩ := fun j => hb.cell (by show w.heap.size + 1 < _; omega)
    have e2 : ∀ j, W.frozen? ⟨w.heap.size + 1, j, none⟩ = (frB w tp A n c).frozen? ⟨w.heap.size + 1, j, none⟩ := fun j => hb.frozen (by show w.heap.size + 1 < _; omega)
    refine ⟨(rwB_at w tp A n c).out W (belF_tr (belF_al (Below.refl _ _) _) hb), ⟨?_, ?_⟩, ?_, ?_⟩
    · rw [e, ← hz1]; simp
    · rw [e, ← hz1]; simp
    · rw [e2, ← hz1]; simp [go_sem]
    · rw [e2, ← hz1]; simp [go_sem])
  have HS0 := hidb (FrSt.start w tp A n c f)
  clear ht hhi hsz
  --@2
  go_enter Tryz.func48, Tryz.ntmps48
  go_wp2_with (first | (go_at_call 47; (with_reducible refine (KS.out _ HS0.out.belw).mono ?_); rintro e w1 ⟨rfl, hb1⟩; have HS1 := hidb (HS0.out.step hb1); clear hb1))
  go_loopw [14, 6, 7] (fun v14 _ _ wr => ∃ (i : Nat) (D : Option Addr) (k : Nat), i ≤ sz ∧ v14 = .int .i64 i ∧ Hid (FrSt w wr tp A n c f D i k (mdNew l f i))) (fun v14 _ _ _ => (sz - intOf v14).toNat)
  case atStart => exact ⟨0, none, 0, by omega, rfl, HS1⟩
  case round =>
    obtain ⟨i, D, k, hi, rfl, HS⟩ := hrel
    clear HS1
    by_cases hlt : i < sz
    · obtain ⟨P, hP⟩ : ∃ P, fPtr l f (i : Int) = P := ⟨_, rfl⟩
      have hnew : mdNew l f (i + 1) = mdNew l f i ++ [if P = true then vl0 else ⟨1, 0, 0, 0⟩] := by rw [mdNew_succ, hP]
      have KPI : Hid (∀ W, Below w.heap.size w W → Calls Tryz.prog 81 #[.pointer tp, .int .i64 f, .int .i64 (i : Int)] W fun e w' => e = .returned (.bool P) ∧ Below W.heap.size W w') := hidb (fun W hb => by rw [← hP]; exact KP.out W i hb (by omega))
      have HNEW := hidb hnew
      clear hnew hP
      have cs := fun W => c_scalar0 W
      unfold vlC at cs
      cases P with
      | true =>
        simp only [if_true] at HNEW
        --@3
        go_wp2_with (first
          | (go_at_call 80; (with_reducible refine (cs _).mono ?_); rintro e w2 ⟨rfl, hb2⟩; have HS2 := hidb (HS.out.step hb2); have HS3 := hidb (HS2.out.step (belF_al (Below.refl _ _) (.cells #[.int .u8 1, .int .u64 0, .int .i64 0, .int .i64 0] 34))); obtain ⟨⟨r0, r1⟩, -⟩ := HR0.out _ HS3.out.bel; have HV := new_four w2 (.int .u8 1) (.int .u64 0) (.int .i64 0) (.int .i64 0) 34; clear hb2)
          | (go_at_call 81; (with_reducible refine (KPI.out _ HS3.out.belw).mono ?_); rintro e w4 ⟨rfl, hb4⟩; have HS4 := hidb (HS3.out.step hb4); obtain ⟨⟨v0, v1, v2, v3⟩, vf0, vf1, vf2, vf3⟩ := HV.out w4 hb4; obtain ⟨t0, t1, t2, t3⟩ := four_cellsV w4 w2.heap.size (.int .u8 0) (.int .u64 0) (.int .i64 0) (.int .i64 0) _ _ _ _ v0 v1 v2 v3; have HS5 := hidb (HS2.out.set4 (Nat.le_refl _) (belF_tr (belF_al (Below.refl _ _) _) hb4) (.int .u8 0) (.int .u64 0) (.int .i64 0) (.int .i64 0)); have x5 := HS5.out.x1; have HS6 := hidb (HS5.out.step (belF_al (Below.refl _ _) (.cells #[.int .u8 0, .int .u64 0, .int .i64 0, .int .i64 0] 34))); clear hb4)
          | (at_builtin; go_loud (refine wpList_append_rowN _ rfl (.tmp 25) (.tmp 27) 57 rfl (w.heap.size + 3) 34 i0 (.agg #[.int .u8 0, .int .u64 0, .int .i64 0, .int .i64 0]) 4 32 Tryz.underlying57 hy hz0 hz1 hz2 rfl (by decide) (.slice D i k) i (cellsAll vlcells (mdNew l f i)) rfl HS6.out.own HS6.out.big (some ⟨w4.heap.size, 0, none⟩) 1 1 [.int .u8 0, .int .u64 0, .int .i64 0, .int .i64 0] rfl rfl (fun e => by cases e) (cells_new' _ [.int .u8 0, .int .u64 0, .int .i64 0, .int .i64 0] 34 _ (by simp)) (fun u hu => by simp at hu; rcases hu with rfl | rfl | rfl | rfl <;> rfl) (by unfold maxLen; omega) (by omega) ?_); go_loud (intro A6 c6 w6 ho6 hg6; obtain ⟨⟨xc6, xf6⟩, hS7⟩ := HS6.out.push (v := vl0) ho6 hg6; have HS7 := hidb hS7; clear hS7 ho6 hg6)))
        go_roundw
        case rel => exact ⟨i + 1, A6, c6, by omega, by go_num, hidb (by rw [HNEW.out]; exact HS7.out)⟩
        case measure => simp [intOf]; omega
      | false =>
        simp only [Bool.false_eq_true, if_false] at HNEW
        --@4
        go_wp2_with (first
          | (go_at_call 80; (with_reducible refine (cs _).mono ?_); rintro e w2 ⟨rfl, hb2⟩; have HS2 := hidb (HS.out.step hb2); have HS3 := hidb (HS2.out.step (belF_al (Below.refl _ _) (.cells #[.int .u8 1, .int .u64 0, .int .i64 0, .int .i64 0] 34))); obtain ⟨⟨r0, r1⟩, -⟩ := HR0.out _ HS3.out.bel; have HV := new_four w2 (.int .u8 1) (.int .u64 0) (.int .i64 0) (.int .i64 0) 34; clear hb2)
          | (go_at_call 81; (with_reducible refine (KPI.out _ HS3.out.belw).mono ?_); rintro e w4 ⟨rfl, hb4⟩; have HS4 := hidb (HS3.out.step hb4); obtain ⟨⟨v0, v1, v2, v3⟩, vf0, vf1, vf2, vf3⟩ := HV.out w4 hb4; have HS5 := HS4; have x5 := HS5.out.x1; have HS6 := hidb (HS5.out.step (belF_al (Below.refl _ _) (.cells #[.int .u8 1, .int .u64 0, .int .i64 0, .int .i64 0] 34))); clear hb4)
          | (at_builtin; go_loud (refine wpList_append_rowN _ rfl (.tmp 25) (.tmp 27) 57 rfl (w.heap.size + 3) 34 i0 (.agg #[.int .u8 0, .int .u64 0, .int .i64 0, .int .i64 0]) 4 32 Tryz.underlying57 hy hz0 hz1 hz2 rfl (by decide) (.slice D i k) i (cellsAll vlcells (mdNew l f i)) rfl HS6.out.own HS6.out.big (some ⟨w4.heap.size, 0, none⟩) 1 1 [.int .u8 1, .int .u64 0, .int .i64 0, .int .i64 0] rfl rfl (fun e => by cases e) (cells_new' _ [.int .u8 1, .int .u64 0, .int .i64 0, .int .i64 0] 34 _ (by simp)) (fun u hu => by simp at hu; rcases hu with rfl | rfl | rfl | rfl <;> rfl) (by unfold maxLen; omega) (by omega) ?_); go_loud (intro A6 c6 w6 ho6 hg6; obtain ⟨⟨xc6, xf6⟩, hS7⟩ := HS6.out.push (v := ⟨1, 0, 0, 0⟩) ho6 hg6; have HS7 := hidb hS7; clear hS7 ho6 hg6)))
        go_roundw
        case rel => exact ⟨i + 1, A6, c6, by omega, by go_num, hidb (by rw [HNEW.out]; exact HS7.out)⟩
        case measure => simp [intOf]; omega
    · obtain rfl : i = sz := by omega
      have hge : ¬ ((i : Int) < (i : Int)) := by omega
      obtain ⟨-, ⟨r0, r1⟩, rf0, rf1⟩ := HR0.out _ HS.out.bel
      have x0 := HS.out.x0
      have x1 := HS.out.x1
      have HBF := hidb HS.out.belw
      have hml := mdNew_length l f i
      have P : Hid (FreshTo w f (mdNew l f i) (.returned (.agg #[.int .i64 f, .slice D i k])) ((wr.setCell ⟨w.heap.size + 1, 0, none⟩ (.int .i64 f)).setCell ⟨w.heap.size + 1, 1, none⟩ (.slice D i k))) := hidb (by
        refine ⟨D, k, by rw [hml], ?_, (HBF.out.setCell (p := ⟨w.heap.size + 1, 0, none⟩) (by show w.heap.size ≤ w.heap.size + 1; omega) _).setCell (p := ⟨w.heap.size + 1, 1, none⟩) (by show w.heap.size ≤ w.heap.size + 1; omega) _⟩
        rw [hml]
        exact (own_set2 HS.out.own (by omega)).mono (by omega))
      have s0 : ((wr.setCell ⟨w.heap.size + 1, 0, none⟩ (.int .i64 f)).setCell ⟨w.heap.size + 1, 1, none⟩ (.slice D i k)).cell? ⟨w.heap.size + 1, 0, none⟩ = some (.int .i64 f) := by
        rw [World.cell?_setCell_other _ _ _ _ (by simp), World.cell?_setCell_same _ _ _ (by rw [r0])]
      have s1 : ((wr.setCell ⟨w.heap.size + 1, 0, none⟩ (.int .i64 f)).setCell ⟨w.heap.size + 1, 1, none⟩ (.slice D i k)).cell? ⟨w.heap.size + 1, 1, none⟩ = some (.slice D i k) := by
        exact World.cell?_setCell_same _ _ _ (by rw [World.cell?_setCell_other _ _ _ _ (by simp), r1])
      have HS01 := hidb (And.intro s0 s1)
      clear s0 s1 hml
      --@5
      go_wp2
      obtain ⟨s0, s1⟩ := HS01.out
      refine bodyPost_ret (v := .agg #[.int .i64 f, .slice D i k]) (by simp [results, Tryz.results48, go_sem, s0, s1]) rfl ?_
      exact P.out
end
end Go.Proofs.YtdcnpaodcjfdbaaGreatDoor

/- Layer 19 (model): frames in new memory, one of whose slots is written; a row that has other frames. -/
namespace Go.Proofs.YtdcnpaodcjfdbaaGreatDoor
open Go.RowKit
set_option linter.unusedVariables false

theorem cells_setB (b : Nat) : ∀ (l : List VlV) (i : Nat) (v : VlV), l[i]? = some v → cellsAll vlcells (l.set i ⟨v.kind, b, v.depth, v.slot⟩) = (cellsAll vlcells l).set (i * 4 + 1) (.int .u64 b)
  | [], i, v, h => by simp at h
  | x :: r, 0, v, h => by
    obtain rfl : x = v := by simpa using h
    rfl
  | x :: r, i + 1, v, h => by
    have ih := cells_setB b r i v (by simpa using h)
    have e : (i + 1) * 4 + 1 = (i * 4 + 1) + 4 := by omega
    rw [e]
    show vlcells x ++ cellsAll vlcells (r.set i ⟨v.kind, b, v.depth, v.slot⟩) = _
    rw [ih]
    rfl
theorem afcells_setD (zs : List AfS) (d : Nat) (z : AfS) (vs : List VlV) (hz : zs[d]? = some z) : cellsAll afcells (zs.set d ⟨z.fn, z.A, z.n, z.c, vs⟩) = cellsAll afcells zs := by
  induction zs generalizing d with
  | nil => rfl
  | cons x r ih =>
    cases d with
    | zero =>
      obtain rfl : x = z := by simpa using hz
      rfl
    | succ d =>
      show afcells x ++ cellsAll afcells (r.set d _) = afcells x ++ cellsAll afcells r
      rw [ih d (by simpa using hz)]
section
variable {w X X' : World} {A : Option Addr} {n c : Nat} {v : Value} {zs : List AfS} {z : AfS} {d g : Nat}
/-- One frame's slots are written. -/
theorem AfOwn.wrote (h : AfOwn w X v zs) (hz : zs[d]? = some z) (hg : (Value.slice z.A z.n z.c).ownBlock = some g) (vs : List VlV) (hk : ∀ k, k ≠ g → X'.heap[k]? = X.heap[k]?) (hb : Below w.heap.size w X')
    (ho : X'.ownsRow w.heap.size 34 4 (.slice z.A z.n z.c) z.n (cellsAll vlcells vs)) (hl : vs.length = z.n) (hv : ∀ v ∈ vs, VIn v) : AfOwn w X' v (zs.set d ⟨z.fn, z.A, z.n, z.c, vs⟩) := by
  have hzm := List.mem_of_getElem? hz
  have hat : ∀ (i : Nat) (y : AfS), (zs.set d ⟨z.fn, z.A, z.n, z.c, vs⟩)[i]? = some y → (i = d ∧ y = ⟨z.fn, z.A, z.n, z.c, vs⟩) ∨ (i ≠ d ∧ zs[i]? = some y) := fun i y hy => by
    rw [List.getElem?_set] at hy
    by_cases e : d = i
    · subst e
      rw [if_pos rfl] at hy
      split at hy
      · exact Or.inl ⟨rfl, (Option.some.inj hy).symm⟩
      · cases hy
    · rw [if_neg e] at hy
      exact Or.inr ⟨fun c => e c.symm, hy⟩
  refine ⟨hb, ?_, fun y hy => ?_, fun i j zi zj g' hij hi hj hgi hgj => ?_⟩
  · rw [List.length_set, afcells_setD zs d z vs hz]
    exact own_same h.own fun k hk2 => hk k (fun e => own_types19 h.own (h.fns z hzm).1 (by decide) k hk2 (by rw [e]; exact hg))
  · obtain ⟨i, hi⟩ := List.getElem?_of_mem hy
    rcases hat i y hi with ⟨_, rfl⟩ | ⟨h1, h2⟩
    · exact ⟨ho, hl, (h.fns z hzm).2.2.1, hv⟩
    · obtain ⟨f1, f2⟩ := h.fns y (List.mem_of_getElem? h2)
      refine ⟨own_same f1 fun k hk2 => hk k (fun e => ?_), f2⟩
      subst e
      rcases Nat.lt_or_gt_of_ne h1 with h3 | h3
      · exact h.apart i d y z k h3 h2 hz hk2 hg
      · exact h.apart d i z y k h3 hz h2 hg hk2
  · rcases hat i zi hi with ⟨e1, rfl⟩ | ⟨h1, h2⟩
    · rcases hat j zj hj with ⟨e2, rfl⟩ | ⟨h3, h4⟩
      · omega
      · subst e1; exact h.apart i j z zj g' hij hz h4 hgi hgj
    · rcases hat j zj hj with ⟨e2, rfl⟩ | ⟨h3, h4⟩
      · subst e2; exact h.apart i j zi z g' hij h2 hz hgi hgj
      · exact h.apart i j zi zj g' hij h2 h4 hgi hgj
theorem afvals_wrote (zs : List AfS) (d i : Nat) (z : AfS) (v : VlV) (hz : zs[d]? = some z) : afvals (zs.set d ⟨z.fn, z.A, z.n, z.c, z.vs.set i v⟩) = mdWith (afvals zs) d i v := by
  unfold mdWith
  rw [afvals_at hz, afAt_at hz]
  unfold afvals
  rw [List.map_set]
end
section
variable {w W : World} {tp : Option Addr} {q : Nat} {A : Option Addr} {n c : Nat} {us : List AfS} {d i : Int} {p : Addr}
/-- Where a slot stands, in new memory. -/
theorem ChgAt.slot (h : ChgAt w W tp q A n c us) (hp : SlotAt us d i p) : ∃ z g, us[d.toNat]? = some z ∧ z.A = some ⟨g, 0, none⟩ ∧ i.toNat < z.n ∧ p = ⟨g, i.toNat * 4, none⟩ ∧ w.heap.size ≤ g ∧ g < W.heap.size ∧ g ≠ q ∧ W.ownsRow w.heap.size 34 4 (.slice (some ⟨g, 0, none⟩) z.n z.c) z.n (cellsAll vlcells z.vs) ∧ z.vs.length = z.n := by
  obtain ⟨z, b, off, hz, hA, hlt, rfl⟩ := hp
  obtain ⟨f1, f2, f3, f4⟩ := h.own.fns z (List.mem_of_getElem? hz)
  rw [hA] at f1
  obtain ⟨g, e, g1, g2⟩ := own_some19 f1 (by omega)
  injection e with e
  injection e with e1 e2
  subst e1 e2
  refine ⟨z, b, hz, hA, hlt, by simp, g1, g2, fun e => ?_, f1, f2⟩
  obtain ⟨cur, hc⟩ := own_type f1 b rfl
  rw [e, h.obj] at hc
  injection hc with hc
  injection hc with _ hc _
  revert hc; decide
/-- A slot is written, whole. -/
theorem ChgAt.set4 (h : ChgAt w W tp q A n c us) (hp : SlotAt us d i p) (v : VlV) (hv : VIn v) (L : Afs) (hL : afvals us = L) : ∃ g o, p = ⟨g, o, none⟩ ∧ ((W.cell? ⟨g, o, none⟩).isSome = true ∧ (W.cell? ⟨g, o + 1, none⟩).isSome = true ∧ (W.cell? ⟨g, o + 2, none⟩).isSome = true ∧ (W.cell? ⟨g, o + 3, none⟩).isSome = true) ∧ (W.frozen? ⟨g, o, none⟩ = false ∧ W.frozen? ⟨g, o + 1, none⟩ = false ∧ W.frozen? ⟨g, o + 2, none⟩ = false ∧ W.frozen? ⟨g, o + 3, none⟩ = false) ∧
    ChgTo w W q L (mdWith L d.toNat i.toNat v, 0) (.returned (.tuple #[])) ((((W.setCell ⟨g, o, none⟩ (.int .u8 v.kind)).setCell ⟨g, o + 1, none⟩ (.int .u64 v.bits)).setCell ⟨g, o + 2, none⟩ (.int .i64 v.depth)).setCell ⟨g, o + 3, none⟩ (.int .i64 v.slot)) := by
  obtain ⟨z, g, hz, hA, hlt, rfl, g1, g2, g3, f1, f2⟩ := h.slot hp
  have hlen : (cellsAll vlcells z.vs).length = z.n * 4 := by rw [cellsAll_length vlcells_len, f2]
  obtain ⟨⟨k0, k1, k2, k3⟩, k4⟩ := own_four f1 hlen hlt
  refine ⟨g, i.toNat * 4, rfl, ⟨by rw [k0]; rfl, by rw [k1]; rfl, by rw [k2]; rfl, by rw [k3]; rfl⟩, k4, ?_⟩
  have hk : ∀ k, k ≠ g → ((((W.setCell ⟨g, i.toNat * 4, none⟩ (.int .u8 v.kind)).setCell ⟨g, i.toNat * 4 + 1, none⟩ (.int .u64 v.bits)).setCell ⟨g, i.toNat * 4 + 2, none⟩ (.int .i64 v.depth)).setCell ⟨g, i.toNat * 4 + 3, none⟩ (.int .i64 v.slot)).heap[k]? = W.heap[k]? := fun k hk => by
    rw [Below.heap_setCell _ _ _ _ hk, Below.heap_setCell _ _ _ _ hk, Below.heap_setCell _ _ _ _ hk, Below.heap_setCell _ _ _ _ hk]
  have hb := bel_set4o h.own.bel g1 (i.toNat * 4) (i.toNat * 4 + 1) (i.toNat * 4 + 2) (i.toNat * 4 + 3) (.int .u8 v.kind) (.int .u64 v.bits) (.int .i64 v.depth) (.int .i64 v.slot)
  have ho := own_setV v f1 (by rw [f2]; exact hlt)
  rw [← hA] at ho
  have hw := h.own.wrote hz (by rw [hA]; rfl) (z.vs.set i.toNat v) hk hb ho (by rw [List.length_set, f2]) (fun u hu => by
    rcases List.mem_or_eq_of_mem_set hu with hu | rfl
    · exact (h.own.fns z (List.mem_of_getElem? hz)).2.2.2 u hu
    · exact hv)
  obtain ⟨r1, r2, r3⟩ := hw.row (by rw [List.length_set]; exact h.len)
  unfold ChgTo
  rw [if_pos rfl]
  refine ⟨rfl, A, n, c, _, ?_, r1, by rw [afvals_wrote us d.toNat i.toNat z v hz, hL], r2, r3, hb⟩
  exact (World.cell?_of_block (a := ⟨q, 1, none⟩) (hk q (fun e => g3 e.symm))).trans h.c1
/-- A slot's bits are written. -/
theorem ChgAt.setB (h : ChgAt w W tp q A n c us) (hp : SlotAt us d i p) (v : VlV) (hv : (afAt (afvals us) d.toNat).getD i.toNat vl0 = v) (b : Nat) (hbits : b < 18446744073709551616) (L : Afs) (hL : afvals us = L) : ∃ g o, p = ⟨g, o, none⟩ ∧ ((W.cell? ⟨g, o + 1, none⟩).isSome = true) ∧ W.frozen? ⟨g, o + 1, none⟩ = false ∧
    ChgTo w W q L (mdWith L d.toNat i.toNat ⟨v.kind, b, v.depth, v.slot⟩, 0) (.returned (.tuple #[])) (W.setCell ⟨g, o + 1, none⟩ (.int .u64 b)) := by
  obtain ⟨z, g, hz, hA, hlt, rfl, g1, g2, g3, f1, f2⟩ := h.slot hp
  have hlen : (cellsAll vlcells z.vs).length = z.n * 4 := by rw [cellsAll_length vlcells_len, f2]
  obtain ⟨⟨k0, k1, k2, k3⟩, k4, k5, k6, k7⟩ := own_four f1 hlen hlt
  refine ⟨g, i.toNat * 4, rfl, by rw [k1]; rfl, k5, ?_⟩
  have hvz : z.vs[i.toNat]? = some v := by
    rw [afAt_at hz, List.getD_eq_getElem?_getD, List.getElem?_eq_getElem (by omega)] at hv
    rw [List.getElem?_eq_getElem (by omega), ← hv]; rfl
  have hvin := (h.own.fns z (List.mem_of_getElem? hz)).2.2.2 v (List.mem_of_getElem? hvz)
  have hk : ∀ k, k ≠ g → (W.setCell ⟨g, i.toNat * 4 + 1, none⟩ (.int .u64 b)).heap[k]? = W.heap[k]? := fun k hk => Below.heap_setCell _ _ _ _ hk
  have hb : Below w.heap.size w (W.setCell ⟨g, i.toNat * 4 + 1, none⟩ (.int .u64 b)) := h.own.bel.setCell (p := ⟨g, i.toNat * 4 + 1, none⟩) g1 _
  have ho := (f1.stored (i.toNat * 4 + 1) (.int .u64 b)).1
  rw [← cells_setB b z.vs i.toNat v hvz, ← hA] at ho
  have hw := h.own.wrote hz (by rw [hA]; rfl) (z.vs.set i.toNat ⟨v.kind, b, v.depth, v.slot⟩) hk hb ho (by rw [List.length_set, f2]) (fun u hu => by
    rcases List.mem_or_eq_of_mem_set hu with hu | rfl
    · exact (h.own.fns z (List.mem_of_getElem? hz)).2.2.2 u hu
    · exact ⟨hvin.kind, hbits, hvin.depth, hvin.slot⟩)
  obtain ⟨r1, r2, r3⟩ := hw.row (by rw [List.length_set]; exact h.len)
  unfold ChgTo
  rw [if_pos rfl]
  refine ⟨rfl, A, n, c, _, ?_, r1, by rw [afvals_wrote us d.toNat i.toNat z _ hz, hL], r2, r3, hb⟩
  exact (World.cell?_of_block (a := ⟨q, 1, none⟩) (hk q (fun e => g3 e.symm))).trans h.c1
theorem AfOwn.asideQ {X : World} {v : Value} {zs : List AfS} (h : AfOwn w X v zs) {arr : Array Value} (hq : X.heap[q]? = some (.cells arr 66 (0, 0))) (hl : w.heap.size ≤ q) (o : Nat) (u : Value) : AfOwn w (X.setCell ⟨q, o, none⟩ u) v zs := by
  have ne : ∀ {base s n : Nat} {e : TypeId} {v : Value} {xs : List Value}, X.ownsRow base e s v n xs → e ≠ 66 → ∀ k, v.ownBlock = some k → (X.setCell ⟨q, o, none⟩ u).heap[k]? = X.heap[k]? := fun ho hne k hk => Below.heap_setCell _ _ _ _ (fun e => by
    obtain ⟨cur, hc⟩ := own_type ho k hk
    have e : k = q := e
    rw [e, hq] at hc
    injection hc with hc
    injection hc with _ hc _
    exact hne hc.symm)
  exact ⟨h.bel.setCell (p := ⟨q, o, none⟩) hl _, own_same h.own (ne h.own (by decide)), fun y hy => ⟨own_same (h.fns y hy).1 (ne (h.fns y hy).1 (by decide)), (h.fns y hy).2⟩, h.apart⟩
/-- A frame is pushed. -/
theorem ChgAt.push {X w6 : World} (h : ChgAt w X tp q A n c us) {D : Option Addr} {k base : Nat} {f : Int} {vs : List VlV} (hbase : w.heap.size ≤ base) (hz : X.ownsRow base 34 4 (.slice D vs.length k) vs.length (cellsAll vlcells vs)) (hold : ∀ y ∈ us, ∀ g, (Value.slice y.A y.n y.c).ownBlock = some g → g < base) (hf : in64 f) (hv : ∀ v ∈ vs, VIn v) {A6 : Option Addr} {c6 : Nat}
    (ho : w6.ownsRow w.heap.size 59 2 (.slice A6 (n + 1) c6) (n + 1) (cellsAll afcells us ++ [.int .i64 f, .slice D vs.length k])) (hg : X.grownBy w6 (Value.slice A n c).ownBlock) (L : Afs) (hL : afvals us = L) (W0 : World) :
    (w6.cell? ⟨q, 1, none⟩ = some (.slice A n c) ∧ w6.frozen? ⟨q, 1, none⟩ = false) ∧ ChgTo w W0 q L (L ++ [(f, vs)], 0) (.returned (.tuple #[])) (w6.setCell ⟨q, 1, none⟩ (.slice A6 (n + 1) c6)) := by
  have hne : some q ≠ (Value.slice A n c).ownBlock := fun e => by
    obtain ⟨cur, hc⟩ := own_type h.own.own q e.symm
    rw [h.obj] at hc
    injection hc with hc
    injection hc with _ hc _
    revert hc; decide
  have hq6 : w6.heap[q]? = _ := (hg.block q h.lt hne).trans h.obj
  have hln := h.len
  rw [← hln] at ho
  have hp := h.own.push (z := ⟨f, D, vs.length, k, vs⟩) hbase hz hold ⟨rfl, hf, hv⟩ ho hg
  have c1 : w6.cell? ⟨q, 1, none⟩ = some (.slice A n c) := by simp [World.cell?, hq6]
  refine ⟨⟨c1, by simp [World.frozen?, hq6]⟩, ?_⟩
  have hp2 := hp.asideQ hq6 h.low 1 (.slice A6 (n + 1) c6)
  obtain ⟨r1, r2, r3⟩ := hp2.row (by simp)
  unfold ChgTo
  rw [if_pos rfl]
  rw [hln] at r1 r2
  refine ⟨rfl, A6, n + 1, c6, _, World.cell?_setCell_same _ _ _ c1, r1, ?_, r2, r3, hp2.bel⟩
  rw [← hL]
  unfold afvals; rw [List.map_append]; rfl
end
end Go.Proofs.YtdcnpaodcjfdbaaGreatDoor
