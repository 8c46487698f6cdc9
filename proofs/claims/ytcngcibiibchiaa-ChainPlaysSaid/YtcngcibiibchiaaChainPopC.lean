/- What Pop and Remove of layer 8 (chain) do. -/
import Derived.Test.YtcngcibiibchiaaChainTake
import Derived.Test.YtcngcibiibchiaaChainIdx
import Derived.Deep.RegionHeld3
namespace Go.Proofs.Ytcngcibiibchiaa
open Go.RowKit
set_option linter.unusedVariables false

theorem ArTo.below {w w' : World} {B p g n : Nat} {ws : List Nat} (ha : Ar w B p g n ws) (hb : Below w.heap.size w w') : ArTo w B p g n ws w' := ⟨ha.below hb (Nat.le_refl _), below_to_grown hb _⟩
theorem len_none {w : World} {B m : Nat} {A : Option Addr} (h : Sl w B A m (([] : List Int).map iv)) : m = 0 := h.1.symm
theorem len_one {w : World} {B m : Nat} {A : Option Addr} {a : Int} {l : List Int} (h : Sl w B A m ((a :: l).map iv)) : m = l.length + 1 := by
  have := h.1
  rw [List.length_map, List.length_cons] at this
  omega
/-- Pop: the chain, the block's address, the error. -/
def ResPop (w : World) (B p g n : Nat) (r : List Nat × (Int × Int) × Int × Int) (e : Ending) (w' : World) : Prop :=
  e = .returned (.tuple #[.agg #[.int .i64 r.2.1.1, .int .i64 r.2.1.2], .int .i64 r.2.2.1, .int .i64 r.2.2.2]) ∧ ArTo w B p g n r.1 w'
/-- Push and Remove: the chain, the error. -/
def ResRem (w : World) (B p g n : Nat) (r : List Nat × (Int × Int) × Int) (e : Ending) (w' : World) : Prop :=
  e = .returned (.tuple #[.agg #[.int .i64 r.2.1.1, .int .i64 r.2.1.2], .int .i64 r.2.2]) ∧ ArTo w B p g n r.1 w'

set_option maxRecDepth 100000 in
set_option maxHeartbeats 1000000 in
theorem code_cpop {p g n : Nat} {ws : List Nat} {w : World} {B : Nat} (ha : Ar w B p g n ws) (h len : Int) (hh : in64 h) (hl : in64 len) (hw : Wide ws) :
    Calls Try.prog 12 #[.pointer (some ⟨p, 0, none⟩), .agg #[.int .i64 h, .int .i64 len]] w (ResPop w B p g n (cPop ws (h, len))) := by
  obtain ⟨W0, hW0⟩ : ∃ W0, W0 = (w.alloc (.cells #[.int .i64 h, .int .i64 len] 23)).alloc (.cells #[.int .i64 0, .int .i64 0] 23) := ⟨_, rfl⟩
  have k0 : ChSt w W0 B p g n w.heap.size (w.heap.size + 1) ws h len := by rw [hW0]; exact ChSt.start ha h len _ _
  have cl := code_clist k0.ar h len hh hl hw
  have K0 := hidb k0
  have HW0 := hidb hW0
  have hgl := ha.lt
  have HWZ : Hid (W0.heap.size = w.heap.size + 1 + 1) := hidb (by rw [hW0]; simp)
  obtain ⟨R, hR⟩ : ∃ R, cList ws (h, len) = R := ⟨_, rfl⟩
  rw [hR] at cl
  unfold ResList at cl
  have HR := hidb hR
  rcases R with _ | _ | ⟨a, l⟩
  · have HE : Hid (cPop ws (h, len) = (ws, (h, len), 0, 9)) := hidb (by unfold cPop; rw [hR])
    rw [HE.out]
    clear ha hh hl hw hW0 k0 hR
    go_enter Try.func12, Try.ntmps12
    go_wp2_with (first
      | (go_at_call 18; rw [← HW0.out]; (with_reducible refine cl.mono ?_); rintro e w1 ⟨A, m, c, out, rfl, h1, h2, h3, h4, hb1, h5⟩; have K1 := hidb (K0.out.below hb1); obtain ⟨p0, p1, r0, r1, rf0, rf1, pf0, pf1⟩ := K1.out.facts; clear hb1))
    obtain ⟨y0, y1⟩ := two_cells8 w1 (w.heap.size + 1) (.int .i64 h) (.int .i64 len) _ _ r0 r1
    refine bodyPost_ret (v := .tuple #[.agg #[.int .i64 h, .int .i64 len], .int .i64 0, .int .i64 9]) (by simp [results, Try.results12, go_sem, y0, y1]) rfl ?_
    exact ⟨rfl, K1.out.fin _ _⟩
  · have HE : Hid (cPop ws (h, len) = (ws, (h, len), 0, 6)) := hidb (by unfold cPop; rw [hR])
    rw [HE.out]
    clear ha hh hl hw hW0 k0 hR
    go_enter Try.func12, Try.ntmps12
    go_wp2_with (first
      | (go_at_call 18; rw [← HW0.out]; (with_reducible refine cl.mono ?_); rintro e w1 ⟨A, m, c, out, rfl, h1, h2, h3, h4, hb1, h5⟩; obtain rfl := h1 _ rfl; obtain rfl := len_none h3; have K1 := hidb (K0.out.below hb1); obtain ⟨p0, p1, r0, r1, rf0, rf1, pf0, pf1⟩ := K1.out.facts; clear hb1))
    obtain ⟨y0, y1⟩ := two_cells8 w1 (w.heap.size + 1) (.int .i64 h) (.int .i64 len) _ _ r0 r1
    refine bodyPost_ret (v := .tuple #[.agg #[.int .i64 h, .int .i64 len], .int .i64 0, .int .i64 6]) (by simp [results, Try.results12, go_sem, y0, y1]) rfl ?_
    exact ⟨rfl, K1.out.fin _ _⟩
  · have HE : Hid (cPop ws (h, len) = (kWords ws (a :: l) 0, (kHead ws h (a :: l) 0, len - 1), a, 0)) := hidb (by
      have := cut_eq (i := 0) hR (by simp)
      unfold cPop
      rw [hR]
      simp only
      rw [show (a :: l).getD 0 0 = a from rfl] at this
      rw [this])
    rw [HE.out]
    have hlen : (l.length : Int) + 1 = len := by have := (cList_some hR).2.2; simpa using this
    have hl60 : l.length + 1 ≤ 65536 := by
      have := nodup_le ws.length _ (cList_some hR).1 (cList_some hR).2.1
      have h1 := ha.hlen
      have h2 := ha.small
      simp only [List.length_cons] at this
      omega
    have HLEN := hidb hlen
    clear ha hh hl hw hW0 k0 hR hlen
    go_enter Try.func12, Try.ntmps12
    go_wp2_with (first
      | (go_at_call 18; rw [← HW0.out]; (with_reducible refine cl.mono ?_); rintro e w1 ⟨A, m, c, out, rfl, h1, h2, h3, h4, hb1, h5⟩; obtain rfl := h1 _ rfl; obtain rfl := len_one h3; have K1 := hidb (K0.out.below hb1); obtain ⟨p0, p1, r0, r1, rf0, rf1, pf0, pf1⟩ := K1.out.facts; have H3 := hidb h3; have H5 := hidb h5; clear hb1 h3 h5))
    obtain ⟨b, off, z, rfl, hx, hc⟩ := H3.out.int_ (j := 0) (by omega)
    obtain rfl : a = z := by simpa using hx
    rw [Nat.add_zero] at hc
    have hgs : g < W0.heap.size := Nat.lt_of_lt_of_le hgl K0.out.gr.size
    have KD := hidb (K1.out.below (Below.refl _ _).drew)
    have hsd : Sl w1.drew w1.drew.heap.size (some ⟨b, off, none⟩) (l.length + 1) ((a :: l).map iv) := H3.out.below (Below.refl w1.heap.size w1).drew
    have HSD := hidb hsd
    have cc := code_ccut KD.out.ar h len (some ⟨b, off, none⟩) (l.length + 1) c (a :: l) 0 hsd (fun ad e => by have := H5.out ad e; omega) HR.out (by omega)
    rw [show ((0 : Nat) : Int) = 0 from rfl] at cc
    have HCC : Hid (∀ w2, w1.drew.grownBy w2 (some g) → w2.cell? ⟨b, off, none⟩ = some (.int .i64 a)) := hidb (fun w2 hg => by
      obtain ⟨b2, off2, z2, e2, hx2, hc2⟩ := (HSD.out.beside hg (fun _ ad e => by have := H5.out ad e; omega)).int_ (j := 0) (by omega)
      obtain ⟨rfl, rfl⟩ : b = b2 ∧ off = off2 := by simpa using e2
      obtain rfl : a = z2 := by simpa using hx2
      exact hc2)
    have hbne : w.heap.size + 1 ≠ b := by have h6 := H5.out _ rfl; have h7 := HWZ.out; simp only at h6; omega
    have hqne : w.heap.size + 1 ≠ w.heap.size := by omega
    have hlt0 : (0 : Int) < ((l.length + 1 : Nat) : Int) := by omega
    have hlt1 : (0 : Int) < (l.length : Int) + 1 := by omega
    clear hx h1 h2 h4 hgl hgs hsd
    go_region_held3 (fun W => W.cell? ⟨w.heap.size, 0, none⟩ = some (.int .i64 h) ∧ W.cell? ⟨w.heap.size, 1, none⟩ = some (.int .i64 len) ∧ W.cell? ⟨b, off, none⟩ = some (.int .i64 a))
      (first | (go_keep; done) | (with_reducible exact ⟨by assumption, by assumption, by assumption⟩))
      (first
        | (go_at_call 31; ((with_reducible refine cc.mono ?_); rintro e w2 ⟨rfl, ha2, hg2⟩; have K2 := hidb (KD.out.step hg2 ha2); have hcc := HCC.out _ hg2; obtain ⟨s0, s1, t0, t1, tf0, tf1, sf0, sf1⟩ := K2.out.facts; have z0 := (two_aside w2 (w.heap.size + 1) w.heap.size hqne (.int .i64 (kHead ws h (a :: l) 0)) (.int .i64 (len - 1)) 0).trans s0; have z1 := (two_aside w2 (w.heap.size + 1) w.heap.size hqne (.int .i64 (kHead ws h (a :: l) 0)) (.int .i64 (len - 1)) 1).trans s1; have z2 := (two_aside w2 (w.heap.size + 1) b hbne (.int .i64 (kHead ws h (a :: l) 0)) (.int .i64 (len - 1)) off).trans hcc; clear ha2 hg2 p0 p1 r0 r1 rf0 rf1 pf0 pf1)))
    go_wp2
    obtain ⟨y0, y1⟩ := two_cells8 w2 (w.heap.size + 1) (.int .i64 (kHead ws h (a :: l) 0)) (.int .i64 (len - 1)) _ _ t0 t1
    refine bodyPost_ret (v := .tuple #[.agg #[.int .i64 (kHead ws h (a :: l) 0), .int .i64 (len - 1)], .int .i64 a, .int .i64 0]) (by simp [results, Try.results12, go_sem, y0, y1]) rfl ?_
    exact ⟨rfl, K2.out.fin _ _⟩

set_option maxRecDepth 100000 in
set_option maxHeartbeats 1000000 in
theorem code_cremove {p g n : Nat} {ws : List Nat} {w : World} {B : Nat} (ha : Ar w B p g n ws) (h len v : Int) (hh : in64 h) (hl : in64 len) (hw : Wide ws) (hv : in64 v) :
    Calls Try.prog 14 #[.pointer (some ⟨p, 0, none⟩), .agg #[.int .i64 h, .int .i64 len], .int .i64 v] w (ResRem w B p g n (cRemove ws (h, len) v)) := by
  obtain ⟨W0, hW0⟩ : ∃ W0, W0 = (w.alloc (.cells #[.int .i64 h, .int .i64 len] 23)).alloc (.cells #[.int .i64 0, .int .i64 0] 23) := ⟨_, rfl⟩
  have k0 : ChSt w W0 B p g n w.heap.size (w.heap.size + 1) ws h len := by rw [hW0]; exact ChSt.start ha h len _ _
  have cl := code_clist k0.ar h len hh hl hw
  have K0 := hidb k0
  have HW0 := hidb hW0
  have hgl := ha.lt
  have hsm := ha.small
  have hal := ha.hlen
  have HGS : Hid (g < W0.heap.size) := hidb (Nat.lt_of_lt_of_le hgl k0.gr.size)
  obtain ⟨R, hR⟩ : ∃ R, cList ws (h, len) = R := ⟨_, rfl⟩
  rw [hR] at cl
  unfold ResList at cl
  have HR := hidb hR
  rcases R with _ | l
  · have HE : Hid (cRemove ws (h, len) v = (ws, (h, len), 9)) := hidb (by unfold cRemove; rw [hR])
    rw [HE.out]
    clear ha hh hl hw hW0 k0 hR
    go_enter Try.func14, Try.ntmps14
    go_wp2_with (first
      | (go_at_call 18; rw [← HW0.out]; (with_reducible refine cl.mono ?_); rintro e w1 ⟨A, m, c, out, rfl, h1, h2, h3, h4, hb1, h5⟩; have K1 := hidb (K0.out.below hb1); obtain ⟨p0, p1, r0, r1, rf0, rf1, pf0, pf1⟩ := K1.out.facts; clear hb1))
    obtain ⟨y0, y1⟩ := two_cells8 w1 (w.heap.size + 1) (.int .i64 h) (.int .i64 len) _ _ r0 r1
    refine bodyPost_ret (v := .tuple #[.agg #[.int .i64 h, .int .i64 len], .int .i64 9]) (by simp [results, Try.results14, go_sem, y0, y1]) rfl ?_
    exact ⟨rfl, K1.out.fin _ _⟩
  · have hl60 : l.length ≤ 65536 := by
      have := nodup_le ws.length _ (cList_some hR).1 (cList_some hR).2.1
      omega
    clear ha hh hl hw hW0 k0 hR hgl hsm hal
    go_enter Try.func14, Try.ntmps14
    go_wp2_with (first
      | (go_at_call 18; rw [← HW0.out]; (with_reducible refine cl.mono ?_); rintro e w1 ⟨A, m, c, out, rfl, h1, h2, h3, h4, hb1, h5⟩; obtain rfl := h1 _ rfl; have K1 := hidb (K0.out.below hb1); have H3 := hidb h3; have H5 := hidb h5; have ci := code_ixint A m c out v w1 h3 (by have := h3.1; rw [List.length_map] at this; omega); obtain ⟨p0, p1, r0, r1, rf0, rf1, pf0, pf1⟩ := K1.out.facts; clear hb1 h3 h5)
      | (go_at_call 32; (with_reducible refine ci.mono ?_)))
    rintro e w' ⟨⟨r, rfl, hr⟩, rfl⟩
    rcases hr with ⟨hn, rfl⟩ | ⟨i, hi, rfl, hx⟩
    · have HE : Hid (cRemove ws (h, len) v = (ws, (h, len), 6)) := hidb (by unfold cRemove; rw [HR.out]; simp only; rw [if_neg hn])
      clear hn ci
      go_wp2
      obtain ⟨y0, y1⟩ := two_cells8 w1 (w.heap.size + 1) (.int .i64 h) (.int .i64 len) _ _ r0 r1
      refine bodyPost_ret (v := .tuple #[.agg #[.int .i64 h, .int .i64 len], .int .i64 6]) (by simp [results, Try.results14, go_sem, y0, y1]) rfl ?_
      rw [HE.out]
      exact ⟨rfl, K1.out.fin _ _⟩
    · have hga : out.getD i 0 = v := by rw [List.getD_eq_getElem?_getD, hx]; rfl
      have hlm : out.length = m := by have := H3.out.1; simpa using this
      have HE : Hid (cRemove ws (h, len) v = (kWords ws out i, (kHead ws h out i, len - 1), 0)) := hidb (by
        have := cut_eq (i := i) HR.out (by omega)
        rw [hga] at this
        unfold cRemove
        rw [HR.out]
        simp only
        rw [if_pos (List.mem_of_getElem? hx), this])
      have cc := code_ccut K1.out.ar h len A m c out i H3.out (fun ad e => by have := H5.out ad e; have := HGS.out; omega) HR.out hi
      have hi0 : ¬ (i : Int) < 0 := by omega
      clear hx hga hlm ci
      go_wp2_with (first
        | (go_at_call 31; (with_reducible refine cc.mono ?_); rintro e w2 ⟨rfl, ha2, hg2⟩; have K2 := hidb (K1.out.step hg2 ha2); obtain ⟨s0, s1, t0, t1, tf0, tf1, sf0, sf1⟩ := K2.out.facts; clear ha2 hg2 p0 p1 r0 r1 rf0 rf1 pf0 pf1))
      obtain ⟨y0, y1⟩ := two_cells8 w2 (w.heap.size + 1) (.int .i64 (kHead ws h out i)) (.int .i64 (len - 1)) _ _ t0 t1
      refine bodyPost_ret (v := .tuple #[.agg #[.int .i64 (kHead ws h out i), .int .i64 (len - 1)], .int .i64 0]) (by simp [results, Try.results14, go_sem, y0, y1]) rfl ?_
      rw [HE.out]
      exact ⟨rfl, K2.out.fin _ _⟩

end Go.Proofs.Ytcngcibiibchiaa
