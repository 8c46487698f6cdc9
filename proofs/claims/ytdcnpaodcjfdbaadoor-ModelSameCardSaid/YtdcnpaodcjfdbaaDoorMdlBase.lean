/- Several texts in one: MdlMath, MdlRef, MdlSame, MdlGet, MdlWith, MdlSet, MdlCall, MdlCalc, MdlLaw. -/
import Derived.Test.YtdcnpaodcjfdbaaDoorSlsAll
import Derived.Test.YtdcnpaodcjfdbaaDoorAppendRow
import Derived.Test.YtdcnpaodcjfdbaaDoorFloatCalc
/- Frames without addresses (layer 19): plain functions, and where rows of them lie. -/
namespace Go.Proofs.YtdcnpaodcjfdbaaDoor
open Go.RowKit
set_option linter.unusedVariables false

abbrev Afs := List (Int × List VlV)
/-- The values of one frame. -/
def afAt (L : Afs) (d : Nat) : List VlV := (L.getD d (0, [])).2
/-- Is there a slot? -/
def mdHas (L : Afs) (d i : Int) : Bool := decide (0 ≤ d ∧ d < (L.length : Int) ∧ 0 ≤ i ∧ i < ((afAt L d.toNat).length : Int))
/-- May a value be in a slot that is there? The error's number. -/
def mdFits (l : Fns) (L : Afs) (d : Nat) (i : Int) (v : VlV) : Int :=
  if vMay v = false then 1 else if fPtr l (L.getD d (0, [])).1 i = decide (v.kind = 1) then 5 else if v.kind = 2 ∧ mdHas L v.depth v.slot = false then 2 else if v.kind = 2 ∧ (d : Int) < v.depth then 7 else 0
/-- Has each frame as many slots as its function? -/
def mdSized (l : Fns) (L : Afs) : Bool := L.all fun x => decide (fSize l x.1 = (x.2.length : Int))
/-- May each value be? -/
def mdFit (l : Fns) (L : Afs) (d : Nat) : Bool := (List.range (afAt L d).length).all fun (i : Nat) => decide (mdFits l L d i ((afAt L d).getD i vl0) = 0)
/-- Is it right? -/
def mdRight (l : Fns) (L : Afs) : Bool := mdSized l L && (List.range L.length).all fun d => mdFit l L d
/-- How many words it takes. -/
def mdWords (l : Fns) (L : Afs) : Int := L.foldl (fun n x => n + fWords l x.1) 0
/-- More than is gone through? -/
def mdGreat (L : Afs) : Bool := decide (30 < L.length) || L.any fun x => decide (100 < x.2.length)

/-- A frame, and where its values lie. -/
structure AfS where
  fn : Int
  A : Option Addr
  n : Nat
  c : Nat
  vs : List VlV
def afcells (z : AfS) : List Value := [.int .i64 z.fn, .slice z.A z.n z.c]
theorem afcells_len (z : AfS) : (afcells z).length = 2 := rfl
def afvals (zs : List AfS) : Afs := zs.map fun z => (z.fn, z.vs)
/-- What a value's numbers are. -/
structure VIn (v : VlV) : Prop where
  kind : v.kind < 256
  bits : v.bits < 18446744073709551616
  depth : in64 v.depth
  slot : in64 v.slot
/-- A frame's values lie below B. -/
structure AfOk (w : World) (B : Nat) (z : AfS) : Prop where
  vals : VlRow w B z.A z.n z.vs
  fn : in64 z.fn
  cap : z.n ≤ z.c
  max : z.c ≤ 9223372036854775807
  vin : ∀ v ∈ z.vs, VIn v
/-- The slice value '.slice A n c' has these frames. -/
structure AfRow (w : World) (B : Nat) (A : Option Addr) (n : Nat) (zs : List AfS) : Prop where
  row : RowOf (fun cs z => cs = afcells z) 2 w B A n zs
  each : ∀ z ∈ zs, AfOk w B z
theorem afvals_length (zs : List AfS) : (afvals zs).length = zs.length := by unfold afvals; simp
theorem afvals_at {zs : List AfS} {d : Nat} {z : AfS} (h : zs[d]? = some z) : (afvals zs).getD d (0, []) = (z.fn, z.vs) := by
  unfold afvals; rw [List.getD_eq_getElem?_getD, List.getElem?_map, h]; rfl
theorem afAt_at {zs : List AfS} {d : Nat} {z : AfS} (h : zs[d]? = some z) : afAt (afvals zs) d = z.vs := by unfold afAt; rw [afvals_at h]
section
variable {w w' : World} {B B' n : Nat} {A : Option Addr} {zs : List AfS} {z : AfS}
theorem AfOk.below (h : AfOk w B z) (hb : Below B w w') : AfOk w' B z := ⟨h.vals.below hb, h.fn, h.cap, h.max, h.vin⟩
theorem AfOk.more (h : AfOk w B z) (hB : B ≤ B') : AfOk w B' z := ⟨h.vals.more hB, h.fn, h.cap, h.max, h.vin⟩
theorem AfOk.small (h : AfOk w B z) : z.n ≤ 9223372036854775807 := Nat.le_trans h.cap h.max
theorem AfOk.len (h : AfOk w B z) : z.vs.length = z.n := h.vals.len
theorem AfRow.len (h : AfRow w B A n zs) : zs.length = n := h.row.1
theorem AfRow.below (h : AfRow w B A n zs) (hb : Below B w w') : AfRow w' B A n zs := ⟨RowOf.below h.row hb, fun z hz => (h.each z hz).below hb⟩
theorem AfRow.more (h : AfRow w B A n zs) (hB : B ≤ B') : AfRow w B' A n zs := ⟨RowOf.more h.row hB, fun z hz => (h.each z hz).more hB⟩
theorem AfRow.step (h : AfRow w w.heap.size A n zs) (hb : Below w.heap.size w w') : AfRow w' w'.heap.size A n zs := (h.below hb).more hb.size
theorem AfRow.at_ (h : AfRow w B A n zs) {j : Nat} (hj : j < n) : ∃ b off z, A = some ⟨b, off, none⟩ ∧ b < B ∧ zs[j]? = some z ∧ w.cell? ⟨b, off + j * 2, none⟩ = some (.int .i64 z.fn) ∧ w.cell? ⟨b, off + j * 2 + 1, none⟩ = some (.slice z.A z.n z.c) ∧ AfOk w B z := by
  obtain ⟨b, off, z, cs, e, hb, hz, _, hc, rfl⟩ := RowOf.at_ h.row hj
  exact ⟨b, off, z, e, hb, hz, hc 0 (by omega), hc 1 (by omega), h.each z (List.mem_of_getElem? hz)⟩
theorem AfOk.at_ (h : AfOk w B z) {j : Nat} (hj : j < z.n) : ∃ b off v, z.A = some ⟨b, off, none⟩ ∧ b < B ∧ z.vs[j]? = some v ∧ VIn v ∧ w.cell? ⟨b, off + j * 4, none⟩ = some (.int .u8 v.kind) ∧ w.cell? ⟨b, off + j * 4 + 1, none⟩ = some (.int .u64 v.bits) ∧ w.cell? ⟨b, off + j * 4 + 2, none⟩ = some (.int .i64 v.depth) ∧ w.cell? ⟨b, off + j * 4 + 3, none⟩ = some (.int .i64 v.slot) := by
  obtain ⟨b, off, v, e, hb, hv, h0, h1, h2, h3⟩ := h.vals.at_ hj
  exact ⟨b, off, v, e, hb, hv, h.vin v (List.mem_of_getElem? hv), h0, h1, h2, h3⟩
end
theorem mdHas_out {L : Afs} {d i : Int} (h : d < 0 ∨ (L.length : Int) ≤ d ∨ i < 0) : mdHas L d i = false := by unfold mdHas; exact decide_eq_false (by omega)
theorem mdHas_in {zs : List AfS} {d i : Int} {z : AfS} (h : zs[d.toNat]? = some z) (hd : 0 ≤ d) (hi : 0 ≤ i) : mdHas (afvals zs) d i = decide (i < (z.vs.length : Int)) := by
  unfold mdHas
  rw [afAt_at h, decide_eq_decide, afvals_length]
  have := (List.getElem?_eq_some_iff.1 h).1
  omega
theorem mdRight_iff {l : Fns} {L : Afs} : mdRight l L = true ↔ mdSized l L = true ∧ ∀ d, d < L.length → mdFit l L d = true := by
  unfold mdRight
  rw [Bool.and_eq_true, List.all_eq_true]
  simp only [List.mem_range]
theorem mdFit_iff {l : Fns} {L : Afs} {d : Nat} : mdFit l L d = true ↔ ∀ i : Nat, i < (afAt L d).length → mdFits l L d i ((afAt L d).getD i vl0) = 0 := by
  unfold mdFit
  rw [List.all_eq_true]
  simp only [List.mem_range, decide_eq_true_iff]
theorem mdSized_iff {l : Fns} {L : Afs} : mdSized l L = true ↔ ∀ x ∈ L, fSize l x.1 = (x.2.length : Int) := by
  unfold mdSized
  rw [List.all_eq_true]
  simp only [decide_eq_true_iff]
theorem mdSized_take (l : Fns) (L : Afs) (j : Nat) (x : Int × List VlV) (h : L[j]? = some x) : mdSized l (L.take (j + 1)) = (mdSized l (L.take j) && decide (fSize l x.1 = (x.2.length : Int))) := by
  unfold mdSized
  rw [List.take_add_one, h, List.all_append]; simp
theorem mdWords_take (l : Fns) (L : Afs) (j : Nat) (x : Int × List VlV) (h : L[j]? = some x) : mdWords l (L.take (j + 1)) = mdWords l (L.take j) + fWords l x.1 := by
  unfold mdWords
  rw [List.take_add_one, h, List.foldl_append]; rfl
end Go.Proofs.YtdcnpaodcjfdbaaDoor

/- What the document's own functions of layer 19 (model) return: has, Great, Words, Fits. -/
namespace Go.Proofs.YtdcnpaodcjfdbaaDoor
open Go.RowKit
set_option linter.unusedVariables false

section
variable {w : World} {A : Option Addr} {n c B : Nat} {zs : List AfS}
theorem ref_mdhas (h : AfRow w B A n zs) (hn : n ≤ 9223372036854775806) (d i : Int) (hd : in64 d) (hi : in64 i) (b : Bool) (hb : mdHas (afvals zs) d i = b) :
    Calls Tryd.prog 43 #[.slice A n c, .int .i64 d, .int .i64 i] w fun e w' => e = .returned (.bool b) ∧ w = w' := by
  have hlen : ((afvals zs).length : Int) = (n : Int) := by rw [afvals_length, h.len]
  unfold in64 at hd hi
  by_cases h1 : d < 0
  · rw [mdHas_out (Or.inl h1)] at hb
    subst hb
    clear h hlen
    --@1
    go_enter Tryd.func43, Tryd.ntmps43
    go_wp2
    go_ret
    exact ⟨rfl, rfl⟩
  by_cases h2 : (n : Int) ≤ d
  · rw [mdHas_out (Or.inr (Or.inl (by omega)))] at hb
    subst hb
    clear h hlen
    --@2
    go_enter Tryd.func43, Tryd.ntmps43
    go_wp2
    go_ret
    exact ⟨rfl, rfl⟩
  by_cases h3 : i < 0
  · rw [mdHas_out (Or.inr (Or.inr h3))] at hb
    subst hb
    clear h hlen
    --@3
    go_enter Tryd.func43, Tryd.ntmps43
    go_wp2
    go_ret
    exact ⟨rfl, rfl⟩
  obtain ⟨bb, off, z, rfl, hbl, hx, hc0, hc1, hok⟩ := h.at_ (j := d.toNat) (by omega)
  rw [mdHas_in hx (by omega) (by omega), hok.len] at hb
  have hsm := hok.small
  obtain ⟨zf, zA, zn, zc, zvs⟩ := z
  simp only at *
  have f1 : d < (n : Int) := by omega
  have f2 : 0 ≤ d := by omega
  have f3 : 0 ≤ i := by omega
  clear h hlen hx hok hc0
  --@4
  go_enter Tryd.func43, Tryd.ntmps43
  go_wp2
  go_ret
  exact ⟨by (first | exact congrArg Ending.returned (congrArg Value.bool hb) | (rw [← hb]; rfl)), rfl⟩

theorem ref_mdgreat (hs : AfRow w B A n zs) (hn : n ≤ 9223372036854775807) :
    Calls Tryd.prog 8 #[.slice A n c] w fun e w' => e = .returned (.bool (mdGreat (afvals zs))) ∧ w = w' := by
  have hl := hs.len
  by_cases hbig : 30 < n
  · have E : mdGreat (afvals zs) = true := by unfold mdGreat; rw [afvals_length, hl, decide_eq_true hbig]; rfl
    rw [E]
    clear hs E hl
    --@5
    go_enter Tryd.func8, Tryd.ntmps8
    go_wp2
    go_ret
    exact ⟨rfl, rfl⟩
  · have E0 : mdGreat (afvals zs) = (afvals zs).any fun x => decide (100 < x.2.length) := by unfold mdGreat; rw [afvals_length, hl, decide_eq_false hbig]; rfl
    have HE := hidb E0
    have HS := hidb hs
    have HL := hidb hl
    clear hs E0 hl
    --@6
    go_enter Tryd.func8, Tryd.ntmps8
    go_wp2
    go_loop [9] (fun k => ∃ j : Nat, j ≤ n ∧ Hid (∀ i y, i < j → zs[i]? = some y → ¬ 100 < y.vs.length) ∧ k = .int .i64 j) (fun k => (n - intOf k).toNat)
    case atStart => exact ⟨0, by omega, hidb (fun i y h => absurd h (Nat.not_lt_zero _)), rfl⟩
    case round =>
      obtain ⟨j, hj, HA, rfl⟩ := hrel
      by_cases hlt : j < n
      · obtain ⟨b, off, y, rfl, _, hy, hc0, hc1, hok⟩ := HS.out.at_ hlt
        have HY := hidb hy
        have hyl := hok.len
        have hsm := hok.small
        have HYL := hidb hyl
        clear hy hok hyl
        by_cases hb : 100 < y.n
        · have HF : Hid (mdGreat (afvals zs) = true) := hidb (by
            rw [HE.out, List.any_eq_true]
            exact ⟨(y.fn, y.vs), List.mem_map.2 ⟨y, List.mem_of_getElem? HY.out, rfl⟩, decide_eq_true (by show 100 < y.vs.length; rw [HYL.out]; exact hb)⟩)
          go_wp2
          go_ret
          exact ⟨by rw [HF.out]; rfl, rfl⟩
        · go_wp2
          go_round
          case rel =>
            refine ⟨j + 1, by omega, hidb (fun i z hi hz => ?_), by go_num⟩
            by_cases e : i = j
            · subst e
              rw [HY.out] at hz
              obtain rfl := Option.some.inj hz
              rw [HYL.out]; exact hb
            · exact HA.out i z (by omega) hz
          case measure => simp [intOf]; omega
      · have HF : Hid (mdGreat (afvals zs) = false) := hidb (by
          rw [HE.out, List.any_eq_false]
          intro f hf
          obtain ⟨y, hy, rfl⟩ := List.mem_map.1 hf
          obtain ⟨i, hi, rfl⟩ := List.getElem_of_mem hy
          have := HA.out i _ (by have := HL.out; omega) (List.getElem?_eq_getElem hi)
          exact fun c => this (of_decide_eq_true c))
        go_wp2
        go_ret
        exact ⟨by rw [HF.out]; rfl, rfl⟩

variable {A2 : Option Addr} {n2 c2 lo' hi' : Nat} {ys : List FnV}
theorem mdWords_range (l : Fns) (hl : ∀ x ∈ l, 0 ≤ x.1 ∧ x.1 ≤ 1000) (L : Afs) (j : Nat) : -(j : Int) ≤ mdWords l (L.take j) ∧ mdWords l (L.take j) ≤ 1002 * (j : Int) := by
  induction j with
  | zero => rw [List.take_zero]; unfold mdWords; simp
  | succ j ih =>
    cases h : L[j]? with
    | none =>
      have : L.length ≤ j := List.getElem?_eq_none_iff.1 h
      rw [List.take_of_length_le this] at ih
      rw [List.take_of_length_le (show L.length ≤ j + 1 by omega)]
      omega
    | some x =>
      rw [mdWords_take l L j x h]
      have := fSize_range hl x.1
      unfold fWords
      split <;> omega
theorem ref_mdfits (hs : AfRow w w.heap.size A n zs) (hn : n ≤ 1000000) (hr : FnRow w lo' hi' A2 n2 ys) (hhi : hi' ≤ w.heap.size) (hn2 : n2 ≤ 1000) (hl : ∀ x ∈ vals ys, 0 ≤ x.1 ∧ x.1 ≤ 1000) (d : Nat) (hd : d < n) (i : Int) (hi : in64 i) (v : VlV) (hv : VIn v) :
    Calls Tryd.prog 20 #[.slice A2 n2 c2, .slice A n c, .int .i64 d, .int .i64 i, vlC v] w fun e w' => e = .returned (.int .i64 (mdFits (vals ys) (afvals zs) d i v)) ∧ Below w.heap.size w w' := by
  obtain ⟨b, off, z, rfl, hbl, hx, hc0, _, hok⟩ := hs.at_ hd
  have hfn := hok.fn
  have hg := afvals_at hx
  obtain ⟨fn, hfe⟩ : ∃ fn, z.fn = fn := ⟨_, rfl⟩
  rw [hfe] at hc0 hg hfn
  obtain ⟨P, hP⟩ : ∃ P, fPtr (vals ys) fn i = P := ⟨_, rfl⟩
  have E0 : mdFits (vals ys) (afvals zs) d i v = if vMay v = false then 1 else if P = decide (v.kind = 1) then 5 else if v.kind = 2 ∧ mdHas (afvals zs) v.depth v.slot = false then 2 else if v.kind = 2 ∧ (d : Int) < v.depth then 7 else 0 := by
    unfold mdFits; rw [hg, hP]
  rw [E0]
  have cm := ref_slmay v hv.kind hv.bits (w.alloc (.cells #[.int .u8 (v.kind : Int), .int .u64 (v.bits : Int), .int .i64 v.depth, .int .i64 v.slot] 26)) _ rfl
  have hb0 := belF_al (Below.refl w.heap.size w) (.cells #[.int .u8 (v.kind : Int), .int .u64 (v.bits : Int), .int .i64 v.depth, .int .i64 v.slot] 26)
  have ch := fun W (hb : Below w.heap.size w W) => ref_mdhas (c := c) (hs.below hb) (by omega) v.depth v.slot hv.depth hv.slot _ rfl
  obtain ⟨k, vb, vd, vi⟩ := v
  obtain ⟨hk, hvb, hvd, hvi⟩ := hv
  unfold vlC at *
  simp only at *
  have hsz : (w.alloc (.cells #[.int .u8 (k : Int), .int .u64 (vb : Int), .int .i64 vd, .int .i64 vi] 26)).heap.size = w.heap.size + 1 := by simp
  have HB := hidb hb0
  have CH := hidb ch
  have HC : Hid (∀ W, Below (w.alloc (.cells #[.int .u8 (k : Int), .int .u64 (vb : Int), .int .i64 vd, .int .i64 vi] 26)).heap.size (w.alloc (.cells #[.int .u8 (k : Int), .int .u64 (vb : Int), .int .i64 vd, .int .i64 vi] 26)) W → W.cell? ⟨b, off + d * 2, none⟩ = some (.int .i64 fn) ∧ W.cell? ⟨w.heap.size, 0, none⟩ = some (.int .u8 (k : Int)) ∧ W.cell? ⟨w.heap.size, 2, none⟩ = some (.int .i64 vd) ∧ W.cell? ⟨w.heap.size, 3, none⟩ = some (.int .i64 vi)) := hidb (fun W hb => by
    have h1 : w.heap.size < (w.alloc (.cells #[.int .u8 (k : Int), .int .u64 (vb : Int), .int .i64 vd, .int .i64 vi] 26)).heap.size := by omega
    exact ⟨((belF_tr hb0 hb).cell (p := ⟨b, off + d * 2, none⟩) hbl).trans hc0, (hb.cell (p := ⟨w.heap.size, 0, none⟩) h1).trans (by simp), (hb.cell (p := ⟨w.heap.size, 2, none⟩) h1).trans (by simp), (hb.cell (p := ⟨w.heap.size, 3, none⟩) h1).trans (by simp)⟩)
  have CP : Hid (∀ W, Below (w.alloc (.cells #[.int .u8 (k : Int), .int .u64 (vb : Int), .int .i64 vd, .int .i64 vi] 26)).heap.size (w.alloc (.cells #[.int .u8 (k : Int), .int .u64 (vb : Int), .int .i64 vd, .int .i64 vi] 26)) W → ∀ q, Calls Tryd.prog 42 #[.slice A2 n2 c2, .int .i64 fn, .int .i64 i] (W.drewN q) fun e w'' => e = .returned (.bool P) ∧ ∃ m, w'' = W.drewN m) := hidb (fun W hb q => by
    have := ref_fptrR A2 n2 c2 ys lo' hi' (W.drewN q) fn i ((hr.below ((belF_tr hb0 hb).mono hhi)).drewN q) hn2 hi (fun x hx => (hl x hx).1)
    rw [hP] at this
    exact this.mono fun e w' ⟨h1, h2⟩ => ⟨h1, q, h2.symm⟩)
  have hi0 : (0 : Int) ≤ (d : Int) := by omega
  have hi1 : (d : Int) < (n : Int) := by omega
  obtain ⟨H, hH⟩ : ∃ H, mdHas (afvals zs) vd vi = H := ⟨_, rfl⟩
  rw [hH] at CH ⊢
  clear hs hr hl hx hc0 hok hg hfe hP E0 hb0 ch hH hhi hfn
  cases hm : vMay ⟨k, vb, vd, vi⟩ with
  | false =>
    rw [hm] at cm
    rw [if_pos rfl]
    clear hm
    --@8
    go_enter Tryd.func20, Tryd.ntmps20
    go_wp2_with (first | (go_at_call 41; (with_reducible refine cm.mono ?_); rintro e w1 ⟨rfl, hb1⟩))
    go_ret
    exact ⟨rfl, belF_tr HB.out hb1⟩
  | true =>
    rw [hm] at cm
    rw [if_neg (by simp)]
    clear hm
    by_cases h5 : P = decide (k = 1)
    · rw [if_pos h5]
      have eb : (P == ((k : Int) == 1)) = true := by rw [h5]; by_cases e : k = 1 <;> simp [e] <;> omega
      clear h5
      --@9
      go_enter Tryd.func20, Tryd.ntmps20
      go_wp2_with (first | (go_at_call 41; (with_reducible refine cm.mono ?_); rintro e w1 ⟨rfl, hb1⟩; have HB1 := hidb hb1; obtain ⟨q0, q1, q2, q3⟩ := HC.out _ hb1; have cp := CP.out _ hb1; clear hb1))
      go_quiet (first | (go_at_call 42; (with_reducible exact cp _)))
      obtain ⟨wz, hwz⟩ : ∃ wz, wz = w1.drewN nq := ⟨_, rfl⟩
      have HBZ : Hid (Below (w.alloc (.cells #[.int .u8 (k : Int), .int .u64 (vb : Int), .int .i64 vd, .int .i64 vi] 26)).heap.size (w.alloc (.cells #[.int .u8 (k : Int), .int .u64 (vb : Int), .int .i64 vd, .int .i64 vi] 26)) wz) := hidb (by rw [hwz]; exact belowN HB1.out _)
      rw [← hwz]
      clear hwz q0 q1 q2 q3 cp
      obtain ⟨q0, q1, q2, q3⟩ := HC.out _ HBZ.out
      go_wp2
      go_ret
      exact ⟨rfl, belF_tr HB.out HBZ.out⟩
    · rw [if_neg h5]
      have eb : (P == ((k : Int) == 1)) = false := by
        by_cases e : k = 1
        · cases P <;> simp_all
        · have : ¬ (k : Int) = 1 := by omega
          cases P <;> simp_all
      clear h5
      by_cases h2 : k = 2
      · have h2b : ((k : Int) == 2) = true := by simp; omega
        cases H with
        | false =>
          rw [if_pos ⟨h2, rfl⟩]
          clear h2
          --@10
          go_enter Tryd.func20, Tryd.ntmps20
          go_wp2_with (first | (go_at_call 41; (with_reducible refine cm.mono ?_); rintro e w1 ⟨rfl, hb1⟩; have HB1 := hidb hb1; obtain ⟨q0, q1, q2, q3⟩ := HC.out _ hb1; have cp := CP.out _ hb1; clear hb1))
          go_quiet (first | (go_at_call 42; (with_reducible exact cp _)))
          obtain ⟨wz, hwz⟩ : ∃ wz, wz = w1.drewN nq := ⟨_, rfl⟩
          have HBZ : Hid (Below (w.alloc (.cells #[.int .u8 (k : Int), .int .u64 (vb : Int), .int .i64 vd, .int .i64 vi] 26)).heap.size (w.alloc (.cells #[.int .u8 (k : Int), .int .u64 (vb : Int), .int .i64 vd, .int .i64 vi] 26)) wz) := hidb (by rw [hwz]; exact belowN HB1.out _)
          rw [← hwz]
          clear hwz q0 q1 q2 q3 cp
          obtain ⟨q0, q1, q2, q3⟩ := HC.out _ HBZ.out
          go_wp2_with (first | (go_at_call 43; (with_reducible refine (CH.out _ (belF_tr HB.out HBZ.out)).mono ?_); rintro e w3 ⟨rfl, rfl⟩))
          go_ret
          exact ⟨rfl, belF_tr HB.out HBZ.out⟩
        | true =>
          rw [if_neg (by simp)]
          by_cases h7 : (d : Int) < vd
          · rw [if_pos ⟨h2, h7⟩]
            clear h2
            --@11
            go_enter Tryd.func20, Tryd.ntmps20
            go_wp2_with (first | (go_at_call 41; (with_reducible refine cm.mono ?_); rintro e w1 ⟨rfl, hb1⟩; have HB1 := hidb hb1; obtain ⟨q0, q1, q2, q3⟩ := HC.out _ hb1; have cp := CP.out _ hb1; clear hb1))
            go_quiet (first | (go_at_call 42; (with_reducible exact cp _)))
            obtain ⟨wz, hwz⟩ : ∃ wz, wz = w1.drewN nq := ⟨_, rfl⟩
            have HBZ : Hid (Below (w.alloc (.cells #[.int .u8 (k : Int), .int .u64 (vb : Int), .int .i64 vd, .int .i64 vi] 26)).heap.size (w.alloc (.cells #[.int .u8 (k : Int), .int .u64 (vb : Int), .int .i64 vd, .int .i64 vi] 26)) wz) := hidb (by rw [hwz]; exact belowN HB1.out _)
            rw [← hwz]
            clear hwz q0 q1 q2 q3 cp
            obtain ⟨q0, q1, q2, q3⟩ := HC.out _ HBZ.out
            go_wp2_with (first | (go_at_call 43; (with_reducible refine (CH.out _ (belF_tr HB.out HBZ.out)).mono ?_); rintro e w3 ⟨rfl, rfl⟩))
            go_ret
            exact ⟨rfl, belF_tr HB.out HBZ.out⟩
          · rw [if_neg (fun h => h7 h.2)]
            clear h2
            --@12
            go_enter Tryd.func20, Tryd.ntmps20
            go_wp2_with (first | (go_at_call 41; (with_reducible refine cm.mono ?_); rintro e w1 ⟨rfl, hb1⟩; have HB1 := hidb hb1; obtain ⟨q0, q1, q2, q3⟩ := HC.out _ hb1; have cp := CP.out _ hb1; clear hb1))
            go_quiet (first | (go_at_call 42; (with_reducible exact cp _)))
            obtain ⟨wz, hwz⟩ : ∃ wz, wz = w1.drewN nq := ⟨_, rfl⟩
            have HBZ : Hid (Below (w.alloc (.cells #[.int .u8 (k : Int), .int .u64 (vb : Int), .int .i64 vd, .int .i64 vi] 26)).heap.size (w.alloc (.cells #[.int .u8 (k : Int), .int .u64 (vb : Int), .int .i64 vd, .int .i64 vi] 26)) wz) := hidb (by rw [hwz]; exact belowN HB1.out _)
            rw [← hwz]
            clear hwz q0 q1 q2 q3 cp
            obtain ⟨q0, q1, q2, q3⟩ := HC.out _ HBZ.out
            go_wp2_with (first | (go_at_call 43; (with_reducible refine (CH.out _ (belF_tr HB.out HBZ.out)).mono ?_); rintro e w3 ⟨rfl, rfl⟩))
            go_ret
            exact ⟨rfl, belF_tr HB.out HBZ.out⟩
      · rw [if_neg (fun h => h2 h.1), if_neg (fun h => h2 h.1)]
        have h2b : ((k : Int) == 2) = false := by simp; omega
        clear h2
        --@13
        go_enter Tryd.func20, Tryd.ntmps20
        go_wp2_with (first | (go_at_call 41; (with_reducible refine cm.mono ?_); rintro e w1 ⟨rfl, hb1⟩; have HB1 := hidb hb1; obtain ⟨q0, q1, q2, q3⟩ := HC.out _ hb1; have cp := CP.out _ hb1; clear hb1))
        go_quiet (first | (go_at_call 42; (with_reducible exact cp _)))
        obtain ⟨wz, hwz⟩ : ∃ wz, wz = w1.drewN nq := ⟨_, rfl⟩
        have HBZ : Hid (Below (w.alloc (.cells #[.int .u8 (k : Int), .int .u64 (vb : Int), .int .i64 vd, .int .i64 vi] 26)).heap.size (w.alloc (.cells #[.int .u8 (k : Int), .int .u64 (vb : Int), .int .i64 vd, .int .i64 vi] 26)) wz) := hidb (by rw [hwz]; exact belowN HB1.out _)
        rw [← hwz]
        clear hwz q0 q1 q2 q3 cp
        obtain ⟨q0, q1, q2, q3⟩ := HC.out _ HBZ.out
        go_wp2
        go_ret
        exact ⟨rfl, belF_tr HB.out HBZ.out⟩

theorem mdRight_size {l : Fns} {L : Afs} {x : Int × List VlV} (h : x ∈ L) (he : fSize l x.1 ≠ (x.2.length : Int)) : mdRight l L = false := by
  cases hr : mdRight l L with
  | false => rfl
  | true => exact absurd (mdSized_iff.1 (mdRight_iff.1 hr).1 x h) he
theorem mdRight_bad {l : Fns} {L : Afs} {d i : Nat} {v : VlV} (hd : d < L.length) (hi : (afAt L d)[i]? = some v) (he : mdFits l L d i v ≠ 0) : mdRight l L = false := by
  cases hr : mdRight l L with
  | false => rfl
  | true =>
    have hlt := (List.getElem?_eq_some_iff.1 hi).1
    have := mdFit_iff.1 ((mdRight_iff.1 hr).2 d hd) i hlt
    rw [List.getD_eq_getElem?_getD, hi] at this
    exact absurd this he
theorem afvals_mem {zs : List AfS} {j : Nat} {z : AfS} (h : zs[j]? = some z) : (z.fn, z.vs) ∈ afvals zs := List.mem_map.2 ⟨z, List.mem_of_getElem? h, rfl⟩

theorem ref_mdright (hs : AfRow w w.heap.size A n zs) (hn : n ≤ 1000000) (hr : FnRow w lo' hi' A2 n2 ys) (hhi : hi' ≤ w.heap.size) (hn2 : n2 ≤ 1000) (hl : ∀ x ∈ vals ys, 0 ≤ x.1 ∧ x.1 ≤ 1000) :
    Calls Tryd.prog 10 #[.slice A2 n2 c2, .slice A n c] w fun e w' => e = .returned (.bool (mdRight (vals ys) (afvals zs))) ∧ Below w.heap.size w w' := by
  have HS := hidb hs
  have HLN := hidb hs.len
  have KS : Hid (∀ f, Calls Tryd.prog 19 #[.slice A2 n2 c2, .int .i64 f] w fun e w' => e = .returned (.int .i64 (fSize (vals ys) f)) ∧ w = w') := hidb (fun f => ref_fsize A2 n2 c2 ys lo' hi' w f hr hn2)
  have KF : Hid (∀ W d (i : Int) v, Below w.heap.size w W → d < n → in64 i → VIn v → Calls Tryd.prog 20 #[.slice A2 n2 c2, .slice A n c, .int .i64 (d : Nat), .int .i64 i, vlC v] W fun e w' => e = .returned (.int .i64 (mdFits (vals ys) (afvals zs) d i v)) ∧ Below W.heap.size W w') := hidb (fun W d i v hb hd hi hv =>
    ref_mdfits (hs.step hb) hn (hr.below (hb.mono hhi)) (Nat.le_trans hhi hb.size) hn2 hl d hd i hi v hv)
  have PF : Hid (∀ W r, Below w.heap.size w W → mdRight (vals ys) (afvals zs) = r → (Ending.returned (.bool r) = Ending.returned (.bool (mdRight (vals ys) (afvals zs))) ∧ Below w.heap.size w W)) := hidb (fun W r hb h => ⟨by rw [h], hb⟩)
  clear hs hr hl
  --@14
  go_enter Tryd.func10, Tryd.ntmps10
  go_wp2
  go_loopw [11, 5, 6] (fun k _ _ wr => ∃ j : Nat, j ≤ n ∧ k = .int .i64 j ∧ Hid (mdSized (vals ys) ((afvals zs).take j) = true) ∧ w = wr) (fun k _ _ _ => (n - intOf k).toNat)
  case atStart => exact ⟨0, by omega, rfl, hidb rfl, rfl⟩
  case round =>
    obtain ⟨j, hj, rfl, HSU, rfl⟩ := hrel
    by_cases hlt : j < n
    · obtain ⟨b, off, z, rfl, _, hx, hc0, hc1, hok⟩ := HS.out.at_ hlt
      have ks := KS.out z.fn
      have hst := mdSized_take (vals ys) (afvals zs) j (z.fn, z.vs) (by unfold afvals; rw [List.getElem?_map, hx]; rfl)
      have hbad := fun e => mdRight_size (l := vals ys) (afvals_mem hx) e
      simp only at hst hbad
      rw [HSU.out, Bool.true_and, hok.len] at hst
      rw [hok.len] at hbad
      obtain ⟨q, hq⟩ : ∃ q, fSize (vals ys) z.fn = q := ⟨_, rfl⟩
      rw [hq] at ks hst hbad
      have hsm := hok.small
      obtain ⟨zf, zA, zn, zc, zvs⟩ := z
      simp only at *
      clear hx hok hq
      by_cases h1 : q < 0
      · have HF := hidb (hbad (by omega))
        clear hbad hst
        --@15
        go_wp2_with (first | (go_at_call 19; (with_reducible refine ks.mono ?_); rintro e w1 ⟨rfl, rfl⟩))
        go_ret
        exact PF.out _ _ (Below.refl _ _) HF.out
      · by_cases h2 : q = (zn : Int)
        · rw [decide_eq_true h2] at hst
          have HST := hidb hst
          have h2b : (q != (zn : Int)) = false := by simp [h2]
          clear hbad hst h2
          --@16
          go_wp2_with (first | (go_at_call 19; (with_reducible refine ks.mono ?_); rintro e w1 ⟨rfl, rfl⟩))
          go_roundw
          case rel => exact ⟨j + 1, by omega, by go_num, HST, by first | rfl | trivial⟩
          case measure => simp [intOf]; omega
        · have HF := hidb (hbad h2)
          have h2b : (q != (zn : Int)) = true := by simpa using h2
          clear hbad hst h2
          --@17
          go_wp2_with (first | (go_at_call 19; (with_reducible refine ks.mono ?_); rintro e w1 ⟨rfl, rfl⟩))
          go_ret
          exact PF.out _ _ (Below.refl _ _) HF.out
    · have HSZ : Hid (mdSized (vals ys) (afvals zs) = true) := hidb (by
        have := HSU.out
        rw [List.take_of_length_le (by rw [afvals_length]; have := HLN.out; omega)] at this
        exact this)
      clear HSU KS
      --@18
      go_wp2
      go_loopw [36, 7, 8, 45] (fun k _ _ _ wr => ∃ j : Nat, j ≤ n ∧ k = .int .i64 j ∧ Hid (∀ d, d < j → mdFit (vals ys) (afvals zs) d = true) ∧ Hid (Below w.heap.size w wr)) (fun k _ _ _ _ => (n - intOf k).toNat)
      case atStart => exact ⟨0, by omega, rfl, hidb (fun d h => absurd h (Nat.not_lt_zero _)), hidb (Below.refl _ _)⟩
      case round =>
        obtain ⟨j, hj, rfl, HFT, HB⟩ := hrel
        by_cases hlt : j < n
        · obtain ⟨b, off, z, rfl, hbl, hx, hc0, hc1, hok⟩ := HS.out.at_ hlt
          have HC : Hid (∀ W, Below w.heap.size w W → W.cell? ⟨b, off + j * 2 + 1, none⟩ = some (.slice z.A z.n z.c)) := hidb (fun W hb => (hb.cell (p := ⟨b, off + j * 2 + 1, none⟩) hbl).trans hc1)
          have HK := hidb hok
          have HX := hidb hx
          have hd1 := HC.out _ HB.out
          have hsm := hok.small
          have hi0 : (0 : Int) ≤ (j : Int) := by omega
          have hi1 : (j : Int) < (n : Int) := by omega
          obtain ⟨zf, zA, zn, zc, zvs⟩ := z
          simp only at *
          clear hx hok hc0 hc1
          --@19
          go_wp2
          go_loopw [45, 8] (fun k _ wq => ∃ i : Nat, i ≤ zn ∧ k = .int .i64 i ∧ Hid (∀ i' : Nat, i' < i → mdFits (vals ys) (afvals zs) j i' (zvs.getD i' vl0) = 0) ∧ Hid (Below w.heap.size w wq)) (fun k _ _ => (zn - intOf k).toNat)
          case atStart => exact ⟨0, by omega, rfl, hidb (fun i' h => absurd h (Nat.not_lt_zero _)), HB⟩
          case round =>
            obtain ⟨i, hi, rfl, HFI, HBQ⟩ := hrel
            have q1 := HC.out _ HBQ.out
            by_cases hlti : i < zn
            · obtain ⟨b2, off2, v, rfl, _, hv, hvin, e0, e1, e2, e3⟩ := (HK.out.below HBQ.out).at_ hlti
              have kf := KF.out _ j (i : Int) v HBQ.out hlt (by unfold in64; omega) hvin
              have hbad := fun e => mdRight_bad (l := vals ys) (L := afvals zs) (d := j) (i := i) (v := v) (by rw [afvals_length, HLN.out]; exact hlt) (by rw [afAt_at HX.out]; exact hv) e
              obtain ⟨q, hq⟩ : ∃ q, mdFits (vals ys) (afvals zs) j i v = q := ⟨_, rfl⟩
              rw [hq] at kf hbad
              have hgd : zvs.getD i vl0 = v := by rw [List.getD_eq_getElem?_getD, hv]; rfl
              have hji0 : (0 : Int) ≤ (i : Int) := by omega
              have hji1 : (i : Int) < (zn : Int) := by omega
              by_cases h0 : q = 0
              · have HFN : Hid (∀ i' : Nat, i' < i + 1 → mdFits (vals ys) (afvals zs) j i' (zvs.getD i' vl0) = 0) := hidb (fun i' h => by
                  by_cases e : i' = i
                  · subst e; rw [hgd, hq, h0]
                  · exact HFI.out i' (by omega))
                have h0b : (q != 0) = false := by simp [h0]
                obtain ⟨vk, vb, vd, vi⟩ := v
                unfold vlC at kf
                simp only at *
                clear hbad hq hgd h0 hv hvin HFI
                --@20
                go_wp2_with (first | (go_at_call 20; (with_reducible refine kf.mono ?_); rintro e w3 ⟨rfl, hb3⟩; have HB3 := hidb (belF_tr HBQ.out hb3); clear hb3))
                go_roundw
                case rel => exact ⟨i + 1, by omega, by go_num, HFN, HB3⟩
                case measure => simp [intOf]; omega
              · have HF := hidb (hbad h0)
                have h0b : (q != 0) = true := by simpa using h0
                obtain ⟨vk, vb, vd, vi⟩ := v
                unfold vlC at kf
                simp only at *
                clear hbad hq hgd h0 hv hvin HFI
                --@21
                go_wp2_with (first | (go_at_call 20; (with_reducible refine kf.mono ?_); rintro e w3 ⟨rfl, hb3⟩; have HB3 := hidb (belF_tr HBQ.out hb3); clear hb3))
                go_ret
                exact PF.out _ _ HB3.out HF.out
            · obtain rfl : i = zn := by omega
              have hge : ¬ ((i : Int) < (i : Int)) := by omega
              have HFN : Hid (∀ d, d < j + 1 → mdFit (vals ys) (afvals zs) d = true) := hidb (fun d h => by
                by_cases e : d = j
                · subst e
                  rw [mdFit_iff, afAt_at HX.out]
                  intro i' h'
                  exact HFI.out i' (by have := HK.out.len; simp only at this h'; omega)
                · exact HFT.out d (by omega))
              --@22
              go_wp2
              go_roundw
              case rel => exact ⟨j + 1, by omega, by go_num, HFN, HBQ⟩
              case measure => simp [intOf]; omega
        · have HG : Hid (mdRight (vals ys) (afvals zs) = true) := hidb (mdRight_iff.2 ⟨HSZ.out, fun d hd => HFT.out d (by rw [afvals_length, HLN.out] at hd; omega)⟩)
          --@23
          go_wp2
          go_ret
          exact PF.out _ _ HB.out HG.out
end
end Go.Proofs.YtdcnpaodcjfdbaaDoor

/- What the document's own Same of layer 19 (model) returns. -/
namespace Go.Proofs.YtdcnpaodcjfdbaaDoor
open Go.RowKit
set_option linter.unusedVariables false

theorem neq_val (x y : VlV) (W : World) : (binOp .neq 26 (.agg #[.int .u8 x.kind, .int .u64 x.bits, .int .i64 x.depth, .int .i64 x.slot]) (.agg #[.int .u8 y.kind, .int .u64 y.bits, .int .i64 y.depth, .int .i64 y.slot])).run Tryd.prog W = .ok (.bool (!(decide (x = y)))) W := by
  obtain ⟨a, b, c, d⟩ := x
  obtain ⟨a', b', c', d'⟩ := y
  simp [go_sem]
  by_cases h1 : a = a' <;> by_cases h2 : b = b' <;> by_cases h3 : c = c' <;> by_cases h4 : d = d' <;> simp [h1, h2, h3, h4] <;> omega
theorem afvals_get (zs : List AfS) (j : Nat) : (afvals zs)[j]? = (zs[j]?).map fun z => (z.fn, z.vs) := by unfold afvals; rw [List.getElem?_map]
theorem afvals_neq {xs ys : List AfS} {j : Nat} {x y : AfS} (hx : xs[j]? = some x) (hy : ys[j]? = some y) (h : (x.fn, x.vs) ≠ (y.fn, y.vs)) : decide (afvals xs = afvals ys) = false := decide_eq_false fun e => h (by
  have := afvals_get xs j
  rw [e, afvals_get, hx, hy] at this
  exact (Option.some.inj this).symm)
theorem ref_mdsame (A A2 : Option Addr) (n c m d : Nat) (xs ys : List AfS) (w : World) (B B2 : Nat) (hs : AfRow w B A n xs) (hs2 : AfRow w B2 A2 m ys) (hn : n ≤ 9223372036854775806) (hm : m ≤ 9223372036854775806) :
    Calls Tryd.prog 12 #[.slice A n c, .slice A2 m d] w fun e w' => e = .returned (.bool (decide (afvals xs = afvals ys))) ∧ ∃ q, w' = w.drewN q := by
  have l1 : xs.length = n := hs.1.1
  have l2 : ys.length = m := hs2.1.1
  by_cases hnm : n = m
  · subst hnm
    have L1 := hidb l1
    have L2 := hidb l2
    have HS := hidb hs
    have HS2 := hidb hs2
    clear hs hs2 l1 l2
    --@1
    go_enter Tryd.func12, Tryd.ntmps12
    go_wp2
    go_loopw [14, 5, 6, 49] (fun k _ _ _ wr => ∃ j q : Nat, j ≤ n ∧ Hid (∀ i, i < j → (afvals xs)[i]? = (afvals ys)[i]?) ∧ k = .int .i64 j ∧ wr = w.drewN q) (fun k _ _ _ _ => (n - intOf k).toNat)
    case atStart => exact ⟨0, 0, by omega, hidb (fun i h => absurd h (Nat.not_lt_zero _)), rfl, rfl⟩
    case round =>
      obtain ⟨j, q, hj, HA, rfl, rfl⟩ := hrel
      by_cases hlt : j < n
      · obtain ⟨b, off, x, rfl, _, hx, hc0, hc1, hok⟩ := HS.out.at_ hlt
        obtain ⟨b2, off2, y, rfl, _, hy, hd0, hd1, hok2⟩ := HS2.out.at_ hlt
        have HX := hidb hx
        have HY := hidb hy
        have HK := hidb hok
        have HK2 := hidb hok2
        have hsm := hok.small
        have hsm2 := hok2.small
        have hxl := hok.len
        have hyl := hok2.len
        have hi0 : (0 : Int) ≤ (j : Int) := by omega
        have hi1 : (j : Int) < (n : Int) := by omega
        obtain ⟨xf, xA, xn, xc, xvs⟩ := x
        obtain ⟨yf, yA, yn, yc, yvs⟩ := y
        have HXL := hidb hxl
        have HYL := hidb hyl
        simp only at *
        clear hx hy hok hok2 hxl hyl
        by_cases e1 : xf = yf
        · subst e1
          have eb : (xf != xf) = false := by simp
          by_cases e2 : xn = yn
          · subst e2
            have eb2 : ((xn : Int) != (xn : Int)) = false := by simp
            --@2
            go_wp2
            go_quiet (fail)
            go_wp2
            go_loopw [49, 6] (fun k _ wq => ∃ i q : Nat, i ≤ xn ∧ Hid (∀ p, p < i → xvs[p]? = yvs[p]?) ∧ k = .int .i64 i ∧ wq = w.drewN q) (fun k _ _ => (xn - intOf k).toNat)
            case atStart => exact ⟨0, _, by omega, hidb (fun i h => absurd h (Nat.not_lt_zero _)), rfl, by first | exact World.drewN_drewN _ _ _ | rfl⟩
            case round =>
              obtain ⟨i, q, hi, HI, rfl, rfl⟩ := hrel
              by_cases hlti : i < xn
              · obtain ⟨b3, off3, v, rfl, _, hv, _, e0, e1, e2, e3⟩ := HK.out.at_ hlti
                obtain ⟨b4, off4, u, rfl, _, hu, _, g0, g1, g2, g3⟩ := HK2.out.at_ hlti
                have HV := hidb hv
                have HU := hidb hu
                have hj0 : (0 : Int) ≤ (i : Int) := by omega
                have hj1 : (i : Int) < (xn : Int) := by omega
                have hq := fun W => neq_val v u W
                clear hv hu
                by_cases e : v = u
                · subst e
                  rw [show (!decide (v = v)) = false by simp] at hq
                  obtain ⟨vk, vb, vd, vi⟩ := v
                  simp only at *
                  --@3
                  go_wp2
                  go_quiet (fail)
                  go_wp2
                  go_roundw
                  case rel =>
                    refine ⟨i + 1, _, by omega, hidb (fun p hp => ?_), by go_num, by first | exact World.drewN_drewN _ _ _ | rfl⟩
                    by_cases h : p = i
                    · subst h; rw [HV.out, HU.out]
                    · exact HI.out p (by omega)
                  case measure => simp [intOf]; omega
                · rw [show (!decide (v = u)) = true by simp [e]] at hq
                  have HF : Hid (decide (afvals xs = afvals ys) = false) := hidb (afvals_neq HX.out HY.out (fun h => e (by
                    have h2 : xvs = yvs := (Prod.mk.inj h).2
                    have := HV.out; rw [h2, HU.out] at this; exact (Option.some.inj this).symm)))
                  clear e
                  obtain ⟨vk, vb, vd, vi⟩ := v
                  obtain ⟨uk, ub, ud, ui⟩ := u
                  simp only at *
                  --@4
                  go_wp2
                  go_quiet (fail)
                  go_wp2
                  go_ret
                  exact ⟨by rw [HF.out]; rfl, _, by first | exact World.drewN_drewN _ _ _ | rfl⟩
              · obtain rfl : i = xn := by omega
                have hge : ¬ ((i : Int) < (i : Int)) := by omega
                have HN : Hid (∀ d, d < j + 1 → (afvals xs)[d]? = (afvals ys)[d]?) := hidb (fun d hd => by
                  by_cases h : d = j
                  · subst h
                    have h2 : xvs = yvs := List.ext_getElem? (fun p => by
                      by_cases hp : p < i
                      · exact HI.out p hp
                      · rw [List.getElem?_eq_none (by rw [HXL.out]; omega), List.getElem?_eq_none (by rw [HYL.out]; omega)])
                    rw [afvals_get, afvals_get, HX.out, HY.out, h2]; rfl
                  · exact HA.out d (by omega))
                --@5
                go_wp2
                go_roundw
                case rel => exact ⟨j + 1, _, by omega, HN, by go_num, rfl⟩
                case measure => simp [intOf]; omega
          · have eb2 : ((xn : Int) != (yn : Int)) = true := by simp; omega
            have HF : Hid (decide (afvals xs = afvals ys) = false) := hidb (afvals_neq HX.out HY.out (fun h => e2 (by
              have h2 : xvs = yvs := (Prod.mk.inj h).2
              rw [← HXL.out, ← HYL.out, h2])))
            clear e2
            --@6
            go_wp2
            go_quiet (fail)
            go_wp2
            go_ret
            exact ⟨by rw [HF.out]; rfl, _, by first | exact World.drewN_drewN _ _ _ | rfl⟩
        · have eb : (xf != yf) = true := by simpa using e1
          have HF : Hid (decide (afvals xs = afvals ys) = false) := hidb (afvals_neq HX.out HY.out (fun h => e1 (Prod.mk.inj h).1))
          clear e1
          --@7
          go_wp2
          go_quiet (fail)
          go_wp2
          go_ret
          exact ⟨by rw [HF.out]; rfl, _, by first | exact World.drewN_drewN _ _ _ | rfl⟩
      · have HF : Hid (decide (afvals xs = afvals ys) = true) := hidb (decide_eq_true (List.ext_getElem? (fun i => by
          by_cases h : i < n
          · exact HA.out i (by omega)
          · rw [List.getElem?_eq_none (by rw [afvals_length, L1.out]; omega), List.getElem?_eq_none (by rw [afvals_length, L2.out]; omega)])))
        --@8
        go_wp2
        go_ret
        exact ⟨by rw [HF.out]; rfl, _, rfl⟩
  · have HF : Hid (decide (afvals xs = afvals ys) = false) := hidb (decide_eq_false (fun h => hnm (by rw [← l1, ← l2, ← afvals_length xs, h, afvals_length])))
    have eb : ((n : Int) != (m : Int)) = true := by simp; omega
    clear hs hs2 l1 l2
    --@9
    go_enter Tryd.func12, Tryd.ntmps12
    go_wp2
    go_ret
    exact ⟨by rw [HF.out]; rfl, 0, rfl⟩
end Go.Proofs.YtdcnpaodcjfdbaaDoor

/- What the document's own Get, refers and Load of layer 19 (model) return. -/
namespace Go.Proofs.YtdcnpaodcjfdbaaDoor
open Go.RowKit
set_option linter.unusedVariables false

/-- What a slot has; the error's number. -/
def mdGet (l : Fns) (L : Afs) (d i : Int) : VlV × Int := if mdRight l L = false then (vl0, 9) else if mdHas L d i = false then (vl0, 2) else ((afAt L d.toNat).getD i.toNat vl0, 0)
/-- To what a pointer slot refers; the error's number. -/
def mdRefers (l : Fns) (L : Afs) (d i : Int) : VlV × Int := if (mdGet l L d i).2 ≠ 0 then mdGet l L d i else if (mdGet l L d i).1.kind = 1 then (vl0, 5) else if (mdGet l L d i).1.kind = 0 then ((mdGet l L d i).1, 12) else ((mdGet l L d i).1, 0)
/-- What the slot has that it refers to; the error's number. -/
def mdLoad (l : Fns) (L : Afs) (d i : Int) : VlV × Int := if (mdRefers l L d i).2 ≠ 0 then (vl0, (mdRefers l L d i).2) else ((afAt L (mdRefers l L d i).1.depth.toNat).getD (mdRefers l L d i).1.slot.toNat vl0, 0)

/-- A new value's cells stay till they are written. -/
theorem new_val (w : World) : Hid (∀ W, Below (w.alloc (.cells #[.int .u8 0, .int .u64 0, .int .i64 0, .int .i64 0] 26)).heap.size (w.alloc (.cells #[.int .u8 0, .int .u64 0, .int .i64 0, .int .i64 0] 26)) W → (W.cell? ⟨w.heap.size, 0, none⟩ = some (.int .u8 0) ∧ W.cell? ⟨w.heap.size, 1, none⟩ = some (.int .u64 0) ∧ W.cell? ⟨w.heap.size, 2, none⟩ = some (.int .i64 0) ∧ W.cell? ⟨w.heap.size, 3, none⟩ = some (.int .i64 0)) ∧ W.frozen? ⟨w.heap.size, 0, none⟩ = false ∧ W.frozen? ⟨w.heap.size, 1, none⟩ = false ∧ W.frozen? ⟨w.heap.size, 2, none⟩ = false ∧ W.frozen? ⟨w.heap.size, 3, none⟩ = false) := hidb (fun W hb => by
  obtain ⟨W0, hW0⟩ : ∃ W0, W0 = w.alloc (.cells #[.int .u8 0, .int .u64 0, .int .i64 0, .int .i64 0] 26) := ⟨_, rfl⟩
  rw [← hW0] at hb
  have hz0 : W0.heap.size = w.heap.size + 1 := by rw [hW0]; simp
  have hc : ∀ k, W.cell? ⟨w.heap.size, k, none⟩ = W0.cell? ⟨w.heap.size, k, none⟩ := fun k => hb.cell (by show w.heap.size < _; omega)
  have hf : ∀ k, W.frozen? ⟨w.heap.size, k, none⟩ = W0.frozen? ⟨w.heap.size, k, none⟩ := fun k => hb.frozen (by show w.heap.size < _; omega)
  refine ⟨⟨?_, ?_, ?_, ?_⟩, ?_, ?_, ?_, ?_⟩
  · rw [hc, hW0]; simp
  · rw [hc, hW0]; simp
  · rw [hc, hW0]; simp
  · rw [hc, hW0]; simp
  all_goals (rw [hf, hW0]; simp [go_sem]))

section
variable {w : World} {A : Option Addr} {n c : Nat} {zs : List AfS} {A2 : Option Addr} {n2 c2 lo' hi' : Nat} {ys : List FnV}
/-- What a call answers, a value and an error's number. -/
def ResVl (w : World) (r : VlV × Int) (e : Ending) (w' : World) : Prop := e = .returned (.tuple #[vlC r.1, .int .i64 r.2]) ∧ Below w.heap.size w w'
theorem mdHas_true {zs : List AfS} {d i : Int} (h : mdHas (afvals zs) d i = true) : ∃ z, zs[d.toNat]? = some z ∧ 0 ≤ d ∧ d < (zs.length : Int) ∧ 0 ≤ i ∧ i < (z.vs.length : Int) := by
  unfold mdHas at h
  rw [decide_eq_true_iff, afvals_length] at h
  have hz := List.getElem?_eq_getElem (l := zs) (i := d.toNat) (by omega)
  rw [afAt_at hz] at h
  exact ⟨_, hz, h.1, h.2.1, h.2.2.1, h.2.2.2⟩

/-- The cells of a value. -/
structure ValAt (w : World) (q : Nat) (k vb : Nat) (vd vi : Int) : Prop where
  c0 : w.cell? ⟨q, 0, none⟩ = some (.int .u8 (k : Int))
  c1 : w.cell? ⟨q, 1, none⟩ = some (.int .u64 (vb : Int))
  c2 : w.cell? ⟨q, 2, none⟩ = some (.int .i64 vd)
  c3 : w.cell? ⟨q, 3, none⟩ = some (.int .i64 vi)
theorem ValAt.below {w w' : World} {B q k vb : Nat} {vd vi : Int} (h : ValAt w q k vb vd vi) (hb : Below B w w') (hq : q < B) : ValAt w' q k vb vd vi :=
  ⟨(hb.cell (p := ⟨q, 0, none⟩) hq).trans h.c0, (hb.cell (p := ⟨q, 1, none⟩) hq).trans h.c1, (hb.cell (p := ⟨q, 2, none⟩) hq).trans h.c2, (hb.cell (p := ⟨q, 3, none⟩) hq).trans h.c3⟩
theorem mdGet_ok {l : Fns} {L : Afs} {d i : Int} {v : VlV} (h : mdGet l L d i = (v, 0)) : mdRight l L = true ∧ mdHas L d i = true ∧ (afAt L d.toNat).getD i.toNat vl0 = v ∧ mdFits l L d.toNat (i.toNat : Int) v = 0 := by
  unfold mdGet at h
  cases hR : mdRight l L with
  | false => rw [hR, if_pos rfl] at h; injection h with _ h; exact absurd h (by decide)
  | true =>
    rw [hR, if_neg (by simp)] at h
    cases hH : mdHas L d i with
    | false => rw [hH, if_pos rfl] at h; injection h with _ h; exact absurd h (by decide)
    | true =>
      rw [hH, if_neg (by simp)] at h
      injection h with h _
      refine ⟨rfl, rfl, h, ?_⟩
      unfold mdHas at hH
      rw [decide_eq_true_iff] at hH
      have := mdFit_iff.1 ((mdRight_iff.1 hR).2 d.toNat (by omega)) i.toNat (by omega)
      rw [h] at this
      exact this
theorem mdFits_kind {l : Fns} {L : Afs} {d : Nat} {i : Int} {v : VlV} (h : mdFits l L d i v = 0) : vMay v = true ∧ v.kind ≤ 2 ∧ (v.kind = 2 → mdHas L v.depth v.slot = true ∧ v.depth ≤ (d : Int)) := by
  unfold mdFits at h
  split at h
  · exact absurd h (by decide)
  · rename_i h1
    split at h
    · exact absurd h (by decide)
    · split at h
      · exact absurd h (by decide)
      · rename_i h3
        split at h
        · exact absurd h (by decide)
        · rename_i h4
          have hm : vMay v = true := by cases hh : vMay v with | true => rfl | false => exact absurd hh h1
          refine ⟨hm, ?_, fun hk => ⟨?_, ?_⟩⟩
          · unfold vMay at hm
            rw [Bool.and_eq_true, decide_eq_true_iff] at hm
            exact hm.1.1
          · cases hh : mdHas L v.depth v.slot with | true => rfl | false => exact absurd ⟨hk, hh⟩ h3
          · have : ¬ (d : Int) < v.depth := fun c => h4 ⟨hk, c⟩
            omega
theorem mdRefers_ok {l : Fns} {L : Afs} {d i : Int} {v : VlV} (h : mdRefers l L d i = (v, 0)) : mdRight l L = true ∧ v.kind = 2 ∧ mdHas L v.depth v.slot = true := by
  unfold mdRefers at h
  split at h
  · rename_i h1; rw [h] at h1; exact absurd rfl h1
  · rename_i h1
    split at h
    · injection h with _ h; exact absurd h (by decide)
    · rename_i h2
      split at h
      · injection h with _ h; exact absurd h (by decide)
      · rename_i h3
        injection h with h _
        have hg : mdGet l L d i = (v, 0) := by
          have e : (mdGet l L d i).2 = 0 := Decidable.byContradiction h1
          exact Prod.ext h e
        rw [hg] at h2 h3
        obtain ⟨g1, g2, g3, g4⟩ := mdGet_ok hg
        obtain ⟨k1, k2, k3⟩ := mdFits_kind g4
        simp only at h2 h3
        have hk : v.kind = 2 := by omega
        exact ⟨g1, hk, (k3 hk).1⟩
end
end Go.Proofs.YtdcnpaodcjfdbaaDoor

/- What the document's own with of layer 19 (model) returns: a row of frames one of whose slots has something else. -/
namespace Go.Proofs.YtdcnpaodcjfdbaaDoor
open Go.RowKit
set_option linter.unusedVariables false

theorem info_af : (Tryd.prog.info? 59).map (fun i => (i.zero, i.size, i.bytes)) = some (some (.agg #[.int .i64 0, .slice none 0 0]), 2, 32) := by kernel_rfl
theorem info_vl : (Tryd.prog.info? 26).map (fun i => (i.zero, i.size, i.bytes)) = some (some (.agg #[.int .u8 0, .int .u64 0, .int .i64 0, .int .i64 0]), 4, 32) := by kernel_rfl
/-- A row with another value in a slot. -/
def mdWith (L : Afs) (d i : Nat) (v : VlV) : Afs := L.set d ((L.getD d (0, [])).1, (afAt L d).set i v)
theorem cells_set4 (v : VlV) : ∀ (l : List VlV) (i : Nat), i < l.length → cellsAll vlcells (l.set i v) = ((((cellsAll vlcells l).set (i * 4) (.int .u8 v.kind)).set (i * 4 + 1) (.int .u64 v.bits)).set (i * 4 + 2) (.int .i64 v.depth)).set (i * 4 + 3) (.int .i64 v.slot)
  | [], i, h => absurd h (Nat.not_lt_zero _)
  | x :: r, 0, _ => rfl
  | x :: r, i + 1, h => by
    have ih := cells_set4 v r i (by simpa using h)
    have e : (i + 1) * 4 = i * 4 + 4 := by omega
    rw [e]
    show vlcells x ++ cellsAll vlcells (r.set i v) = _
    rw [ih]
    rfl
theorem cells_set2 (z : AfS) : ∀ (l : List AfS) (i : Nat), i < l.length → cellsAll afcells (l.set i z) = ((cellsAll afcells l).set (i * 2) (.int .i64 z.fn)).set (i * 2 + 1) (.slice z.A z.n z.c)
  | [], i, h => absurd h (Nat.not_lt_zero _)
  | x :: r, 0, _ => rfl
  | x :: r, i + 1, h => by
    have ih := cells_set2 z r i (by simpa using h)
    have e : (i + 1) * 2 = i * 2 + 2 := by omega
    rw [e]
    show afcells x ++ cellsAll afcells (r.set i z) = _
    rw [ih]
    rfl
theorem cellsAt_of {E : Type} {f : E → List Value} {s : Nat} {w : World} {B n : Nat} {A : Option Addr} {l : List E} (hf : ∀ y, (f y).length = s) (hs : 0 < s) (h : RowOf (fun cs y => cs = f y) s w B A n l) : CellsAt w A (cellsAll f l) := fun ad e j u hj => by
  have hlen := cellsAll_length hf l
  have hl : l.length = n := h.1
  have hjl : j < l.length * s := by rw [← hlen]; exact (List.getElem?_eq_some_iff.1 hj).1
  have hj2 : j / s < n := by rw [← hl]; exact Nat.div_lt_of_lt_mul (by rw [Nat.mul_comm]; exact hjl)
  obtain ⟨b, off, y, cs, e2, _, hy, _, hc, rfl⟩ := RowOf.at_ h hj2
  rw [e] at e2
  obtain rfl := Option.some.inj e2
  rw [Go.WideShapes.add_plain]
  have hm : j % s < s := Nat.mod_lt _ hs
  have h3 := cellsAll_at hf l (j / s) y hy (j % s) hm
  have h4 : j / s * s + j % s = j := by rw [Nat.mul_comm]; exact Nat.div_add_mod j s
  rw [h4, hj] at h3
  rw [h3, ← hc (j % s) hm]
  have : off + j = off + j / s * s + j % s := by omega
  rw [this]
theorem own_cap {w : World} {base : Nat} {e : TypeId} {s n c : Nat} {A : Option Addr} {xs : List Value} (h : w.ownsRow base e s (.slice A n c) n xs) (hn : 0 < n) : n ≤ c ∧ c ≤ 9223372036854775807 := by
  rcases h.2 with ⟨_, h0⟩ | ⟨g, cap, cur, e1, _, _, e4, e5, _⟩
  · omega
  · injection e1 with _ _ e1
    subst e1
    exact ⟨e4, e5⟩
theorem vl_one (l : List VlV) : ∀ u ∈ cellsAll vlcells l, u.oneCell' = true := fun u hu => by
  obtain ⟨v, _, h⟩ := List.mem_flatMap.1 hu
  simp [vlcells] at h
  rcases h with rfl | rfl | rfl | rfl <;> rfl
theorem af_one (l : List AfS) : ∀ u ∈ cellsAll afcells l, u.oneCell' = true := fun u hu => by
  obtain ⟨v, _, h⟩ := List.mem_flatMap.1 hu
  simp [afcells] at h
  rcases h with rfl | rfl <;> rfl
/-- A row that a call answers. -/
def ResAw (w : World) (L : Afs) (e : Ending) (w' : World) : Prop := ∃ A c zs, e = .returned (.slice A L.length c) ∧ AfRow w' w'.heap.size A L.length zs ∧ afvals zs = L ∧ L.length ≤ c ∧ c ≤ 9223372036854775807 ∧ Below w.heap.size w w'

theorem own_some19 {w : World} {base : Nat} {e : TypeId} {s n c : Nat} {A : Option Addr} {xs : List Value} (h : w.ownsRow base e s (.slice A n c) n xs) (hn : 0 < n) : ∃ g, A = some ⟨g, 0, none⟩ ∧ base ≤ g ∧ g < w.heap.size := by
  rcases h.2 with ⟨_, h0⟩ | ⟨g, cap, cur, e1, _, _, e4, e5, _⟩
  · omega
  · injection e1 with e1 _ _
    subst e1
    obtain ⟨l1, l2⟩ := h.lt g rfl
    exact ⟨g, rfl, l1, l2⟩
theorem own_ne19 {w : World} {base base' s s' n n' c c' g g' : Nat} {e e' : TypeId} {xs xs' : List Value} (h : w.ownsRow base e s (.slice (some ⟨g, 0, none⟩) n c) n xs) (h' : w.ownsRow base' e' s' (.slice (some ⟨g', 0, none⟩) n' c') n' xs') (hne : e ≠ e') : g ≠ g' := fun h0 => by
  subst h0
  obtain ⟨c1, h1⟩ := own_type h g rfl
  obtain ⟨c2, h2⟩ := own_type h' g rfl
  rw [h1] at h2
  injection h2 with h2
  injection h2 with _ h2 _
  exact hne h2

/-- The cells of an element of a row of the call's own. -/
theorem own_four {w : World} {base n c g i : Nat} {e : TypeId} {xs : List Value} (h : w.ownsRow base e 4 (.slice (some ⟨g, 0, none⟩) n c) n xs) (hl : xs.length = n * 4) (hi : i < n) :
    ((w.cell? ⟨g, i * 4, none⟩ = some (xs.getD (i * 4) undef) ∧ w.cell? ⟨g, i * 4 + 1, none⟩ = some (xs.getD (i * 4 + 1) undef) ∧ w.cell? ⟨g, i * 4 + 2, none⟩ = some (xs.getD (i * 4 + 2) undef) ∧ w.cell? ⟨g, i * 4 + 3, none⟩ = some (xs.getD (i * 4 + 3) undef)) ∧
    w.frozen? ⟨g, i * 4, none⟩ = false ∧ w.frozen? ⟨g, i * 4 + 1, none⟩ = false ∧ w.frozen? ⟨g, i * 4 + 2, none⟩ = false ∧ w.frozen? ⟨g, i * 4 + 3, none⟩ = false) := by
  have key : ∀ j, j < n * 4 → w.cell? ⟨g, j, none⟩ = some (xs.getD j undef) := fun j hj => by
    rw [h.cellAt j hj, List.getD_eq_getElem?_getD, List.getElem?_eq_getElem (by omega)]; rfl
  exact ⟨⟨key _ (by omega), key _ (by omega), key _ (by omega), key _ (by omega)⟩, h.frozenAt _, h.frozenAt _, h.frozenAt _, h.frozenAt _⟩
theorem own_two {w : World} {base n c g i : Nat} {e : TypeId} {xs : List Value} (h : w.ownsRow base e 2 (.slice (some ⟨g, 0, none⟩) n c) n xs) (hl : xs.length = n * 2) (hi : i < n) :
    (w.cell? ⟨g, i * 2, none⟩ = some (xs.getD (i * 2) undef) ∧ w.cell? ⟨g, i * 2 + 1, none⟩ = some (xs.getD (i * 2 + 1) undef)) ∧ w.frozen? ⟨g, i * 2, none⟩ = false ∧ w.frozen? ⟨g, i * 2 + 1, none⟩ = false := by
  have key : ∀ j, j < n * 2 → w.cell? ⟨g, j, none⟩ = some (xs.getD j undef) := fun j hj => by
    rw [h.cellAt j hj, List.getD_eq_getElem?_getD, List.getElem?_eq_getElem (by omega)]; rfl
  exact ⟨⟨key _ (by omega), key _ (by omega)⟩, h.frozenAt _, h.frozenAt _⟩

theorem bel_set4o {B : Nat} {a W : World} {g : Nat} (h : Below B a W) (hb : B ≤ g) (o0 o1 o2 o3 : Nat) (u0 u1 u2 u3 : Value) : Below B a ((((W.setCell ⟨g, o0, none⟩ u0).setCell ⟨g, o1, none⟩ u1).setCell ⟨g, o2, none⟩ u2).setCell ⟨g, o3, none⟩ u3) :=
  (((h.setCell (p := ⟨g, o0, none⟩) hb u0).setCell (p := ⟨g, o1, none⟩) hb u1).setCell (p := ⟨g, o2, none⟩) hb u2).setCell (p := ⟨g, o3, none⟩) hb u3
theorem own_setV {w : World} {base n c g i : Nat} {e : TypeId} {vs : List VlV} (v : VlV) (h : w.ownsRow base e 4 (.slice (some ⟨g, 0, none⟩) n c) n (cellsAll vlcells vs)) (hi : i < vs.length) :
    ((((w.setCell ⟨g, i * 4, none⟩ (.int .u8 v.kind)).setCell ⟨g, i * 4 + 1, none⟩ (.int .u64 v.bits)).setCell ⟨g, i * 4 + 2, none⟩ (.int .i64 v.depth)).setCell ⟨g, i * 4 + 3, none⟩ (.int .i64 v.slot)).ownsRow base e 4 (.slice (some ⟨g, 0, none⟩) n c) n (cellsAll vlcells (vs.set i v)) := by
  rw [cells_set4 v vs i hi]
  exact ((((h.stored _ _).1.stored _ _).1.stored _ _).1.stored _ _).1
theorem own_setA {w : World} {base n c g i : Nat} {e : TypeId} {zs : List AfS} (z : AfS) (h : w.ownsRow base e 2 (.slice (some ⟨g, 0, none⟩) n c) n (cellsAll afcells zs)) (hi : i < zs.length) :
    ((w.setCell ⟨g, i * 2, none⟩ (.int .i64 z.fn)).setCell ⟨g, i * 2 + 1, none⟩ (.slice z.A z.n z.c)).ownsRow base e 2 (.slice (some ⟨g, 0, none⟩) n c) n (cellsAll afcells (zs.set i z)) := by
  rw [cells_set2 z zs i hi]
  exact ((h.stored _ _).1.stored _ _).1
theorem own_aside {w : World} {base n c s g g' : Nat} {e : TypeId} {xs : List Value} (h : w.ownsRow base e s (.slice (some ⟨g, 0, none⟩) n c) n xs) (hne : g ≠ g') (o : Nat) (u : Value) : (w.setCell ⟨g', o, none⟩ u).ownsRow base e s (.slice (some ⟨g, 0, none⟩) n c) n xs :=
  own_same h fun q hq => by
    injection hq with hq
    subst hq
    exact heap_setCell_other w ⟨g', o, none⟩ g u hne
theorem own_aside4 {w : World} {base n c s g g' : Nat} {e : TypeId} {xs : List Value} (h : w.ownsRow base e s (.slice (some ⟨g, 0, none⟩) n c) n xs) (hne : g ≠ g') (o0 o1 o2 o3 : Nat) (u0 u1 u2 u3 : Value) : ((((w.setCell ⟨g', o0, none⟩ u0).setCell ⟨g', o1, none⟩ u1).setCell ⟨g', o2, none⟩ u2).setCell ⟨g', o3, none⟩ u3).ownsRow base e s (.slice (some ⟨g, 0, none⟩) n c) n xs :=
  own_aside (own_aside (own_aside (own_aside h hne o0 u0) hne o1 u1) hne o2 u2) hne o3 u3

end Go.Proofs.YtdcnpaodcjfdbaaDoor

/- What the document's own Set, Write, Return and Call of layer 19 (model) return. -/
namespace Go.Proofs.YtdcnpaodcjfdbaaDoor
open Go.RowKit
set_option linter.unusedVariables false

/-- A slot has something else; the error's number. -/
def mdSet (l : Fns) (L : Afs) (d i : Int) (v : VlV) : Afs × Int := if mdRight l L = false then (L, 9) else if mdHas L d i = false then (L, 2) else if mdFits l L d.toNat i v ≠ 0 then (L, mdFits l L d.toNat i v) else (mdWith L d.toNat i.toNat v, 0)
/-- The scalar that a slot refers to has other bits; the error's number. -/
def mdWrite (l : Fns) (L : Afs) (d i : Int) (b : Nat) : Afs × Int := if (mdRefers l L d i).2 ≠ 0 then (L, (mdRefers l L d i).2) else if ((afAt L (mdRefers l L d i).1.depth.toNat).getD (mdRefers l L d i).1.slot.toNat vl0).kind ≠ 1 then (L, 5) else (mdWith L (mdRefers l L d i).1.depth.toNat (mdRefers l L d i).1.slot.toNat ⟨1, b, 0, 0⟩, 0)
/-- A frame less; the error's number. -/
def mdReturn (l : Fns) (L : Afs) : Afs × Int := if mdRight l L = false then (L, 9) else if L.length < 2 then (L, 8) else (L.take (L.length - 1), 0)
/-- A row that a call answers, and an error's number. -/
def ResA (w : World) (r : Afs × Int) (e : Ending) (w' : World) : Prop := ∃ A n c zs, e = .returned (.tuple #[.slice A n c, .int .i64 r.2]) ∧ AfRow w' w'.heap.size A n zs ∧ afvals zs = r.1 ∧ n ≤ c ∧ c ≤ 9223372036854775807 ∧ Below w.heap.size w w'
section
variable {w : World} {A : Option Addr} {n c : Nat} {zs : List AfS} {A2 : Option Addr} {n2 c2 lo' hi' : Nat} {ys : List FnV}
theorem mdRight_slots {l : Fns} (hl : ∀ x ∈ l, 0 ≤ x.1 ∧ x.1 ≤ 1000) {zs : List AfS} {d : Nat} {z : AfS} (h : mdRight l (afvals zs) = true) (hz : zs[d]? = some z) : z.vs.length ≤ 1000 := by
  have := mdSized_iff.1 (mdRight_iff.1 h).1 _ (afvals_mem hz)
  have := fSize_range hl z.fn
  simp only at *
  omega
theorem AfRow.take {w : World} {B n m : Nat} {A : Option Addr} {zs : List AfS} (h : AfRow w B A n zs) (hm : m ≤ n) : AfRow w B A m (zs.take m) :=
  ⟨⟨by rw [List.length_take, h.len]; omega, fun h0 => by
    obtain ⟨b, off, e, hb, hc⟩ := h.row.2 (by omega)
    refine ⟨b, off, e, hb, fun j y hj => hc j y ?_⟩
    rw [List.getElem?_take] at hj
    split at hj
    · exact hj
    · cases hj⟩, fun z hz => h.each z (List.mem_of_mem_take hz)⟩
theorem ResA.elder (hs : AfRow w w.heap.size A n zs) (hc : n ≤ c ∧ c ≤ 9223372036854775807) {W : World} (hb : Below w.heap.size w W) (no : Int) : ResA w (afvals zs, no) (.returned (.tuple #[.slice A n c, .int .i64 no])) W := ⟨A, n, c, zs, rfl, hs.step hb, rfl, hc.1, hc.2, hb⟩

end
end Go.Proofs.YtdcnpaodcjfdbaaDoor

/- What the document's own Call of layer 19 (model) returns. -/
namespace Go.Proofs.YtdcnpaodcjfdbaaDoor
open Go.RowKit
set_option linter.unusedVariables false

/-- What a new frame's slots have. -/
def mdNew (l : Fns) (f : Int) (n : Nat) : List VlV := (List.range n).map fun (i : Nat) => if fPtr l f i = true then vl0 else ⟨1, 0, 0, 0⟩
/-- A frame more; the error's number. -/
def mdCall (l : Fns) (L : Afs) (f : Int) : Afs × Int := if mdRight l L = false then (L, 9) else if fSize l f < 0 then (L, 1) else (L ++ [(f, mdNew l f (fSize l f).toNat)], 0)
theorem mdNew_succ (l : Fns) (f : Int) (n : Nat) : mdNew l f (n + 1) = mdNew l f n ++ [if fPtr l f n = true then vl0 else ⟨1, 0, 0, 0⟩] := by
  unfold mdNew; rw [List.range_succ, List.map_append]; rfl
theorem mdNew_length (l : Fns) (f : Int) (n : Nat) : (mdNew l f n).length = n := by unfold mdNew; simp
theorem mdNew_in {l : Fns} {f : Int} {n : Nat} {v : VlV} (h : v ∈ mdNew l f n) : VIn v := by
  obtain ⟨i, _, rfl⟩ := List.mem_map.1 h
  split
  · exact ⟨by show (0 : Nat) < 256; omega, by show (0 : Nat) < _; omega, by show in64 0; unfold in64; omega, by show in64 0; unfold in64; omega⟩
  · exact ⟨by show (1 : Nat) < 256; omega, by show (0 : Nat) < _; omega, by show in64 0; unfold in64; omega, by show in64 0; unfold in64; omega⟩
theorem own_cap0 {w : World} {base : Nat} {e : TypeId} {s n c : Nat} {A : Option Addr} {xs : List Value} (h : w.ownsRow base e s (.slice A n c) n xs) : n ≤ c ∧ c ≤ 9223372036854775807 := by
  rcases h.2 with ⟨e1, h0⟩ | ⟨g, cap, cur, e1, _, _, e4, e5, _⟩
  · injection e1 with _ _ e1
    omega
  · injection e1 with _ _ e1
    subst e1
    exact ⟨e4, e5⟩
theorem own_types19 {w : World} {base base' s s' n n' : Nat} {e e' : TypeId} {v v' : Value} {xs xs' : List Value} (h : w.ownsRow base e s v n xs) (h' : w.ownsRow base' e' s' v' n' xs') (hne : e ≠ e') : ∀ b, v.ownBlock = some b → v'.ownBlock ≠ some b := fun b hb hb' => by
  obtain ⟨c1, h1⟩ := own_type h b hb
  obtain ⟨c2, h2⟩ := own_type h' b hb'
  rw [h1] at h2
  injection h2 with h2
  injection h2 with _ h2 _
  exact hne h2
section
variable {w : World} {A : Option Addr} {n c : Nat} {zs : List AfS} {A2 : Option Addr} {n2 c2 lo' hi' : Nat} {ys : List FnV}
end
end Go.Proofs.YtdcnpaodcjfdbaaDoor

/- What the document's own Calc of layer 19 (model) returns. -/
namespace Go.Proofs.YtdcnpaodcjfdbaaDoor
open Go.RowKit
set_option linter.unusedVariables false

/-- A scalar is calculated; the error's number. -/
def mdCalc (l : Fns) (L : Afs) (op d : Int) (ks : List Int) : Afs × Int :=
  if mdRight l L = false then (L, 9) else if ks.length ≠ 3 ∨ op < 1 ∨ 10 < op then (L, 1) else if (ks.all fun k => mdHas L d k) = false then (L, 2) else if (ks.all fun k => decide (((afAt L d.toNat).getD k.toNat vl0).kind = 1)) = false then (L, 5)
  else (mdWith L d.toNat (ks.getD 0 0).toNat ⟨1, fCalc op.toNat ((afAt L d.toNat).getD (ks.getD 1 0).toNat vl0).bits ((afAt L d.toNat).getD (ks.getD 2 0).toNat vl0).bits, 0, 0⟩, 0)
theorem fCalc_lt19 (n a b : Nat) (ha : a < 18446744073709551616) (hb : b < 18446744073709551616) : fCalc n a b < 18446744073709551616 := by
  have hn : fNaN < 18446744073709551616 := by decide
  have one : ∀ r, r < 18446744073709551616 → fOne r < 18446744073709551616 := fun r h => by unfold fOne; split <;> assumption
  have can : ∀ o : Option Nat, (∀ r, o = some r → r < 18446744073709551616) → fCanon o < 18446744073709551616 := fun o ho => by
    cases o with
    | none => exact hn
    | some r => exact one r (ho r rfl)
  unfold fCalc
  repeat' split
  · exact can _ (fun r h => Ieee.double.add_lt h)
  · exact can _ (fun r h => Ieee.double.sub_lt h)
  · exact can _ (fun r h => Ieee.double.mul_lt h)
  · exact can _ (fun r h => Ieee.double.div_lt h)
  · exact truth_lt _
  · exact truth_lt _
  · unfold fMin; repeat' split
    all_goals assumption
  · unfold fMax; repeat' split
    all_goals assumption
  · exact one _ (flip_lt a)
  · exact can _ (fun r h => Ieee.double.sqrt_lt h)
section
variable {w : World} {A : Option Addr} {n c : Nat} {zs : List AfS} {A2 : Option Addr} {n2 c2 lo' hi' : Nat} {ys : List FnV} {A3 : Option Addr} {n3 c3 : Nat} {ks : List Int}
end
end Go.Proofs.YtdcnpaodcjfdbaaDoor

/- Frames without addresses (layer 19): what is answered without an error is right; a frame that is called, and returns; plain facts. -/
namespace Go.Proofs.YtdcnpaodcjfdbaaDoor
open Go.RowKit
set_option linter.unusedVariables false

theorem mdHas_iff {L : Afs} {d i : Int} : mdHas L d i = true ↔ (0 ≤ d ∧ d < (L.length : Int) ∧ 0 ≤ i ∧ i < ((afAt L d.toNat).length : Int)) := by unfold mdHas; exact decide_eq_true_iff
theorem mdWith_length (L : Afs) (d i : Nat) (v : VlV) : (mdWith L d i v).length = L.length := by unfold mdWith; simp
theorem mdWith_getD (L : Afs) (d i : Nat) (v : VlV) (k : Nat) : (mdWith L d i v).getD k (0, []) = if d = k ∧ k < L.length then ((L.getD d (0, [])).1, (afAt L d).set i v) else L.getD k (0, []) := by
  unfold mdWith
  rw [List.getD_eq_getElem?_getD, List.getElem?_set]
  by_cases h : d = k
  · subst h
    by_cases h2 : d < L.length
    · rw [if_pos rfl, if_pos h2, if_pos ⟨rfl, h2⟩]; rfl
    · rw [if_pos rfl, if_neg h2, if_neg (fun c => h2 c.2), List.getD_eq_getElem?_getD, List.getElem?_eq_none (by omega)]
  · rw [if_neg h, if_neg (fun c => h c.1), List.getD_eq_getElem?_getD]
theorem mdWith_fn (L : Afs) (d i : Nat) (v : VlV) (k : Nat) : ((mdWith L d i v).getD k (0, [])).1 = (L.getD k (0, [])).1 := by
  rw [mdWith_getD]
  split
  · rename_i h; rw [h.1]
  · rfl
theorem mdWith_at (L : Afs) (d i : Nat) (v : VlV) (k : Nat) : afAt (mdWith L d i v) k = if d = k ∧ k < L.length then (afAt L d).set i v else afAt L k := by
  unfold afAt
  rw [mdWith_getD]
  split <;> rfl
theorem mdWith_slots (L : Afs) (d i : Nat) (v : VlV) (k : Nat) : (afAt (mdWith L d i v) k).length = (afAt L k).length := by
  rw [mdWith_at]
  split
  · rename_i h; rw [List.length_set, h.1]
  · rfl
theorem mdWith_has (L : Afs) (d i : Nat) (v : VlV) (a b : Int) : mdHas (mdWith L d i v) a b = mdHas L a b := by
  unfold mdHas; rw [mdWith_length, mdWith_slots]
theorem mdWith_fits (l : Fns) (L : Afs) (d i : Nat) (v : VlV) (k : Nat) (j : Int) (u : VlV) : mdFits l (mdWith L d i v) k j u = mdFits l L k j u := by
  unfold mdFits; rw [mdWith_fn, mdWith_has]
theorem mem_getD {L : Afs} {x : Int × List VlV} (h : x ∈ L) : ∃ d, d < L.length ∧ L.getD d (0, []) = x := by
  obtain ⟨d, hd⟩ := List.getElem?_of_mem h
  exact ⟨d, (List.getElem?_eq_some_iff.1 hd).1, by rw [List.getD_eq_getElem?_getD, hd]; rfl⟩
theorem getD_mem {L : Afs} {d : Nat} (h : d < L.length) : L.getD d (0, []) ∈ L := by
  rw [List.getD_eq_getElem?_getD, List.getElem?_eq_getElem h]; exact List.getElem_mem h
theorem mdSized_at {l : Fns} {L : Afs} : mdSized l L = true ↔ ∀ d, d < L.length → fSize l (L.getD d (0, [])).1 = ((afAt L d).length : Int) := by
  rw [mdSized_iff]
  constructor
  · intro h d hd; exact h _ (getD_mem hd)
  · intro h x hx
    obtain ⟨d, hd, rfl⟩ := mem_getD hx
    exact h d hd
/-- A row that is right, with a value that may be there, is right. -/
theorem mdWith_right {l : Fns} {L : Afs} {d i : Int} {v : VlV} (hR : mdRight l L = true) (hh : mdHas L d i = true) (hf : mdFits l L d.toNat i v = 0) : mdRight l (mdWith L d.toNat i.toNat v) = true := by
  obtain ⟨r1, r2⟩ := mdRight_iff.1 hR
  obtain ⟨h0, h1, h2, h3⟩ := mdHas_iff.1 hh
  refine mdRight_iff.2 ⟨mdSized_at.2 fun k hk => ?_, fun k hk => mdFit_iff.2 fun j hj => ?_⟩
  · rw [mdWith_fn, mdWith_slots]
    rw [mdWith_length] at hk
    exact mdSized_at.1 r1 k hk
  · rw [mdWith_length] at hk
    rw [mdWith_slots] at hj
    rw [mdWith_fits, mdWith_at]
    have ho := mdFit_iff.1 (r2 k hk) j hj
    by_cases c : d.toNat = k ∧ k < L.length
    · rw [if_pos c]
      obtain ⟨c1, c2⟩ := c
      subst c1
      rw [List.getD_eq_getElem?_getD, List.getElem?_set]
      by_cases c3 : i.toNat = j
      · rw [if_pos c3, if_pos (by omega)]
        show mdFits l L d.toNat j v = 0
        rw [← c3, show ((i.toNat : Nat) : Int) = i by omega]
        exact hf
      · rw [if_neg c3, ← List.getD_eq_getElem?_getD]; exact ho
    · rw [if_neg c]; exact ho
theorem mdSet_right {l : Fns} {L : Afs} (hR : mdRight l L = true) (d i : Int) (v : VlV) : (mdSet l L d i v).2 ≠ 9 ∧ mdRight l (mdSet l L d i v).1 = true ∧ ((mdSet l L d i v).2 ≠ 0 → (mdSet l L d i v).1 = L) := by
  unfold mdSet
  rw [if_neg (by rw [hR]; simp)]
  cases hh : mdHas L d i with
  | false => rw [if_pos rfl]; exact ⟨by simp, hR, fun _ => rfl⟩
  | true =>
    rw [if_neg (by simp)]
    by_cases hf : mdFits l L d.toNat i v = 0
    · rw [if_neg (fun c => c hf)]
      exact ⟨by simp, mdWith_right hR hh hf, fun c => absurd rfl c⟩
    · rw [if_pos hf]
      refine ⟨?_, hR, fun _ => rfl⟩
      show mdFits l L d.toNat i v ≠ 9
      unfold mdFits
      split; · simp
      split; · simp
      split; · simp
      split; · simp
      · simp
theorem mdGet_no9 {l : Fns} {L : Afs} (hR : mdRight l L = true) (d i : Int) : (mdGet l L d i).2 = 0 ∨ (mdGet l L d i).2 = 2 := by
  unfold mdGet
  rw [if_neg (by rw [hR]; simp)]
  split
  · exact Or.inr rfl
  · exact Or.inl rfl
theorem mdRefers_no9 {l : Fns} {L : Afs} (hR : mdRight l L = true) (d i : Int) : (mdRefers l L d i).2 ≠ 9 := by
  have := mdGet_no9 hR d i
  unfold mdRefers
  split
  · omega
  · split
    · simp
    · split
      · simp
      · simp
theorem mdLoad_no9 {l : Fns} {L : Afs} (hR : mdRight l L = true) (d i : Int) : (mdLoad l L d i).2 ≠ 9 := by
  have := mdRefers_no9 hR d i
  unfold mdLoad
  split
  · exact this
  · simp
theorem vMay_scalar (b : Nat) : vMay ⟨1, b, 0, 0⟩ = true := by unfold vMay; simp
/-- A scalar's slot has another scalar. -/
theorem mdFits_scalar {l : Fns} {L : Afs} {d : Nat} {i : Int} {v : VlV} (h : mdFits l L d i v = 0) (hk : v.kind = 1) (b : Nat) : mdFits l L d i ⟨1, b, 0, 0⟩ = 0 := by
  unfold mdFits at h
  split at h
  · exact absurd h (by decide)
  · split at h
    · exact absurd h (by decide)
    · rename_i h2
      unfold mdFits
      rw [vMay_scalar, if_neg (by simp)]
      rw [if_neg (by
        rw [decide_eq_true hk] at h2
        simpa using h2), if_neg (by simp), if_neg (by simp)]
theorem mdAt_fits {l : Fns} {L : Afs} {d i : Int} (hR : mdRight l L = true) (hh : mdHas L d i = true) : mdFits l L d.toNat i ((afAt L d.toNat).getD i.toNat vl0) = 0 := by
  obtain ⟨r1, r2⟩ := mdRight_iff.1 hR
  obtain ⟨h0, h1, h2, h3⟩ := mdHas_iff.1 hh
  have := mdFit_iff.1 (r2 d.toNat (by omega)) i.toNat (by omega)
  rw [show ((i.toNat : Nat) : Int) = i by omega] at this
  exact this
theorem mdWrite_right {l : Fns} {L : Afs} (hR : mdRight l L = true) (d i : Int) (b : Nat) : (mdWrite l L d i b).2 ≠ 9 ∧ mdRight l (mdWrite l L d i b).1 = true ∧ ((mdWrite l L d i b).2 ≠ 0 → (mdWrite l L d i b).1 = L) := by
  have h9 := mdRefers_no9 hR d i
  unfold mdWrite
  by_cases h0 : (mdRefers l L d i).2 = 0
  · rw [if_neg (fun c => c h0)]
    obtain ⟨v, hv⟩ : ∃ v, mdRefers l L d i = (v, 0) := ⟨_, Prod.ext rfl h0⟩
    rw [hv]
    obtain ⟨g1, g2, g3⟩ := mdRefers_ok hv
    simp only
    by_cases hk : ((afAt L v.depth.toNat).getD v.slot.toNat vl0).kind = 1
    · rw [if_neg (fun c => c hk)]
      exact ⟨by simp, mdWith_right hR g3 (mdFits_scalar (mdAt_fits hR g3) hk b), fun c => absurd rfl c⟩
    · rw [if_pos hk]
      exact ⟨by simp, hR, fun _ => rfl⟩
  · rw [if_pos h0]
    exact ⟨h9, hR, fun _ => rfl⟩
theorem mdCalc_right {l : Fns} {L : Afs} (hR : mdRight l L = true) (op d : Int) (ks : List Int) : (mdCalc l L op d ks).2 ≠ 9 ∧ mdRight l (mdCalc l L op d ks).1 = true ∧ ((mdCalc l L op d ks).2 ≠ 0 → (mdCalc l L op d ks).1 = L) := by
  unfold mdCalc
  rw [if_neg (by rw [hR]; simp)]
  split
  · exact ⟨by simp, hR, fun _ => rfl⟩
  · rename_i h1
    cases h2 : ks.all fun k => mdHas L d k with
    | false => rw [if_pos rfl]; exact ⟨by simp, hR, fun _ => rfl⟩
    | true =>
      rw [if_neg (by simp)]
      cases h3 : ks.all fun k => decide (((afAt L d.toNat).getD k.toNat vl0).kind = 1) with
      | false => rw [if_pos rfl]; exact ⟨by simp, hR, fun _ => rfl⟩
      | true =>
        rw [if_neg (by simp)]
        have hl : 0 < ks.length := by omega
        have hm : ks.getD 0 0 ∈ ks := by rw [List.getD_eq_getElem?_getD, List.getElem?_eq_getElem hl]; exact List.getElem_mem hl
        have hh := List.all_eq_true.1 h2 _ hm
        have hk := of_decide_eq_true (List.all_eq_true.1 h3 _ hm)
        exact ⟨by simp, mdWith_right hR hh (mdFits_scalar (mdAt_fits hR hh) hk _), fun c => absurd rfl c⟩
theorem append_getD (L : Afs) (x : Int × List VlV) (k : Nat) : (L ++ [x]).getD k (0, []) = if k < L.length then L.getD k (0, []) else if k = L.length then x else (0, []) := by
  rw [List.getD_eq_getElem?_getD]
  by_cases h : k < L.length
  · rw [if_pos h, List.getElem?_append_left h, List.getD_eq_getElem?_getD]
  · rw [if_neg h, List.getElem?_append_right (by omega)]
    by_cases h2 : k = L.length
    · subst h2; rw [if_pos rfl, Nat.sub_self]; rfl
    · rw [if_neg h2, List.getElem?_eq_none (by simp; omega)]; rfl
theorem append_has {L : Afs} (x : Int × List VlV) {a b : Int} (h : mdHas L a b = true) : mdHas (L ++ [x]) a b = true := by
  obtain ⟨h0, h1, h2, h3⟩ := mdHas_iff.1 h
  refine mdHas_iff.2 ⟨h0, by rw [List.length_append]; simp; omega, h2, ?_⟩
  unfold afAt at *
  rw [append_getD, if_pos (by omega)]
  exact h3
theorem append_fits {l : Fns} {L : Afs} (x : Int × List VlV) {k : Nat} (hk : k < L.length) {j : Int} {u : VlV} (h : mdFits l L k j u = 0) : mdFits l (L ++ [x]) k j u = 0 := by
  unfold mdFits at h ⊢
  rw [append_getD, if_pos hk]
  split at h
  · exact absurd h (by decide)
  · rename_i h1
    rw [if_neg h1]
    split at h
    · exact absurd h (by decide)
    · rename_i h2
      rw [if_neg h2]
      split at h
      · exact absurd h (by decide)
      · rename_i h3
        split at h
        · exact absurd h (by decide)
        · rename_i h4
          rw [if_neg (fun c => by
            cases hh : mdHas L u.depth u.slot with
            | false => exact h3 ⟨c.1, hh⟩
            | true => rw [append_has x hh] at c; cases c.2), if_neg h4]
theorem mdNew_at (l : Fns) (f : Int) (n j : Nat) (h : j < n) : (mdNew l f n).getD j vl0 = if fPtr l f j = true then vl0 else ⟨1, 0, 0, 0⟩ := by
  unfold mdNew
  rw [List.getD_eq_getElem?_getD, List.getElem?_map, List.getElem?_range h]; rfl
theorem mdCall_right {l : Fns} {L : Afs} (hR : mdRight l L = true) (f : Int) : (mdCall l L f).2 ≠ 9 ∧ mdRight l (mdCall l L f).1 = true ∧ ((mdCall l L f).2 ≠ 0 → (mdCall l L f).1 = L) := by
  unfold mdCall
  rw [if_neg (by rw [hR]; simp)]
  split
  · exact ⟨by simp, hR, fun _ => rfl⟩
  · rename_i hf
    refine ⟨by simp, ?_, fun c => absurd rfl c⟩
    obtain ⟨r1, r2⟩ := mdRight_iff.1 hR
    obtain ⟨n, hn⟩ : ∃ n : Nat, fSize l f = (n : Int) := ⟨(fSize l f).toNat, by omega⟩
    simp only [hn, Int.toNat_natCast]
    refine mdRight_iff.2 ⟨mdSized_at.2 fun k hk => ?_, fun k hk => mdFit_iff.2 fun j hj => ?_⟩
    · unfold afAt
      rw [append_getD]
      by_cases c : k < L.length
      · rw [if_pos c]; exact mdSized_at.1 r1 k c
      · rw [List.length_append] at hk
        simp only [List.length_singleton] at hk
        rw [if_neg c, if_pos (by omega), mdNew_length]
        exact hn
    · by_cases c : k < L.length
      · have e : afAt (L ++ [(f, mdNew l f n)]) k = afAt L k := by unfold afAt; rw [append_getD, if_pos c]
        rw [e] at hj ⊢
        exact append_fits _ c (mdFit_iff.1 (r2 k c) j hj)
      · rw [List.length_append] at hk
        simp only [List.length_singleton] at hk
        have e : afAt (L ++ [(f, mdNew l f n)]) k = mdNew l f n := by unfold afAt; rw [append_getD, if_neg c, if_pos (by omega)]
        rw [e] at hj ⊢
        rw [mdNew_length] at hj
        rw [mdNew_at _ _ _ _ hj]
        have e2 : ((L ++ [(f, mdNew l f n)]).getD k (0, [])).1 = f := by rw [append_getD, if_neg c, if_pos (by omega)]
        cases hp : fPtr l f j with
        | true =>
          unfold mdFits
          rw [e2, hp]
          rfl
        | false =>
          unfold mdFits
          rw [e2, hp]
          rfl
theorem take_has {L : Afs} {m : Nat} {a b : Int} (h : mdHas L a b = true) (ha : a < (m : Int)) : mdHas (L.take m) a b = true := by
  obtain ⟨h0, h1, h2, h3⟩ := mdHas_iff.1 h
  refine mdHas_iff.2 ⟨h0, by rw [List.length_take]; omega, h2, ?_⟩
  unfold afAt at *
  rw [List.getD_eq_getElem?_getD, List.getElem?_take_of_lt (by omega), ← List.getD_eq_getElem?_getD]
  exact h3
theorem take_right {l : Fns} {L : Afs} (hR : mdRight l L = true) (m : Nat) : mdRight l (L.take m) = true := by
  obtain ⟨r1, r2⟩ := mdRight_iff.1 hR
  have hg : ∀ k, k < m → (L.take m).getD k (0, []) = L.getD k (0, []) := fun k hk => by
    rw [List.getD_eq_getElem?_getD, List.getElem?_take_of_lt hk, ← List.getD_eq_getElem?_getD]
  refine mdRight_iff.2 ⟨mdSized_at.2 fun k hk => ?_, fun k hk => mdFit_iff.2 fun j hj => ?_⟩
  · rw [List.length_take] at hk
    unfold afAt
    rw [hg k (by omega)]
    exact mdSized_at.1 r1 k (by omega)
  · rw [List.length_take] at hk
    have e : afAt (L.take m) k = afAt L k := by unfold afAt; rw [hg k (by omega)]
    rw [e] at hj ⊢
    have h := mdFit_iff.1 (r2 k (by omega)) j hj
    obtain ⟨k1, k2, k3⟩ := mdFits_kind h
    unfold mdFits at h ⊢
    rw [hg k (by omega)]
    split at h
    · exact absurd h (by decide)
    · rename_i h1
      rw [if_neg h1]
      split at h
      · exact absurd h (by decide)
      · rename_i h2
        rw [if_neg h2, if_neg (fun c => by
          obtain ⟨q1, q2⟩ := k3 c.1
          rw [take_has q1 (by omega)] at c
          cases c.2), if_neg (fun c => by
          have := (k3 c.1).2
          omega)]
theorem mdReturn_right {l : Fns} {L : Afs} (hR : mdRight l L = true) : (mdReturn l L).2 ≠ 9 ∧ mdRight l (mdReturn l L).1 = true ∧ ((mdReturn l L).2 ≠ 0 → (mdReturn l L).1 = L) := by
  unfold mdReturn
  rw [if_neg (by rw [hR]; simp)]
  split
  · exact ⟨by simp, hR, fun _ => rfl⟩
  · exact ⟨by simp, take_right hR _, fun c => absurd rfl c⟩
/-- A frame that is called, whose slots are set, and that returns. -/
theorem md_back {l : Fns} {L : Afs} {M : Afs} {f : Int} (hR : mdRight l L = true) (hc : mdCall l L f = (M, 0)) (i : Int) (v : VlV) : mdReturn l (mdSet l M (L.length : Int) i v).1 = if L.length = 0 then ((mdSet l M (L.length : Int) i v).1, 8) else (L, 0) := by
  have hM : mdRight l M = true := by have := (mdCall_right hR f).2.1; rw [hc] at this; exact this
  have hS := (mdSet_right hM (L.length : Int) i v).2.1
  obtain ⟨x, hx⟩ : ∃ x, M = L ++ [x] := by
    unfold mdCall at hc
    rw [if_neg (by rw [hR]; simp)] at hc
    split at hc
    · injection hc with _ hc; exact absurd hc (by decide)
    · injection hc with hc _; exact ⟨_, hc.symm⟩
  have hlen : (mdSet l M (L.length : Int) i v).1.length = L.length + 1 := by
    unfold mdSet
    split
    · rw [hx]; simp
    · split
      · rw [hx]; simp
      · split
        · rw [hx]; simp
        · rw [mdWith_length, hx]; simp
  have htake : (mdSet l M (L.length : Int) i v).1.take L.length = L := by
    have e1 : M.take L.length = L := by rw [hx, List.take_left']; rfl
    unfold mdSet
    split
    · exact e1
    · split
      · exact e1
      · split
        · exact e1
        · unfold mdWith
          rw [Int.toNat_natCast]
          simp only
          rw [List.take_set_of_le (by omega)]
          exact e1
  unfold mdReturn
  rw [if_neg (by rw [hS]; simp), hlen]
  by_cases h0 : L.length = 0
  · rw [if_pos (by omega), if_pos h0]
  · rw [if_neg (by omega), if_neg h0, Nat.add_sub_cancel, htake]
/-- A row that isn't right is refused. -/
theorem md_wrong {l : Fns} {L : Afs} (hR : mdRight l L = false) : (∀ f, mdCall l L f = (L, 9)) ∧ mdReturn l L = (L, 9) ∧ (∀ d i v, mdSet l L d i v = (L, 9)) ∧ (∀ d i, mdGet l L d i = (vl0, 9)) ∧ (∀ d i, mdLoad l L d i = (vl0, 9)) ∧ (∀ d i b, mdWrite l L d i b = (L, 9)) ∧ ∀ op d ks, mdCalc l L op d ks = (L, 9) := by
  have hg : ∀ d i, mdGet l L d i = (vl0, 9) := fun d i => by unfold mdGet; rw [hR, if_pos rfl]
  have hr : ∀ d i, mdRefers l L d i = (vl0, 9) := fun d i => by unfold mdRefers; rw [hg, if_pos (by simp)]
  refine ⟨fun f => ?_, ?_, fun d i v => ?_, hg, fun d i => ?_, fun d i b => ?_, fun op d ks => ?_⟩
  · unfold mdCall; rw [hR, if_pos rfl]
  · unfold mdReturn; rw [hR, if_pos rfl]
  · unfold mdSet; rw [hR, if_pos rfl]
  · unfold mdLoad; rw [hr, if_pos (by simp)]
  · unfold mdWrite; rw [hr, if_pos (by simp)]
  · unfold mdCalc; rw [hR, if_pos rfl]
end Go.Proofs.YtdcnpaodcjfdbaaDoor
