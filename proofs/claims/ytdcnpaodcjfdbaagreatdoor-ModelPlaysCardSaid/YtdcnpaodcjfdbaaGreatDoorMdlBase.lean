/- Several texts in one: MdlMath, MdlRef, MdlSame, MdlGet, MdlWith, MdlSet, MdlCall, MdlCalc, MdlLaw. -/
import Derived.Test.YtdcnpaodcjfdbaaGreatDoorSlsAll
import Derived.Test.YtdcnpaodcjfdbaaGreatDoorAppendRow
import Derived.Test.YtdcnpaodcjfdbaaGreatDoorFloatCalc
/- Frames without addresses (layer 19): plain functions, and where rows of them lie. -/
namespace Go.Proofs.YtdcnpaodcjfdbaaGreatDoor
open Go.RowKit
set_option linter.unusedVariables false

abbrev Afs := List (Int × List VlV)
/-- The values of one frame. -/
def afAt (L : Afs) (d : Nat) : List VlV := (L.getD d (0, [])).2
/-- Is there a slot? -/
def mdHas (L : Afs) (d i : Int) : Bool := decide (0 ≤ d ∧ d < (L.length : Int) ∧ 0 ≤ i ∧ i < ((afAt L d.toNat).length : Int))
/-- May a value be in a slot that is there? The error's number. -/
def mdFits (l : Fns) (L : Afs) (d : Nat) (i : Int) (v : VlV) : Int :=
  if vMay v = false then 1 else if fPtr l (L.getD d (0, [])).1 i = decide (v.kind = 1) then 5 else if v.kind = 2 ∧ mdHas L v.depth v.slot = false then 2 else if v.kind = 2 ∧ (d : Int) < v.depth then 7 else 0
/-- Has each frame as many slots as its function? -/
def mdSized (l : Fns) (L : Afs) : Bool := L.all fun x => decide (fSize l x.1 = (x.2.length : Int))
/-- May each value be? -/
def mdFit (l : Fns) (L : Afs) (d : Nat) : Bool := (List.range (afAt L d).length).all fun (i : Nat) => decide (mdFits l L d i ((afAt L d).getD i vl0) = 0)
/-- Is it right? -/
def mdRight (l : Fns) (L : Afs) : Bool := mdSized l L && (List.range L.length).all fun d => mdFit l L d
/-- How many words it takes. -/
def mdWords (l : Fns) (L : Afs) : Int := L.foldl (fun n x => n + fWords l x.1) 0
/-- More than is gone through? -/
def mdGreat (L : Afs) : Bool := decide (30 < L.length) || L.any fun x => decide (100 < x.2.length)

/-- A frame, and where its values lie. -/
structure AfS where
  fn : Int
  A : Option Addr
  n : Nat
  c : Nat
  vs : List VlV
def afcells (z : AfS) : List Value := [.int .i64 z.fn, .slice z.A z.n z.c]
theorem afcells_len (z : AfS) : (afcells z).length = 2 := rfl
def afvals (zs : List AfS) : Afs := zs.map fun z => (z.fn, z.vs)
/-- What a value's numbers are. -/
structure VIn (v : VlV) : Prop where
  kind : v.kind < 256
  bits : v.bits < 18446744073709551616
  depth : in64 v.depth
  slot : in64 v.slot
/-- A frame's values lie below B. -/
structure AfOk (w : World) (B : Nat) (z : AfS) : Prop where
  vals : VlRow w B z.A z.n z.vs
  fn : in64 z.fn
  cap : z.n ≤ z.c
  max : z.c ≤ 9223372036854775807
  vin : ∀ v ∈ z.vs, VIn v
/-- The slice value '.slice A n c' has these frames. -/
structure AfRow (w : World) (B : Nat) (A : Option Addr) (n : Nat) (zs : List AfS) : Prop where
  row : RowOf (fun cs z => cs = afcells z) 2 w B A n zs
  each : ∀ z ∈ zs, AfOk w B z
theorem afvals_length (zs : List AfS) : (afvals zs).length = zs.length := by unfold afvals; simp
theorem afvals_at {zs : List AfS} {d : Nat} {z : AfS} (h : zs[d]? = some z) : (afvals zs).getD d (0, []) = (z.fn, z.vs) := by
  unfold afvals; rw [List.getD_eq_getElem?_getD, List.getElem?_map, h]; rfl
theorem afAt_at {zs : List AfS} {d : Nat} {z : AfS} (h : zs[d]? = some z) : afAt (afvals zs) d = z.vs := by unfold afAt; rw [afvals_at h]
section
variable {w w' : World} {B B' n : Nat} {A : Option Addr} {zs : List AfS} {z : AfS}
theorem AfOk.below (h : AfOk w B z) (hb : Below B w w') : AfOk w' B z := ⟨h.vals.below hb, h.fn, h.cap, h.max, h.vin⟩
theorem AfOk.more (h : AfOk w B z) (hB : B ≤ B') : AfOk w B' z := ⟨h.vals.more hB, h.fn, h.cap, h.max, h.vin⟩
theorem AfOk.small (h : AfOk w B z) : z.n ≤ 9223372036854775807 := Nat.le_trans h.cap h.max
theorem AfOk.len (h : AfOk w B z) : z.vs.length = z.n := h.vals.len
theorem AfRow.len (h : AfRow w B A n zs) : zs.length = n := h.row.1
theorem AfRow.below (h : AfRow w B A n zs) (hb : Below B w w') : AfRow w' B A n zs := ⟨RowOf.below h.row hb, fun z hz => (h.each z hz).below hb⟩
theorem AfRow.more (h : AfRow w B A n zs) (hB : B ≤ B') : AfRow w B' A n zs := ⟨RowOf.more h.row hB, fun z hz => (h.each z hz).more hB⟩
theorem AfRow.step (h : AfRow w w.heap.size A n zs) (hb : Below w.heap.size w w') : AfRow w' w'.heap.size A n zs := (h.below hb).more hb.size
theorem AfRow.at_ (h : AfRow w B A n zs) {j : Nat} (hj : j < n) : ∃ b off z, A = some ⟨b, off, none⟩ ∧ b < B ∧ zs[j]? = some z ∧ w.cell? ⟨b, off + j * 2, none⟩ = some (.int .i64 z.fn) ∧ w.cell? ⟨b, off + j * 2 + 1, none⟩ = some (.slice z.A z.n z.c) ∧ AfOk w B z := by
  obtain ⟨b, off, z, cs, e, hb, hz, _, hc, rfl⟩ := RowOf.at_ h.row hj
  exact ⟨b, off, z, e, hb, hz, hc 0 (by omega), hc 1 (by omega), h.each z (List.mem_of_getElem? hz)⟩
theorem AfOk.at_ (h : AfOk w B z) {j : Nat} (hj : j < z.n) : ∃ b off v, z.A = some ⟨b, off, none⟩ ∧ b < B ∧ z.vs[j]? = some v ∧ VIn v ∧ w.cell? ⟨b, off + j * 4, none⟩ = some (.int .u8 v.kind) ∧ w.cell? ⟨b, off + j * 4 + 1, none⟩ = some (.int .u64 v.bits) ∧ w.cell? ⟨b, off + j * 4 + 2, none⟩ = some (.int .i64 v.depth) ∧ w.cell? ⟨b, off + j * 4 + 3, none⟩ = some (.int .i64 v.slot) := by
  obtain ⟨b, off, v, e, hb, hv, h0, h1, h2, h3⟩ := h.vals.at_ hj
  exact ⟨b, off, v, e, hb, hv, h.vin v (List.mem_of_getElem? hv), h0, h1, h2, h3⟩
end
theorem mdHas_out {L : Afs} {d i : Int} (h : d < 0 ∨ (L.length : Int) ≤ d ∨ i < 0) : mdHas L d i = false := by unfold mdHas; exact decide_eq_false (by omega)
theorem mdHas_in {zs : List AfS} {d i : Int} {z : AfS} (h : zs[d.toNat]? = some z) (hd : 0 ≤ d) (hi : 0 ≤ i) : mdHas (afvals zs) d i = decide (i < (z.vs.length : Int)) := by
  unfold mdHas
  rw [afAt_at h, decide_eq_decide, afvals_length]
  have := (List.getElem?_eq_some_iff.1 h).1
  omega
theorem mdRight_iff {l : Fns} {L : Afs} : mdRight l L = true ↔ mdSized l L = true ∧ ∀ d, d < L.length → mdFit l L d = true := by
  unfold mdRight
  rw [Bool.and_eq_true, List.all_eq_true]
  simp only [List.mem_range]
theorem mdFit_iff {l : Fns} {L : Afs} {d : Nat} : mdFit l L d = true ↔ ∀ i : Nat, i < (afAt L d).length → mdFits l L d i ((afAt L d).getD i vl0) = 0 := by
  unfold mdFit
  rw [List.all_eq_true]
  simp only [List.mem_range, decide_eq_true_iff]
theorem mdSized_iff {l : Fns} {L : Afs} : mdSized l L = true ↔ ∀ x ∈ L, fSize l x.1 = (x.2.length : Int) := by
  unfold mdSized
  rw [List.all_eq_true]
  simp only [decide_eq_true_iff]
theorem mdSized_take (l : Fns) (L : Afs) (j : Nat) (x : Int × List VlV) (h : L[j]? = some x) : mdSized l (L.take (j + 1)) = (mdSized l (L.take j) && decide (fSize l x.1 = (x.2.length : Int))) := by
  unfold mdSized
  rw [List.take_add_one, h, List.all_append]; simp
theorem mdWords_take (l : Fns) (L : Afs) (j : Nat) (x : Int × List VlV) (h : L[j]? = some x) : mdWords l (L.take (j + 1)) = mdWords l (L.take j) + fWords l x.1 := by
  unfold mdWords
  rw [List.take_add_one, h, List.foldl_append]; rfl
end Go.Proofs.YtdcnpaodcjfdbaaGreatDoor

/- What the document's own functions of layer 19 (model) return: has, Great, Words, Fits. -/
namespace Go.Proofs.YtdcnpaodcjfdbaaGreatDoor
open Go.RowKit
set_option linter.unusedVariables false

section
variable {w : World} {A : Option Addr} {n c B : Nat} {zs : List AfS}
theorem ref_mdhas (h : AfRow w B A n zs) (hn : n ≤ 9223372036854775806) (d i : Int) (hd : in64 d) (hi : in64 i) (b : Bool) (hb : mdHas (afvals zs) d i = b) :
    Calls Tryz.prog 52 #[.slice A n c, .int .i64 d, .int .i64 i] w fun e w' => e = .returned (.bool b) ∧ w = w' := by
  have hlen : ((afvals zs).length : Int) = (n : Int) := by rw [afvals_length, h.len]
  unfold in64 at hd hi
  by_cases h1 : d < 0
  · rw [mdHas_out (Or.inl h1)] at hb
    subst hb
    clear h hlen
    --@1
    go_enter Tryz.func52, Tryz.ntmps52
    go_wp2
    go_ret
    exact ⟨rfl, rfl⟩
  by_cases h2 : (n : Int) ≤ d
  · rw [mdHas_out (Or.inr (Or.inl (by omega)))] at hb
    subst hb
    clear h hlen
    --@2
    go_enter Tryz.func52, Tryz.ntmps52
    go_wp2
    go_ret
    exact ⟨rfl, rfl⟩
  by_cases h3 : i < 0
  · rw [mdHas_out (Or.inr (Or.inr h3))] at hb
    subst hb
    clear h hlen
    --@3
    go_enter Tryz.func52, Tryz.ntmps52
    go_wp2
    go_ret
    exact ⟨rfl, rfl⟩
  obtain ⟨bb, off, z, rfl, hbl, hx, hc0, hc1, hok⟩ := h.at_ (j := d.toNat) (by omega)
  rw [mdHas_in hx (by omega) (by omega), hok.len] at hb
  have hsm := hok.small
  obtain ⟨zf, zA, zn, zc, zvs⟩ := z
  simp only at *
  have f1 : d < (n : Int) := by omega
  have f2 : 0 ≤ d := by omega
  have f3 : 0 ≤ i := by omega
  clear h hlen hx hok hc0
  --@4
  go_enter Tryz.func52, Tryz.ntmps52
  go_wp2
  go_ret
  exact ⟨by (first | exact congrArg Ending.returned (congrArg Value.bool hb) | (rw [← hb]; rfl)), rfl⟩

theorem ref_mdgreat (hs : AfRow w B A n zs) (hn : n ≤ 9223372036854775807) :
    Calls Tryz.prog 6 #[.slice A n c] w fun e w' => e = .returned (.bool (mdGreat (afvals zs))) ∧ w = w' := by
  have hl := hs.len
  by_cases hbig : 30 < n
  · have E : mdGreat (afvals zs) = true := by unfold mdGreat; rw [afvals_length, hl, decide_eq_true hbig]; rfl
    rw [E]
    clear hs E hl
    --@5
    go_enter Tryz.func6, Tryz.ntmps6
    go_wp2
    go_ret
    exact ⟨rfl, rfl⟩
  · have E0 : mdGreat (afvals zs) = (afvals zs).any fun x => decide (100 < x.2.length) := by unfold mdGreat; rw [afvals_length, hl, decide_eq_false hbig]; rfl
    have HE := hidb E0
    have HS := hidb hs
    have HL := hidb hl
    clear hs E0 hl
    --@6
    go_enter Tryz.func6, Tryz.ntmps6
    go_wp2
    go_loop [9] (fun k => ∃ j : Nat, j ≤ n ∧ Hid (∀ i y, i < j → zs[i]? = some y → ¬ 100 < y.vs.length) ∧ k = .int .i64 j) (fun k => (n - intOf k).toNat)
    case atStart => exact ⟨0, by omega, hidb (fun i y h => absurd h (Nat.not_lt_zero _)), rfl⟩
    case round =>
      obtain ⟨j, hj, HA, rfl⟩ := hrel
      by_cases hlt : j < n
      · obtain ⟨b, off, y, rfl, _, hy, hc0, hc1, hok⟩ := HS.out.at_ hlt
        have HY := hidb hy
        have hyl := hok.len
        have hsm := hok.small
        have HYL := hidb hyl
        clear hy hok hyl
        by_cases hb : 100 < y.n
        · have HF : Hid (mdGreat (afvals zs) = true) := hidb (by
            rw [HE.out, List.any_eq_true]
            exact ⟨(y.fn, y.vs), List.mem_map.2 ⟨y, List.mem_of_getElem? HY.out, rfl⟩, decide_eq_true (by show 100 < y.vs.length; rw [HYL.out]; exact hb)⟩)
          go_wp2
          go_ret
          exact ⟨by rw [HF.out]; rfl, rfl⟩
        · go_wp2
          go_round
          case rel =>
            refine ⟨j + 1, by omega, hidb (fun i z hi hz => ?_), by go_num⟩
            by_cases e : i = j
            · subst e
              rw [HY.out] at hz
              obtain rfl := Option.some.inj hz
              rw [HYL.out]; exact hb
            · exact HA.out i z (by omega) hz
          case measure => simp [intOf]; omega
      · have HF : Hid (mdGreat (afvals zs) = false) := hidb (by
          rw [HE.out, List.any_eq_false]
          intro f hf
          obtain ⟨y, hy, rfl⟩ := List.mem_map.1 hf
          obtain ⟨i, hi, rfl⟩ := List.getElem_of_mem hy
          have := HA.out i _ (by have := HL.out; omega) (List.getElem?_eq_getElem hi)
          exact fun c => this (of_decide_eq_true c))
        go_wp2
        go_ret
        exact ⟨by rw [HF.out]; rfl, rfl⟩

variable {A2 : Option Addr} {n2 c2 lo' hi' : Nat} {ys : List FnV}
theorem mdWords_range (l : Fns) (hl : ∀ x ∈ l, 0 ≤ x.1 ∧ x.1 ≤ 1000) (L : Afs) (j : Nat) : -(j : Int) ≤ mdWords l (L.take j) ∧ mdWords l (L.take j) ≤ 1002 * (j : Int) := by
  induction j with
  | zero => rw [List.take_zero]; unfold mdWords; simp
  | succ j ih =>
    cases h : L[j]? with
    | none =>
      have : L.length ≤ j := List.getElem?_eq_none_iff.1 h
      rw [List.take_of_length_le this] at ih
      rw [List.take_of_length_le (show L.length ≤ j + 1 by omega)]
      omega
    | some x =>
      rw [mdWords_take l L j x h]
      have := fSize_range hl x.1
      unfold fWords
      split <;> omega
theorem ref_mdwords (hs : AfRow w B A n zs) (hn : n ≤ 1000000) (hr : FnRow w lo' hi' A2 n2 ys) (hn2 : n2 ≤ 1000) (hl : ∀ x ∈ vals ys, 0 ≤ x.1 ∧ x.1 ≤ 1000) :
    Calls Tryz.prog 9 #[.slice A2 n2 c2, .slice A n c] w fun e w' => e = .returned (.int .i64 (mdWords (vals ys) (afvals zs))) ∧ w = w' := by
  have HS := hidb hs
  have HLN := hidb hs.len
  have HL := hidb hl
  have KW : Hid (∀ f, Calls Tryz.prog 22 #[.slice A2 n2 c2, .int .i64 f] w fun e w' => e = .returned (.int .i64 (fWords (vals ys) f)) ∧ w = w') := hidb (fun f => ref_fwordsR A2 n2 c2 ys lo' hi' w f hr hn2 (by have := fSize_range hl f; omega) (by have := fSize_range hl f; omega))
  clear hs hr hl
  --@7
  go_enter Tryz.func9, Tryz.ntmps9
  go_wp2
  go_loopw [9, 5, 6] (fun k v5 _ wr => ∃ (j : Nat) (s : Int), j ≤ n ∧ k = .int .i64 j ∧ v5 = .int .i64 s ∧ Hid (s = mdWords (vals ys) ((afvals zs).take j)) ∧ w = wr) (fun k _ _ _ => (n - intOf k).toNat)
  case atStart => exact ⟨0, 0, by omega, rfl, rfl, hidb rfl, rfl⟩
  case round =>
    obtain ⟨j, s, hj, rfl, rfl, HSU, rfl⟩ := hrel
    by_cases hlt : j < n
    · obtain ⟨b, off, y, rfl, _, hy, hc0, hc1, hok⟩ := HS.out.at_ hlt
      have kw := KW.out y.fn
      have hst := mdWords_take (vals ys) (afvals zs) j (y.fn, y.vs) (by unfold afvals; rw [List.getElem?_map, hy]; rfl)
      have hra := mdWords_range (vals ys) HL.out (afvals zs) (j + 1)
      rw [hst] at hra
      have hrb := mdWords_range (vals ys) HL.out (afvals zs) j
      simp only at hst hra
      rw [← HSU.out] at hst hra hrb
      obtain ⟨q, hq⟩ : ∃ q, fWords (vals ys) y.fn = q := ⟨_, rfl⟩
      rw [hq] at kw hst hra
      have HST := hidb hst
      have hin := hok.fn
      obtain ⟨yf, yA, yn, yc, yvs⟩ := y
      simp only at *
      have hw : wrap64 (s + q) = s + q := by unfold wrap64; omega
      clear hst hy hok hq hc1
      go_wp2_with (first | (go_at_call 22; (with_reducible refine kw.mono ?_); rintro e w1 ⟨rfl, rfl⟩))
      go_roundw
      case rel => exact ⟨j + 1, s + q, by omega, by go_num, by go_num, hidb HST.out.symm, by first | rfl | trivial⟩
      case measure => simp [intOf]; omega
    · have HE : Hid (s = mdWords (vals ys) (afvals zs)) := hidb (by
        have := HSU.out
        rw [List.take_of_length_le (by rw [afvals_length]; have := HLN.out; omega)] at this
        exact this)
      go_wp2
      go_ret
      exact ⟨by rw [← HE.out]; rfl, rfl⟩

theorem ref_mdfits (hs : AfRow w w.heap.size A n zs) (hn : n ≤ 1000000) (hr : FnRow w lo' hi' A2 n2 ys) (hhi : hi' ≤ w.heap.size) (hn2 : n2 ≤ 1000) (hl : ∀ x ∈ vals ys, 0 ≤ x.1 ∧ x.1 ≤ 1000) (d : Nat) (hd : d < n) (i : Int) (hi : in64 i) (v : VlV) (hv : VIn v) :
    Calls Tryz.prog 21 #[.slice A2 n2 c2, .slice A n c, .int .i64 d, .int .i64 i, vlC v] w fun e w' => e = .returned (.int .i64 (mdFits (vals ys) (afvals zs) d i v)) ∧ Below w.heap.size w w' := by
  obtain ⟨b, off, z, rfl, hbl, hx, hc0, _, hok⟩ := hs.at_ hd
  have hfn := hok.fn
  have hg := afvals_at hx
  obtain ⟨fn, hfe⟩ : ∃ fn, z.fn = fn := ⟨_, rfl⟩
  rw [hfe] at hc0 hg hfn
  obtain ⟨P, hP⟩ : ∃ P, fPtr (vals ys) fn i = P := ⟨_, rfl⟩
  have E0 : mdFits (vals ys) (afvals zs) d i v = if vMay v = false then 1 else if P = decide (v.kind = 1) then 5 else if v.kind = 2 ∧ mdHas (afvals zs) v.depth v.slot = false then 2 else if v.kind = 2 ∧ (d : Int) < v.depth then 7 else 0 := by
    unfold mdFits; rw [hg, hP]
  rw [E0]
  have cm := ref_slmay v hv.kind hv.bits (w.alloc (.cells #[.int .u8 (v.kind : Int), .int .u64 (v.bits : Int), .int .i64 v.depth, .int .i64 v.slot] 34)) _ rfl
  have hb0 := belF_al (Below.refl w.heap.size w) (.cells #[.int .u8 (v.kind : Int), .int .u64 (v.bits : Int), .int .i64 v.depth, .int .i64 v.slot] 34)
  have ch := fun W (hb : Below w.heap.size w W) => ref_mdhas (c := c) (hs.below hb) (by omega) v.depth v.slot hv.depth hv.slot _ rfl
  obtain ⟨k, vb, vd, vi⟩ := v
  obtain ⟨hk, hvb, hvd, hvi⟩ := hv
  unfold vlC at *
  simp only at *
  have hsz : (w.alloc (.cells #[.int .u8 (k : Int), .int .u64 (vb : Int), .int .i64 vd, .int .i64 vi] 34)).heap.size = w.heap.size + 1 := by simp
  have HB := hidb hb0
  have CH := hidb ch
  have HC : Hid (∀ W, Below (w.alloc (.cells #[.int .u8 (k : Int), .int .u64 (vb : Int), .int .i64 vd, .int .i64 vi] 34)).heap.size (w.alloc (.cells #[.int .u8 (k : Int), .int .u64 (vb : Int), .int .i64 vd, .int .i64 vi] 34)) W → W.cell? ⟨b, off + d * 2, none⟩ = some (.int .i64 fn) ∧ W.cell? ⟨w.heap.size, 0, none⟩ = some (.int .u8 (k : Int)) ∧ W.cell? ⟨w.heap.size, 2, none⟩ = some (.int .i64 vd) ∧ W.cell? ⟨w.heap.size, 3, none⟩ = some (.int .i64 vi)) := hidb (fun W hb => by
    have h1 : w.heap.size < (w.alloc (.cells #[.int .u8 (k : Int), .int .u64 (vb : Int), .int .i64 vd, .int .i64 vi] 34)).heap.size := by omega
    exact ⟨((belF_tr hb0 hb).cell (p := ⟨b, off + d * 2, none⟩) hbl).trans hc0, (hb.cell (p := ⟨w.heap.size, 0, none⟩) h1).trans (by simp), (hb.cell (p := ⟨w.heap.size, 2, none⟩) h1).trans (by simp), (hb.cell (p := ⟨w.heap.size, 3, none⟩) h1).trans (by simp)⟩)
  have CP : Hid (∀ W, Below (w.alloc (.cells #[.int .u8 (k : Int), .int .u64 (vb : Int), .int .i64 vd, .int .i64 vi] 34)).heap.size (w.alloc (.cells #[.int .u8 (k : Int), .int .u64 (vb : Int), .int .i64 vd, .int .i64 vi] 34)) W → ∀ q, Calls Tryz.prog 51 #[.slice A2 n2 c2, .int .i64 fn, .int .i64 i] (W.drewN q) fun e w'' => e = .returned (.bool P) ∧ ∃ m, w'' = W.drewN m) := hidb (fun W hb q => by
    have := ref_fptrR A2 n2 c2 ys lo' hi' (W.drewN q) fn i ((hr.below ((belF_tr hb0 hb).mono hhi)).drewN q) hn2 hi (fun x hx => (hl x hx).1)
    rw [hP] at this
    exact this.mono fun e w' ⟨h1, h2⟩ => ⟨h1, q, h2.symm⟩)
  have hi0 : (0 : Int) ≤ (d : Int) := by omega
  have hi1 : (d : Int) < (n : Int) := by omega
  obtain ⟨H, hH⟩ : ∃ H, mdHas (afvals zs) vd vi = H := ⟨_, rfl⟩
  rw [hH] at CH ⊢
  clear hs hr hl hx hc0 hok hg hfe hP E0 hb0 ch hH hhi hfn
  cases hm : vMay ⟨k, vb, vd, vi⟩ with
  | false =>
    rw [hm] at cm
    rw [if_pos rfl]
    clear hm
    --@8
    go_enter Tryz.func21, Tryz.ntmps21
    go_wp2_with (first | (go_at_call 50; (with_reducible refine cm.mono ?_); rintro e w1 ⟨rfl, hb1⟩))
    go_ret
    exact ⟨rfl, belF_tr HB.out hb1⟩
  | true =>
    rw [hm] at cm
    rw [if_neg (by simp)]
    clear hm
    by_cases h5 : P = decide (k = 1)
    · rw [if_pos h5]
      have eb : (P == ((k : Int) == 1)) = true := by rw [h5]; by_cases e : k = 1 <;> simp [e] <;> omega
      clear h5
      --@9
      go_enter Tryz.func21, Tryz.ntmps21
      go_wp2_with (first | (go_at_call 50; (with_reducible refine cm.mono ?_); rintro e w1 ⟨rfl, hb1⟩; have HB1 := hidb hb1; obtain ⟨q0, q1, q2, q3⟩ := HC.out _ hb1; have cp := CP.out _ hb1; clear hb1))
      go_quiet (first | (go_at_call 51; (with_reducible exact cp _)))
      obtain ⟨wz, hwz⟩ : ∃ wz, wz = w1.drewN nq := ⟨_, rfl⟩
      have HBZ : Hid (Below (w.alloc (.cells #[.int .u8 (k : Int), .int .u64 (vb : Int), .int .i64 vd, .int .i64 vi] 34)).heap.size (w.alloc (.cells #[.int .u8 (k : Int), .int .u64 (vb : Int), .int .i64 vd, .int .i64 vi] 34)) wz) := hidb (by rw [hwz]; exact belowN HB1.out _)
      rw [← hwz]
      clear hwz q0 q1 q2 q3 cp
      obtain ⟨q0, q1, q2, q3⟩ := HC.out _ HBZ.out
      go_wp2
      go_ret
      exact ⟨rfl, belF_tr HB.out HBZ.out⟩
    · rw [if_neg h5]
      have eb : (P == ((k : Int) == 1)) = false := by
        by_cases e : k = 1
        · cases P <;> simp_all
        · have : ¬ (k : Int) = 1 := by omega
          cases P <;> simp_all
      clear h5
      by_cases h2 : k = 2
      · have h2b : ((k : Int) == 2) = true := by simp; omega
        cases H with
        | false =>
          rw [if_pos ⟨h2, rfl⟩]
          clear h2
          --@10
          go_enter Tryz.func21, Tryz.ntmps21
          go_wp2_with (first | (go_at_call 50; (with_reducible refine cm.mono ?_); rintro e w1 ⟨rfl, hb1⟩; have HB1 := hidb hb1; obtain ⟨q0, q1, q2, q3⟩ := HC.out _ hb1; have cp := CP.out _ hb1; clear hb1))
          go_quiet (first | (go_at_call 51; (with_reducible exact cp _)))
          obtain ⟨wz, hwz⟩ : ∃ wz, wz = w1.drewN nq := ⟨_, rfl⟩
          have HBZ : Hid (Below (w.alloc (.cells #[.int .u8 (k : Int), .int .u64 (vb : Int), .int .i64 vd, .int .i64 vi] 34)).heap.size (w.alloc (.cells #[.int .u8 (k : Int), .int .u64 (vb : Int), .int .i64 vd, .int .i64 vi] 34)) wz) := hidb (by rw [hwz]; exact belowN HB1.out _)
          rw [← hwz]
          clear hwz q0 q1 q2 q3 cp
          obtain ⟨q0, q1, q2, q3⟩ := HC.out _ HBZ.out
          go_wp2_with (first | (go_at_call 52; (with_reducible refine (CH.out _ (belF_tr HB.out HBZ.out)).mono ?_); rintro e w3 ⟨rfl, rfl⟩))
          go_ret
          exact ⟨rfl, belF_tr HB.out HBZ.out⟩
        | true =>
          rw [if_neg (by simp)]
          by_cases h7 : (d : Int) < vd
          · rw [if_pos ⟨h2, h7⟩]
            clear h2
            --@11
            go_enter Tryz.func21, Tryz.ntmps21
            go_wp2_with (first | (go_at_call 50; (with_reducible refine cm.mono ?_); rintro e w1 ⟨rfl, hb1⟩; have HB1 := hidb hb1; obtain ⟨q0, q1, q2, q3⟩ := HC.out _ hb1; have cp := CP.out _ hb1; clear hb1))
            go_quiet (first | (go_at_call 51; (with_reducible exact cp _)))
            obtain ⟨wz, hwz⟩ : ∃ wz, wz = w1.drewN nq := ⟨_, rfl⟩
            have HBZ : Hid (Below (w.alloc (.cells #[.int .u8 (k : Int), .int .u64 (vb : Int), .int .i64 vd, .int .i64 vi] 34)).heap.size (w.alloc (.cells #[.int .u8 (k : Int), .int .u64 (vb : Int), .int .i64 vd, .int .i64 vi] 34)) wz) := hidb (by rw [hwz]; exact belowN HB1.out _)
            rw [← hwz]
            clear hwz q0 q1 q2 q3 cp
            obtain ⟨q0, q1, q2, q3⟩ := HC.out _ HBZ.out
            go_wp2_with (first | (go_at_call 52; (with_reducible refine (CH.out _ (belF_tr HB.out HBZ.out)).mono ?_); rintro e w3 ⟨rfl, rfl⟩))
            go_ret
            exact ⟨rfl, belF_tr HB.out HBZ.out⟩
          · rw [if_neg (fun h => h7 h.2)]
            clear h2
            --@12
            go_enter Tryz.func21, Tryz.ntmps21
            go_wp2_with (first | (go_at_call 50; (with_reducible refine cm.mono ?_); rintro e w1 ⟨rfl, hb1⟩; have HB1 := hidb hb1; obtain ⟨q0, q1, q2, q3⟩ := HC.out _ hb1; have cp := CP.out _ hb1; clear hb1))
            go_quiet (first | (go_at_call 51; (with_reducible exact cp _)))
            obtain ⟨wz, hwz⟩ : ∃ wz, wz = w1.drewN nq := ⟨_, rfl⟩
            have HBZ : Hid (Below (w.alloc (.cells #[.int .u8 (k : Int), .int .u64 (vb : Int), .int .i64 vd, .int .i64 vi] 34)).heap.size (w.alloc (.cells #[.int .u8 (k : Int), .int .u64 (vb : Int), .int .i64 vd, .int .i64 vi] 34)) wz) := hidb (by rw [hwz]; exact belowN HB1.out _)
            rw [← hwz]
            clear hwz q0 q1 q2 q3 cp
            obtain ⟨q0, q1, q2, q3⟩ := HC.out _ HBZ.out
            go_wp2_with (first | (go_at_call 52; (with_reducible refine (CH.out _ (belF_tr HB.out HBZ.out)).mono ?_); rintro e w3 ⟨rfl, rfl⟩))
            go_ret
            exact ⟨rfl, belF_tr HB.out HBZ.out⟩
      · rw [if_neg (fun h => h2 h.1), if_neg (fun h => h2 h.1)]
        have h2b : ((k : Int) == 2) = false := by simp; omega
        clear h2
        --@13
        go_enter Tryz.func21, Tryz.ntmps21
        go_wp2_with (first | (go_at_call 50; (with_reducible refine cm.mono ?_); rintro e w1 ⟨rfl, hb1⟩; have HB1 := hidb hb1; obtain ⟨q0, q1, q2, q3⟩ := HC.out _ hb1; have cp := CP.out _ hb1; clear hb1))
        go_quiet (first | (go_at_call 51; (with_reducible exact cp _)))
        obtain ⟨wz, hwz⟩ : ∃ wz, wz = w1.drewN nq := ⟨_, rfl⟩
        have HBZ : Hid (Below (w.alloc (.cells #[.int .u8 (k : Int), .int .u64 (vb : Int), .int .i64 vd, .int .i64 vi] 34)).heap.size (w.alloc (.cells #[.int .u8 (k : Int), .int .u64 (vb : Int), .int .i64 vd, .int .i64 vi] 34)) wz) := hidb (by rw [hwz]; exact belowN HB1.out _)
        rw [← hwz]
        clear hwz q0 q1 q2 q3 cp
        obtain ⟨q0, q1, q2, q3⟩ := HC.out _ HBZ.out
        go_wp2
        go_ret
        exact ⟨rfl, belF_tr HB.out HBZ.out⟩

theorem mdRight_size {l : Fns} {L : Afs} {x : Int × List VlV} (h : x ∈ L) (he : fSize l x.1 ≠ (x.2.length : Int)) : mdRight l L = false := by
  cases hr : mdRight l L with
  | false => rfl
  | true => exact absurd (mdSized_iff.1 (mdRight_iff.1 hr).1 x h) he
theorem mdRight_bad {l : Fns} {L : Afs} {d i : Nat} {v : VlV} (hd : d < L.length) (hi : (afAt L d)[i]? = some v) (he : mdFits l L d i v ≠ 0) : mdRight l L = false := by
  cases hr : mdRight l L with
  | false => rfl
  | true =>
    have hlt := (List.getElem?_eq_some_iff.1 hi).1
    have := mdFit_iff.1 ((mdRight_iff.1 hr).2 d hd) i hlt
    rw [List.getD_eq_getElem?_getD, hi] at this
    exact absurd this he
theorem afvals_mem {zs : List AfS} {j : Nat} {z : AfS} (h : zs[j]? = some z) : (z.fn, z.vs) ∈ afvals zs := List.mem_map.2 ⟨z, List.mem_of_getElem? h, rfl⟩

theorem ref_mdright (hs : AfRow w w.heap.size A n zs) (hn : n ≤ 1000000) (hr : FnRow w lo' hi' A2 n2 ys) (hhi : hi' ≤ w.heap.size) (hn2 : n2 ≤ 1000) (hl : ∀ x ∈ vals ys, 0 ≤ x.1 ∧ x.1 ≤ 1000) :
    Calls Tryz.prog 8 #[.slice A2 n2 c2, .slice A n c] w fun e w' => e = .returned (.bool (mdRight (vals ys) (afvals zs))) ∧ Below w.heap.size w w' := by
  have HS := hidb hs
  have HLN := hidb hs.len
  have KS : Hid (∀ f, Calls Tryz.prog 20 #[.slice A2 n2 c2, .int .i64 f] w fun e w' => e = .returned (.int .i64 (fSize (vals ys) f)) ∧ w = w') := hidb (fun f => ref_fsize A2 n2 c2 ys lo' hi' w f hr hn2)
  have KF : Hid (∀ W d (i : Int) v, Below w.heap.size w W → d < n → in64 i → VIn v → Calls Tryz.prog 21 #[.slice A2 n2 c2, .slice A n c, .int .i64 (d : Nat), .int .i64 i, vlC v] W fun e w' => e = .returned (.int .i64 (mdFits (vals ys) (afvals zs) d i v)) ∧ Below W.heap.size W w') := hidb (fun W d i v hb hd hi hv =>
    ref_mdfits (hs.step hb) hn (hr.below (hb.mono hhi)) (Nat.le_trans hhi hb.size) hn2 hl d hd i hi v hv)
  have PF : Hid (∀ W r, Below w.heap.size w W → mdRight (vals ys) (afvals zs) = r → (Ending.returned (.bool r) = Ending.returned (.bool (mdRight (vals ys) (afvals zs))) ∧ Below w.heap.size w W)) := hidb (fun W r hb h => ⟨by rw [h], hb⟩)
  clear hs hr hl
  --@14
  go_enter Tryz.func8, Tryz.ntmps8
  go_wp2
  go_loopw [11, 5, 6] (fun k _ _ wr => ∃ j : Nat, j ≤ n ∧ k = .int .i64 j ∧ Hid (mdSized (vals ys) ((afvals zs).take j) = true) ∧ w = wr) (fun k _ _ _ => (n - intOf k).toNat)
  case atStart => exact ⟨0, by omega, rfl, hidb rfl, rfl⟩
  case round =>
    obtain ⟨j, hj, rfl, HSU, rfl⟩ := hrel
    by_cases hlt : j < n
    · obtain ⟨b, off, z, rfl, _, hx, hc0, hc1, hok⟩ := HS.out.at_ hlt
      have ks := KS.out z.fn
      have hst := mdSized_take (vals ys) (afvals zs) j (z.fn, z.vs) (by unfold afvals; rw [List.getElem?_map, hx]; rfl)
      have hbad := fun e => mdRight_size (l := vals ys) (afvals_mem hx) e
      simp only at hst hbad
      rw [HSU.out, Bool.true_and, hok.len] at hst
      rw [hok.len] at hbad
      obtain ⟨q, hq⟩ : ∃ q, fSize (vals ys) z.fn = q := ⟨_, rfl⟩
      rw [hq] at ks hst hbad
      have hsm := hok.small
      obtain ⟨zf, zA, zn, zc, zvs⟩ := z
      simp only at *
      clear hx hok hq
      by_cases h1 : q < 0
      · have HF := hidb (hbad (by omega))
        clear hbad hst
        --@15
        go_wp2_with (first | (go_at_call 20; (with_reducible refine ks.mono ?_); rintro e w1 ⟨rfl, rfl⟩))
        go_ret
        exact PF.out _ _ (Below.refl _ _) HF.out
      · by_cases h2 : q = (zn : Int)
        · rw [decide_eq_true h2] at hst
          have HST := hidb hst
          have h2b : (q != (zn : Int)) = false := by simp [h2]
          clear hbad hst h2
          --@16
          go_wp2_with (first | (go_at_call 20; (with_reducible refine ks.mono ?_); rintro e w1 ⟨rfl, rfl⟩))
          go_roundw
          case rel => exact ⟨j + 1, by omega, by go_num, HST, by first | rfl | trivial⟩
          case measure => simp [intOf]; omega
        · have HF := hidb (hbad h2)
          have h2b : (q != (zn : Int)) = true := by simpa using h2
          clear hbad hst h2
          --@17
          go_wp2_with (first | (go_at_call 20; (with_reducible refine ks.mono ?_); rintro e w1 ⟨rfl, rfl⟩))
          go_ret
          exact PF.out _ _ (Below.refl _ _) HF.out
    · have HSZ : Hid (mdSized (vals ys) (afvals zs) = true) := hidb (by
        have := HSU.out
        rw [List.take_of_length_le (by rw [afvals_length]; have := HLN.out; omega)] at this
        exact this)
      clear HSU KS
      --@18
      go_wp2
      go_loopw [36, 7, 8, 45] (fun k _ _ _ wr => ∃ j : Nat, j ≤ n ∧ k = .int .i64 j ∧ Hid (∀ d, d < j → mdFit (vals ys) (afvals zs) d = true) ∧ Hid (Below w.heap.size w wr)) (fun k _ _ _ _ => (n - intOf k).toNat)
      case atStart => exact ⟨0, by omega, rfl, hidb (fun d h => absurd h (Nat.not_lt_zero _)), hidb (Below.refl _ _)⟩
      case round =>
        obtain ⟨j, hj, rfl, HFT, HB⟩ := hrel
        by_cases hlt : j < n
        · obtain ⟨b, off, z, rfl, hbl, hx, hc0, hc1, hok⟩ := HS.out.at_ hlt
          have HC : Hid (∀ W, Below w.heap.size w W → W.cell? ⟨b, off + j * 2 + 1, none⟩ = some (.slice z.A z.n z.c)) := hidb (fun W hb => (hb.cell (p := ⟨b, off + j * 2 + 1, none⟩) hbl).trans hc1)
          have HK := hidb hok
          have HX := hidb hx
          have hd1 := HC.out _ HB.out
          have hsm := hok.small
          have hi0 : (0 : Int) ≤ (j : Int) := by omega
          have hi1 : (j : Int) < (n : Int) := by omega
          obtain ⟨zf, zA, zn, zc, zvs⟩ := z
          simp only at *
          clear hx hok hc0 hc1
          --@19
          go_wp2
          go_loopw [45, 8] (fun k _ wq => ∃ i : Nat, i ≤ zn ∧ k = .int .i64 i ∧ Hid (∀ i' : Nat, i' < i → mdFits (vals ys) (afvals zs) j i' (zvs.getD i' vl0) = 0) ∧ Hid (Below w.heap.size w wq)) (fun k _ _ => (zn - intOf k).toNat)
          case atStart => exact ⟨0, by omega, rfl, hidb (fun i' h => absurd h (Nat.not_lt_zero _)), HB⟩
          case round =>
            obtain ⟨i, hi, rfl, HFI, HBQ⟩ := hrel
            have q1 := HC.out _ HBQ.out
            by_cases hlti : i < zn
            · obtain ⟨b2, off2, v, rfl, _, hv, hvin, e0, e1, e2, e3⟩ := (HK.out.below HBQ.out).at_ hlti
              have kf := KF.out _ j (i : Int) v HBQ.out hlt (by unfold in64; omega) hvin
              have hbad := fun e => mdRight_bad (l := vals ys) (L := afvals zs) (d := j) (i := i) (v := v) (by rw [afvals_length, HLN.out]; exact hlt) (by rw [afAt_at HX.out]; exact hv) e
              obtain ⟨q, hq⟩ : ∃ q, mdFits (vals ys) (afvals zs) j i v = q := ⟨_, rfl⟩
              rw [hq] at kf hbad
              have hgd : zvs.getD i vl0 = v := by rw [List.getD_eq_getElem?_getD, hv]; rfl
              have hji0 : (0 : Int) ≤ (i : Int) := by omega
              have hji1 : (i : Int) < (zn : Int) := by omega
              by_cases h0 : q = 0
              · have HFN : Hid (∀ i' : Nat, i' < i + 1 → mdFits (vals ys) (afvals zs) j i' (zvs.getD i' vl0) = 0) := hidb (fun i' h => by
                  by_cases e : i' = i
                  · subst e; rw [hgd, hq, h0]
                  · exact HFI.out i' (by omega))
                have h0b : (q != 0) = false := by simp [h0]
                obtain ⟨vk, vb, vd, vi⟩ := v
                unfold vlC at kf
                simp only at *
                clear hbad hq hgd h0 hv hvin HFI
                --@20
                go_wp2_with (first | (go_at_call 21; (with_reducible refine kf.mono ?_); rintro e w3 ⟨rfl, hb3⟩; have HB3 := hidb (belF_tr HBQ.out hb3); clear hb3))
                go_roundw
                case rel => exact ⟨i + 1, by omega, by go_num, HFN, HB3⟩
                case measure => simp [intOf]; omega
              · have HF := hidb (hbad h0)
                have h0b : (q != 0) = true := by simpa using h0
                obtain ⟨vk, vb, vd, vi⟩ := v
                unfold vlC at kf
                simp only at *
                clear hbad hq hgd h0 hv hvin HFI
                --@21
                go_wp2_with (first | (go_at_call 21; (with_reducible refine kf.mono ?_); rintro e w3 ⟨rfl, hb3⟩; have HB3 := hidb (belF_tr HBQ.out hb3); clear hb3))
                go_ret
                exact PF.out _ _ HB3.out HF.out
            · obtain rfl : i = zn := by omega
              have hge : ¬ ((i : Int) < (i : Int)) := by omega
              have HFN : Hid (∀ d, d < j + 1 → mdFit (vals ys) (afvals zs) d = true) := hidb (fun d h => by
                by_cases e : d = j
                · subst e
                  rw [mdFit_iff, afAt_at HX.out]
                  intro i' h'
                  exact HFI.out i' (by have := HK.out.len; simp only at this h'; omega)
                · exact HFT.out d (by omega))
              --@22
              go_wp2
              go_roundw
              case rel => exact ⟨j + 1, by omega, by go_num, HFN, HBQ⟩
              case measure => simp [intOf]; omega
        · have HG : Hid (mdRight (vals ys) (afvals zs) = true) := hidb (mdRight_iff.2 ⟨HSZ.out, fun d hd => HFT.out d (by rw [afvals_length, HLN.out] at hd; omega)⟩)
          --@23
          go_wp2
          go_ret
          exact PF.out _ _ HB.out HG.out
end
end Go.Proofs.YtdcnpaodcjfdbaaGreatDoor

/- What the document's own Same of layer 19 (model) returns. -/
namespace Go.Proofs.YtdcnpaodcjfdbaaGreatDoor
open Go.RowKit
set_option linter.unusedVariables false

theorem neq_val (x y : VlV) (W : World) : (binOp .neq 34 (.agg #[.int .u8 x.kind, .int .u64 x.bits, .int .i64 x.depth, .int .i64 x.slot]) (.agg #[.int .u8 y.kind, .int .u64 y.bits, .int .i64 y.depth, .int .i64 y.slot])).run Tryz.prog W = .ok (.bool (!(decide (x = y)))) W := by
  obtain ⟨a, b, c, d⟩ := x
  obtain ⟨a', b', c', d'⟩ := y
  simp [go_sem]
  by_cases h1 : a = a' <;> by_cases h2 : b = b' <;> by_cases h3 : c = c' <;> by_cases h4 : d = d' <;> simp [h1, h2, h3, h4] <;> omega
theorem afvals_get (zs : List AfS) (j : Nat) : (afvals zs)[j]? = (zs[j]?).map fun z => (z.fn, z.vs) := by unfold afvals; rw [List.getElem?_map]
theorem afvals_neq {xs ys : List AfS} {j : Nat} {x y : AfS} (hx : xs[j]? = some x) (hy : ys[j]? = some y) (h : (x.fn, x.vs) ≠ (y.fn, y.vs)) : decide (afvals xs = afvals ys) = false := decide_eq_false fun e => h (by
  have := afvals_get xs j
  rw [e, afvals_get, hx, hy] at this
  exact (Option.some.inj this).symm)
theorem ref_mdsame (A A2 : Option Addr) (n c m d : Nat) (xs ys : List AfS) (w : World) (B B2 : Nat) (hs : AfRow w B A n xs) (hs2 : AfRow w B2 A2 m ys) (hn : n ≤ 9223372036854775806) (hm : m ≤ 9223372036854775806) :
    Calls Tryz.prog 14 #[.slice A n c, .slice A2 m d] w fun e w' => e = .returned (.bool (decide (afvals xs = afvals ys))) ∧ ∃ q, w' = w.drewN q := by
  have l1 : xs.length = n := hs.1.1
  have l2 : ys.length = m := hs2.1.1
  by_cases hnm : n = m
  · subst hnm
    have L1 := hidb l1
    have L2 := hidb l2
    have HS := hidb hs
    have HS2 := hidb hs2
    clear hs hs2 l1 l2
    --@1
    go_enter Tryz.func14, Tryz.ntmps14
    go_wp2
    go_loopw [14, 5, 6, 49] (fun k _ _ _ wr => ∃ j q : Nat, j ≤ n ∧ Hid (∀ i, i < j → (afvals xs)[i]? = (afvals ys)[i]?) ∧ k = .int .i64 j ∧ wr = w.drewN q) (fun k _ _ _ _ => (n - intOf k).toNat)
    case atStart => exact ⟨0, 0, by omega, hidb (fun i h => absurd h (Nat.not_lt_zero _)), rfl, rfl⟩
    case round =>
      obtain ⟨j, q, hj, HA, rfl, rfl⟩ := hrel
      by_cases hlt : j < n
      · obtain ⟨b, off, x, rfl, _, hx, hc0, hc1, hok⟩ := HS.out.at_ hlt
        obtain ⟨b2, off2, y, rfl, _, hy, hd0, hd1, hok2⟩ := HS2.out.at_ hlt
        have HX := hidb hx
        have HY := hidb hy
        have HK := hidb hok
        have HK2 := hidb hok2
        have hsm := hok.small
        have hsm2 := hok2.small
        have hxl := hok.len
        have hyl := hok2.len
        have hi0 : (0 : Int) ≤ (j : Int) := by omega
        have hi1 : (j : Int) < (n : Int) := by omega
        obtain ⟨xf, xA, xn, xc, xvs⟩ := x
        obtain ⟨yf, yA, yn, yc, yvs⟩ := y
        have HXL := hidb hxl
        have HYL := hidb hyl
        simp only at *
        clear hx hy hok hok2 hxl hyl
        by_cases e1 : xf = yf
        · subst e1
          have eb : (xf != xf) = false := by simp
          by_cases e2 : xn = yn
          · subst e2
            have eb2 : ((xn : Int) != (xn : Int)) = false := by simp
            --@2
            go_wp2
            go_quiet (fail)
            go_wp2
            go_loopw [49, 6] (fun k _ wq => ∃ i q : Nat, i ≤ xn ∧ Hid (∀ p, p < i → xvs[p]? = yvs[p]?) ∧ k = .int .i64 i ∧ wq = w.drewN q) (fun k _ _ => (xn - intOf k).toNat)
            case atStart => exact ⟨0, _, by omega, hidb (fun i h => absurd h (Nat.not_lt_zero _)), rfl, by first | exact World.drewN_drewN _ _ _ | rfl⟩
            case round =>
              obtain ⟨i, q, hi, HI, rfl, rfl⟩ := hrel
              by_cases hlti : i < xn
              · obtain ⟨b3, off3, v, rfl, _, hv, _, e0, e1, e2, e3⟩ := HK.out.at_ hlti
                obtain ⟨b4, off4, u, rfl, _, hu, _, g0, g1, g2, g3⟩ := HK2.out.at_ hlti
                have HV := hidb hv
                have HU := hidb hu
                have hj0 : (0 : Int) ≤ (i : Int) := by omega
                have hj1 : (i : Int) < (xn : Int) := by omega
                have hq := fun W => neq_val v u W
                clear hv hu
                by_cases e : v = u
                · subst e
                  rw [show (!decide (v = v)) = false by simp] at hq
                  obtain ⟨vk, vb, vd, vi⟩ := v
                  simp only at *
                  --@3
                  go_wp2
                  go_quiet (fail)
                  go_wp2
                  go_roundw
                  case rel =>
                    refine ⟨i + 1, _, by omega, hidb (fun p hp => ?_), by go_num, by first | exact World.drewN_drewN _ _ _ | rfl⟩
                    by_cases h : p = i
                    · subst h; rw [HV.out, HU.out]
                    · exact HI.out p (by omega)
                  case measure => simp [intOf]; omega
                · rw [show (!decide (v = u)) = true by simp [e]] at hq
                  have HF : Hid (decide (afvals xs = afvals ys) = false) := hidb (afvals_neq HX.out HY.out (fun h => e (by
                    have h2 : xvs = yvs := (Prod.mk.inj h).2
                    have := HV.out; rw [h2, HU.out] at this; exact (Option.some.inj this).symm)))
                  clear e
                  obtain ⟨vk, vb, vd, vi⟩ := v
                  obtain ⟨uk, ub, ud, ui⟩ := u
                  simp only at *
                  --@4
                  go_wp2
                  go_quiet (fail)
                  go_wp2
                  go_ret
                  exact ⟨by rw [HF.out]; rfl, _, by first | exact World.drewN_drewN _ _ _ | rfl⟩
              · obtain rfl : i = xn := by omega
                have hge : ¬ ((i : Int) < (i : Int)) := by omega
                have HN : Hid (∀ d, d < j + 1 → (afvals xs)[d]? = (afvals ys)[d]?) := hidb (fun d hd => by
                  by_cases h : d = j
                  · subst h
                    have h2 : xvs = yvs := List.ext_getElem? (fun p => by
                      by_cases hp : p < i
                      · exact HI.out p hp
                      · rw [List.getElem?_eq_none (by rw [HXL.out]; omega), List.getElem?_eq_none (by rw [HYL.out]; omega)])
                    rw [afvals_get, afvals_get, HX.out, HY.out, h2]; rfl
                  · exact HA.out d (by omega))
                --@5
                go_wp2
                go_roundw
                case rel => exact ⟨j + 1, _, by omega, HN, by go_num, rfl⟩
                case measure => simp [intOf]; omega
          · have eb2 : ((xn : Int) != (yn : Int)) = true := by simp; omega
            have HF : Hid (decide (afvals xs = afvals ys) = false) := hidb (afvals_neq HX.out HY.out (fun h => e2 (by
              have h2 : xvs = yvs := (Prod.mk.inj h).2
              rw [← HXL.out, ← HYL.out, h2])))
            clear e2
            --@6
            go_wp2
            go_quiet (fail)
            go_wp2
            go_ret
            exact ⟨by rw [HF.out]; rfl, _, by first | exact World.drewN_drewN _ _ _ | rfl⟩
        · have eb : (xf != yf) = true := by simpa using e1
          have HF : Hid (decide (afvals xs = afvals ys) = false) := hidb (afvals_neq HX.out HY.out (fun h => e1 (Prod.mk.inj h).1))
          clear e1
          --@7
          go_wp2
          go_quiet (fail)
          go_wp2
          go_ret
          exact ⟨by rw [HF.out]; rfl, _, by first | exact World.drewN_drewN _ _ _ | rfl⟩
      · have HF : Hid (decide (afvals xs = afvals ys) = true) := hidb (decide_eq_true (List.ext_getElem? (fun i => by
          by_cases h : i < n
          · exact HA.out i (by omega)
          · rw [List.getElem?_eq_none (by rw [afvals_length, L1.out]; omega), List.getElem?_eq_none (by rw [afvals_length, L2.out]; omega)])))
        --@8
        go_wp2
        go_ret
        exact ⟨by rw [HF.out]; rfl, _, rfl⟩
  · have HF : Hid (decide (afvals xs = afvals ys) = false) := hidb (decide_eq_false (fun h => hnm (by rw [← l1, ← l2, ← afvals_length xs, h, afvals_length])))
    have eb : ((n : Int) != (m : Int)) = true := by simp; omega
    clear hs hs2 l1 l2
    --@9
    go_enter Tryz.func14, Tryz.ntmps14
    go_wp2
    go_ret
    exact ⟨by rw [HF.out]; rfl, 0, rfl⟩
end Go.Proofs.YtdcnpaodcjfdbaaGreatDoor

/- What the document's own Get, refers and Load of layer 19 (model) return. -/
namespace Go.Proofs.YtdcnpaodcjfdbaaGreatDoor
open Go.RowKit
set_option linter.unusedVariables false

/-- What a slot has; the error's number. -/
def mdGet (l : Fns) (L : Afs) (d i : Int) : VlV × Int := if mdRight l L = false then (vl0, 9) else if mdHas L d i = false then (vl0, 2) else ((afAt L d.toNat).getD i.toNat vl0, 0)
/-- To what a pointer slot refers; the error's number. -/
def mdRefers (l : Fns) (L : Afs) (d i : Int) : VlV × Int := if (mdGet l L d i).2 ≠ 0 then mdGet l L d i else if (mdGet l L d i).1.kind = 1 then (vl0, 5) else if (mdGet l L d i).1.kind = 0 then ((mdGet l L d i).1, 12) else ((mdGet l L d i).1, 0)
/-- What the slot has that it refers to; the error's number. -/
def mdLoad (l : Fns) (L : Afs) (d i : Int) : VlV × Int := if (mdRefers l L d i).2 ≠ 0 then (vl0, (mdRefers l L d i).2) else ((afAt L (mdRefers l L d i).1.depth.toNat).getD (mdRefers l L d i).1.slot.toNat vl0, 0)

/-- A new value's cells stay till they are written. -/
theorem new_val (w : World) : Hid (∀ W, Below (w.alloc (.cells #[.int .u8 0, .int .u64 0, .int .i64 0, .int .i64 0] 34)).heap.size (w.alloc (.cells #[.int .u8 0, .int .u64 0, .int .i64 0, .int .i64 0] 34)) W → (W.cell? ⟨w.heap.size, 0, none⟩ = some (.int .u8 0) ∧ W.cell? ⟨w.heap.size, 1, none⟩ = some (.int .u64 0) ∧ W.cell? ⟨w.heap.size, 2, none⟩ = some (.int .i64 0) ∧ W.cell? ⟨w.heap.size, 3, none⟩ = some (.int .i64 0)) ∧ W.frozen? ⟨w.heap.size, 0, none⟩ = false ∧ W.frozen? ⟨w.heap.size, 1, none⟩ = false ∧ W.frozen? ⟨w.heap.size, 2, none⟩ = false ∧ W.frozen? ⟨w.heap.size, 3, none⟩ = false) := hidb (fun W hb => by
  obtain ⟨W0, hW0⟩ : ∃ W0, W0 = w.alloc (.cells #[.int .u8 0, .int .u64 0, .int .i64 0, .int .i64 0] 34) := ⟨_, rfl⟩
  rw [← hW0] at hb
  have hz0 : W0.heap.size = w.heap.size + 1 := by rw [hW0]; simp
  have hc : ∀ k, W.cell? ⟨w.heap.size, k, none⟩ = W0.cell? ⟨w.heap.size, k, none⟩ := fun k => hb.cell (by show w.heap.size < _; omega)
  have hf : ∀ k, W.frozen? ⟨w.heap.size, k, none⟩ = W0.frozen? ⟨w.heap.size, k, none⟩ := fun k => hb.frozen (by show w.heap.size < _; omega)
  refine ⟨⟨?_, ?_, ?_, ?_⟩, ?_, ?_, ?_, ?_⟩
  · rw [hc, hW0]; simp
  · rw [hc, hW0]; simp
  · rw [hc, hW0]; simp
  · rw [hc, hW0]; simp
  all_goals (rw [hf, hW0]; simp [go_sem]))

section
variable {w : World} {A : Option Addr} {n c : Nat} {zs : List AfS} {A2 : Option Addr} {n2 c2 lo' hi' : Nat} {ys : List FnV}
/-- What a call answers, a value and an error's number. -/
def ResVl (w : World) (r : VlV × Int) (e : Ending) (w' : World) : Prop := e = .returned (.tuple #[vlC r.1, .int .i64 r.2]) ∧ Below w.heap.size w w'
theorem mdHas_true {zs : List AfS} {d i : Int} (h : mdHas (afvals zs) d i = true) : ∃ z, zs[d.toNat]? = some z ∧ 0 ≤ d ∧ d < (zs.length : Int) ∧ 0 ≤ i ∧ i < (z.vs.length : Int) := by
  unfold mdHas at h
  rw [decide_eq_true_iff, afvals_length] at h
  have hz := List.getElem?_eq_getElem (l := zs) (i := d.toNat) (by omega)
  rw [afAt_at hz] at h
  exact ⟨_, hz, h.1, h.2.1, h.2.2.1, h.2.2.2⟩

set_option maxRecDepth 100000 in
theorem ref_mdget (hs : AfRow w w.heap.size A n zs) (hn : n ≤ 1000000) (hr : FnRow w lo' hi' A2 n2 ys) (hhi : hi' ≤ w.heap.size) (hn2 : n2 ≤ 1000) (hl : ∀ x ∈ vals ys, 0 ≤ x.1 ∧ x.1 ≤ 1000) (d i : Int) (hd : in64 d) (hi : in64 i) :
    Calls Tryz.prog 33 #[.slice A2 n2 c2, .slice A n c, .int .i64 d, .int .i64 i] w (ResVl w (mdGet (vals ys) (afvals zs) d i)) := by
  have HQ := new_val w
  have hb0 := belF_al (Below.refl w.heap.size w) (.cells #[.int .u8 0, .int .u64 0, .int .i64 0, .int .i64 0] 34)
  have HB := hidb hb0
  have cr := ref_mdright (c := c) (c2 := c2) (hs.step hb0) hn (hr.below (hb0.mono hhi)) (Nat.le_trans hhi hb0.size) hn2 hl
  have CH : Hid (∀ W, Below w.heap.size w W → Calls Tryz.prog 52 #[.slice A n c, .int .i64 d, .int .i64 i] W fun e w' => e = .returned (.bool (mdHas (afvals zs) d i)) ∧ W = w') := hidb (fun W hb => ref_mdhas (hs.below hb) (by omega) d i hd hi _ rfl)
  have HE : Hid (∀ no k b u v, mdGet (vals ys) (afvals zs) d i = (⟨k, b, u, v⟩, no) → ∀ W, Below w.heap.size w W → ResVl w (mdGet (vals ys) (afvals zs) d i) (.returned (.tuple #[.agg #[.int .u8 k, .int .u64 b, .int .i64 u, .int .i64 v], .int .i64 no])) W) := hidb (fun no k b u v h W hb => ⟨by rw [h]; rfl, hb⟩)
  cases hR : mdRight (vals ys) (afvals zs) with
  | false =>
    rw [hR] at cr
    have PN := hidb (HE.out 9 0 0 0 0 (by unfold mdGet; rw [hR, if_pos rfl]; rfl))
    clear hs hr hl hR HE CH hb0
    --@1
    go_enter Tryz.func33, Tryz.ntmps33
    go_wp2_with (first | (go_at_call 8; (with_reducible refine cr.mono ?_); rintro e w1 ⟨rfl, hb1⟩; obtain ⟨⟨r0, r1, r2, r3⟩, f0, f1, f2, f3⟩ := HQ.out _ hb1))
    obtain ⟨s0, s1, s2, s3⟩ := four_cellsV w1 w.heap.size (.int .u8 0) (.int .u64 0) (.int .i64 0) (.int .i64 0) _ _ _ _ r0 r1 r2 r3
    exact bodyPost_ret (v := .tuple #[.agg #[.int .u8 0, .int .u64 0, .int .i64 0, .int .i64 0], .int .i64 9]) (by simp [results, Tryz.results33, go_sem, s0, s1, s2, s3]) rfl (PN.out _ (bel_set4 (belF_tr HB.out hb1) (Nat.le_refl _) _ _ _ _))
  | true =>
    rw [hR] at cr
    cases hH : mdHas (afvals zs) d i with
    | false =>
      rw [hH] at CH
      have PN := hidb (HE.out 2 0 0 0 0 (by unfold mdGet; rw [hR, hH, if_neg (by simp), if_pos rfl]; rfl))
      clear hs hr hl hR hH HE hb0
      --@2
      go_enter Tryz.func33, Tryz.ntmps33
      go_wp2_with (first
        | (go_at_call 8; (with_reducible refine cr.mono ?_); rintro e w1 ⟨rfl, hb1⟩; obtain ⟨⟨r0, r1, r2, r3⟩, f0, f1, f2, f3⟩ := HQ.out _ hb1)
        | (go_at_call 52; (with_reducible refine (CH.out _ (belF_tr HB.out hb1)).mono ?_); rintro e w2 ⟨rfl, rfl⟩))
      obtain ⟨s0, s1, s2, s3⟩ := four_cellsV w1 w.heap.size (.int .u8 0) (.int .u64 0) (.int .i64 0) (.int .i64 0) _ _ _ _ r0 r1 r2 r3
      exact bodyPost_ret (v := .tuple #[.agg #[.int .u8 0, .int .u64 0, .int .i64 0, .int .i64 0], .int .i64 2]) (by simp [results, Tryz.results33, go_sem, s0, s1, s2, s3]) rfl (PN.out _ (bel_set4 (belF_tr HB.out hb1) (Nat.le_refl _) _ _ _ _))
    | true =>
      rw [hH] at CH
      obtain ⟨z, hz, d0, d1, i0, i1⟩ := mdHas_true hH
      rw [hs.len] at d1
      obtain ⟨b, off, z', rfl, hbl, hz', hc0, hc1, hok⟩ := hs.at_ (j := d.toNat) (by omega)
      obtain rfl : z = z' := Option.some.inj (hz.symm.trans hz')
      rw [hok.len] at i1
      have hsm := hok.small
      obtain ⟨b2, off2, v, hzA, hbl2, hv, _, e0, e1, e2, e3⟩ := hok.at_ (j := i.toNat) (by omega)
      have hg : (afAt (afvals zs) d.toNat).getD i.toNat vl0 = v := by rw [afAt_at hz, List.getD_eq_getElem?_getD, hv]; rfl
      obtain ⟨k, vb, vd, vi⟩ := v
      have PN := hidb (HE.out 0 k vb vd vi (by unfold mdGet; rw [hR, hH, if_neg (by simp), if_neg (by simp), hg]))
      rw [hzA] at hc1
      simp only at *
      have HC : Hid (∀ W, Below w.heap.size w W → W.cell? ⟨b, off + d.toNat * 2 + 1, none⟩ = some (.slice (some ⟨b2, off2, none⟩) z.n z.c) ∧ W.cell? ⟨b2, off2 + i.toNat * 4, none⟩ = some (.int .u8 (k : Int)) ∧ W.cell? ⟨b2, off2 + i.toNat * 4 + 1, none⟩ = some (.int .u64 (vb : Int)) ∧ W.cell? ⟨b2, off2 + i.toNat * 4 + 2, none⟩ = some (.int .i64 vd) ∧ W.cell? ⟨b2, off2 + i.toNat * 4 + 3, none⟩ = some (.int .i64 vi)) := hidb (fun W hb => ⟨(hb.cell (p := ⟨b, off + d.toNat * 2 + 1, none⟩) hbl).trans hc1, (hb.cell (p := ⟨b2, off2 + i.toNat * 4, none⟩) hbl2).trans e0, (hb.cell (p := ⟨b2, off2 + i.toNat * 4 + 1, none⟩) hbl2).trans e1, (hb.cell (p := ⟨b2, off2 + i.toNat * 4 + 2, none⟩) hbl2).trans e2, (hb.cell (p := ⟨b2, off2 + i.toNat * 4 + 3, none⟩) hbl2).trans e3⟩)
      clear hs hr hl hR hH HE hb0 hz hz' hc0 hc1 hok hv e0 e1 e2 e3 hg hzA
      --@3
      go_enter Tryz.func33, Tryz.ntmps33
      go_wp2_with (first
        | (go_at_call 8; (with_reducible refine cr.mono ?_); rintro e w1 ⟨rfl, hb1⟩; obtain ⟨⟨r0, r1, r2, r3⟩, f0, f1, f2, f3⟩ := HQ.out _ hb1; obtain ⟨t0, t1, t2, t3, t4⟩ := HC.out _ (belF_tr HB.out hb1))
        | (go_at_call 52; (with_reducible refine (CH.out _ (belF_tr HB.out hb1)).mono ?_); rintro e w2 ⟨rfl, rfl⟩))
      obtain ⟨s0, s1, s2, s3⟩ := four_cellsV w1 w.heap.size (.int .u8 (k : Int)) (.int .u64 (vb : Int)) (.int .i64 vd) (.int .i64 vi) _ _ _ _ r0 r1 r2 r3
      exact bodyPost_ret (v := .tuple #[.agg #[.int .u8 (k : Int), .int .u64 (vb : Int), .int .i64 vd, .int .i64 vi], .int .i64 0]) (by simp [results, Tryz.results33, go_sem, s0, s1, s2, s3]) rfl (PN.out _ (bel_set4 (belF_tr HB.out hb1) (Nat.le_refl _) _ _ _ _))

/-- The cells of a value. -/
structure ValAt (w : World) (q : Nat) (k vb : Nat) (vd vi : Int) : Prop where
  c0 : w.cell? ⟨q, 0, none⟩ = some (.int .u8 (k : Int))
  c1 : w.cell? ⟨q, 1, none⟩ = some (.int .u64 (vb : Int))
  c2 : w.cell? ⟨q, 2, none⟩ = some (.int .i64 vd)
  c3 : w.cell? ⟨q, 3, none⟩ = some (.int .i64 vi)
theorem ValAt.below {w w' : World} {B q k vb : Nat} {vd vi : Int} (h : ValAt w q k vb vd vi) (hb : Below B w w') (hq : q < B) : ValAt w' q k vb vd vi :=
  ⟨(hb.cell (p := ⟨q, 0, none⟩) hq).trans h.c0, (hb.cell (p := ⟨q, 1, none⟩) hq).trans h.c1, (hb.cell (p := ⟨q, 2, none⟩) hq).trans h.c2, (hb.cell (p := ⟨q, 3, none⟩) hq).trans h.c3⟩
set_option maxRecDepth 100000 in
theorem ref_mdrefers (hs : AfRow w w.heap.size A n zs) (hn : n ≤ 1000000) (hr : FnRow w lo' hi' A2 n2 ys) (hhi : hi' ≤ w.heap.size) (hn2 : n2 ≤ 1000) (hl : ∀ x ∈ vals ys, 0 ≤ x.1 ∧ x.1 ≤ 1000) (d i : Int) (hd : in64 d) (hi : in64 i) :
    Calls Tryz.prog 68 #[.slice A2 n2 c2, .slice A n c, .int .i64 d, .int .i64 i] w (ResVl w (mdRefers (vals ys) (afvals zs) d i)) := by
  have HQ := new_val w
  have hb0 := belF_al (Below.refl w.heap.size w) (.cells #[.int .u8 0, .int .u64 0, .int .i64 0, .int .i64 0] 34)
  have HB := hidb hb0
  have cg := ref_mdget (c := c) (c2 := c2) (hs.step hb0) hn (hr.below (hb0.mono hhi)) (Nat.le_trans hhi hb0.size) hn2 hl d i hd hi
  have HE : Hid (∀ no k b u v, mdRefers (vals ys) (afvals zs) d i = (⟨k, b, u, v⟩, no) → ∀ W, Below w.heap.size w W → ResVl w (mdRefers (vals ys) (afvals zs) d i) (.returned (.tuple #[.agg #[.int .u8 k, .int .u64 b, .int .i64 u, .int .i64 v], .int .i64 no])) W) := hidb (fun no k b u v h W hb => ⟨by rw [h]; rfl, hb⟩)
  obtain ⟨⟨⟨k, vb, vd, vi⟩, no⟩, hg⟩ : ∃ r, mdGet (vals ys) (afvals zs) d i = r := ⟨_, rfl⟩
  rw [hg] at cg
  unfold ResVl vlC at cg
  simp only at cg
  clear hs hr hl hb0
  --@4
  go_enter Tryz.func68, Tryz.ntmps68
  go_upto_region 1 with (fail)
  go_cut [10, 11] from 12 to 19 (fun v10 v11 wx => ∃ q, v10 = .pointer (some ⟨q, 0, none⟩) ∧ v11 = .int .i64 no ∧ Hid (ValAt wx q k vb vd vi) ∧ Hid (Below (w.alloc (.cells #[.int .u8 0, .int .u64 0, .int .i64 0, .int .i64 0] 34)).heap.size (w.alloc (.cells #[.int .u8 0, .int .u64 0, .int .i64 0, .int .i64 0] 34)) wx))
  case first =>
    go_wp2_with (first | (go_at_call 33; (with_reducible refine cg.mono ?_); rintro e w1 ⟨rfl, hb1⟩))
    go_meet
    exact ⟨w1.heap.size, rfl, rfl, hidb ⟨by simp, by simp, by simp, by simp⟩, hidb (belF_al hb1 (.cells #[.int .u8 (k : Int), .int .u64 (vb : Int), .int .i64 vd, .int .i64 vi] 34))⟩
  case rest =>
    obtain ⟨q, rfl, rfl, HV, HBX⟩ := hcut
    obtain ⟨⟨r0, r1, r2, r3⟩, f0, f1, f2, f3⟩ := HQ.out _ HBX.out
    obtain ⟨v0, v1, v2, v3⟩ := HV.out
    by_cases h0 : no = 0
    · subst h0
      by_cases h1 : k = 1
      · have PN := hidb (HE.out 5 0 0 0 0 (by unfold mdRefers; rw [hg, if_neg (by simp), if_pos h1]; rfl))
        have e1 : ((k : Int) == 1) = true := by simp; omega
        clear HE hg h1 cg
        --@5
        go_wp2
        obtain ⟨s0, s1, s2, s3⟩ := four_cellsV wc w.heap.size (.int .u8 0) (.int .u64 0) (.int .i64 0) (.int .i64 0) _ _ _ _ r0 r1 r2 r3
        exact bodyPost_ret (v := .tuple #[.agg #[.int .u8 0, .int .u64 0, .int .i64 0, .int .i64 0], .int .i64 5]) (by simp [results, Tryz.results68, go_sem, s0, s1, s2, s3]) rfl (PN.out _ (bel_set4 (belF_tr HB.out HBX.out) (Nat.le_refl _) _ _ _ _))
      · have e1 : ((k : Int) == 1) = false := by simp; omega
        by_cases h2 : k = 0
        · have PN := hidb (HE.out 12 k vb vd vi (by unfold mdRefers; rw [hg, if_neg (by simp), if_neg h1, if_pos h2]))
          have e2 : ((k : Int) == 0) = true := by simp; omega
          clear HE hg h1 h2 cg
          --@6
          go_wp2
          obtain ⟨s0, s1, s2, s3⟩ := four_cellsV wc w.heap.size (.int .u8 (k : Int)) (.int .u64 (vb : Int)) (.int .i64 vd) (.int .i64 vi) _ _ _ _ r0 r1 r2 r3
          exact bodyPost_ret (v := .tuple #[.agg #[.int .u8 (k : Int), .int .u64 (vb : Int), .int .i64 vd, .int .i64 vi], .int .i64 12]) (by simp [results, Tryz.results68, go_sem, s0, s1, s2, s3]) rfl (PN.out _ (bel_set4 (belF_tr HB.out HBX.out) (Nat.le_refl _) _ _ _ _))
        · have PN := hidb (HE.out 0 k vb vd vi (by unfold mdRefers; rw [hg, if_neg (by simp), if_neg h1, if_neg h2]))
          have e2 : ((k : Int) == 0) = false := by simp; omega
          clear HE hg h1 h2 cg
          --@7
          go_wp2
          obtain ⟨s0, s1, s2, s3⟩ := four_cellsV wc w.heap.size (.int .u8 (k : Int)) (.int .u64 (vb : Int)) (.int .i64 vd) (.int .i64 vi) _ _ _ _ r0 r1 r2 r3
          exact bodyPost_ret (v := .tuple #[.agg #[.int .u8 (k : Int), .int .u64 (vb : Int), .int .i64 vd, .int .i64 vi], .int .i64 0]) (by simp [results, Tryz.results68, go_sem, s0, s1, s2, s3]) rfl (PN.out _ (bel_set4 (belF_tr HB.out HBX.out) (Nat.le_refl _) _ _ _ _))
    · have PN := hidb (HE.out no k vb vd vi (by unfold mdRefers; rw [hg, if_pos h0]))
      have e0 : (no != 0) = true := by simpa using h0
      clear HE hg h0 cg
      --@8
      go_wp2
      obtain ⟨s0, s1, s2, s3⟩ := four_cellsV wc w.heap.size (.int .u8 (k : Int)) (.int .u64 (vb : Int)) (.int .i64 vd) (.int .i64 vi) _ _ _ _ r0 r1 r2 r3
      exact bodyPost_ret (v := .tuple #[.agg #[.int .u8 (k : Int), .int .u64 (vb : Int), .int .i64 vd, .int .i64 vi], .int .i64 no]) (by simp [results, Tryz.results68, go_sem, s0, s1, s2, s3]) rfl (PN.out _ (bel_set4 (belF_tr HB.out HBX.out) (Nat.le_refl _) _ _ _ _))

theorem mdGet_ok {l : Fns} {L : Afs} {d i : Int} {v : VlV} (h : mdGet l L d i = (v, 0)) : mdRight l L = true ∧ mdHas L d i = true ∧ (afAt L d.toNat).getD i.toNat vl0 = v ∧ mdFits l L d.toNat (i.toNat : Int) v = 0 := by
  unfold mdGet at h
  cases hR : mdRight l L with
  | false => rw [hR, if_pos rfl] at h; injection h with _ h; exact absurd h (by decide)
  | true =>
    rw [hR, if_neg (by simp)] at h
    cases hH : mdHas L d i with
    | false => rw [hH, if_pos rfl] at h; injection h with _ h; exact absurd h (by decide)
    | true =>
      rw [hH, if_neg (by simp)] at h
      injection h with h _
      refine ⟨rfl, rfl, h, ?_⟩
      unfold mdHas at hH
      rw [decide_eq_true_iff] at hH
      have := mdFit_iff.1 ((mdRight_iff.1 hR).2 d.toNat (by omega)) i.toNat (by omega)
      rw [h] at this
      exact this
theorem mdFits_kind {l : Fns} {L : Afs} {d : Nat} {i : Int} {v : VlV} (h : mdFits l L d i v = 0) : vMay v = true ∧ v.kind ≤ 2 ∧ (v.kind = 2 → mdHas L v.depth v.slot = true ∧ v.depth ≤ (d : Int)) := by
  unfold mdFits at h
  split at h
  · exact absurd h (by decide)
  · rename_i h1
    split at h
    · exact absurd h (by decide)
    · split at h
      · exact absurd h (by decide)
      · rename_i h3
        split at h
        · exact absurd h (by decide)
        · rename_i h4
          have hm : vMay v = true := by cases hh : vMay v with | true => rfl | false => exact absurd hh h1
          refine ⟨hm, ?_, fun hk => ⟨?_, ?_⟩⟩
          · unfold vMay at hm
            rw [Bool.and_eq_true, decide_eq_true_iff] at hm
            exact hm.1.1
          · cases hh : mdHas L v.depth v.slot with | true => rfl | false => exact absurd ⟨hk, hh⟩ h3
          · have : ¬ (d : Int) < v.depth := fun c => h4 ⟨hk, c⟩
            omega
theorem mdRefers_ok {l : Fns} {L : Afs} {d i : Int} {v : VlV} (h : mdRefers l L d i = (v, 0)) : mdRight l L = true ∧ v.kind = 2 ∧ mdHas L v.depth v.slot = true := by
  unfold mdRefers at h
  split at h
  · rename_i h1; rw [h] at h1; exact absurd rfl h1
  · rename_i h1
    split at h
    · injection h with _ h; exact absurd h (by decide)
    · rename_i h2
      split at h
      · injection h with _ h; exact absurd h (by decide)
      · rename_i h3
        injection h with h _
        have hg : mdGet l L d i = (v, 0) := by
          have e : (mdGet l L d i).2 = 0 := Decidable.byContradiction h1
          exact Prod.ext h e
        rw [hg] at h2 h3
        obtain ⟨g1, g2, g3, g4⟩ := mdGet_ok hg
        obtain ⟨k1, k2, k3⟩ := mdFits_kind g4
        simp only at h2 h3
        have hk : v.kind = 2 := by omega
        exact ⟨g1, hk, (k3 hk).1⟩
set_option maxRecDepth 100000 in
theorem ref_mdload (hs : AfRow w w.heap.size A n zs) (hn : n ≤ 1000000) (hr : FnRow w lo' hi' A2 n2 ys) (hhi : hi' ≤ w.heap.size) (hn2 : n2 ≤ 1000) (hl : ∀ x ∈ vals ys, 0 ≤ x.1 ∧ x.1 ≤ 1000) (d i : Int) (hd : in64 d) (hi : in64 i) :
    Calls Tryz.prog 34 #[.slice A2 n2 c2, .slice A n c, .int .i64 d, .int .i64 i] w (ResVl w (mdLoad (vals ys) (afvals zs) d i)) := by
  have HQ := new_val w
  have hb0 := belF_al (Below.refl w.heap.size w) (.cells #[.int .u8 0, .int .u64 0, .int .i64 0, .int .i64 0] 34)
  have HB := hidb hb0
  have cg := ref_mdrefers (c := c) (c2 := c2) (hs.step hb0) hn (hr.below (hb0.mono hhi)) (Nat.le_trans hhi hb0.size) hn2 hl d i hd hi
  have HE : Hid (∀ no k b u v, mdLoad (vals ys) (afvals zs) d i = (⟨k, b, u, v⟩, no) → ∀ W, Below w.heap.size w W → ResVl w (mdLoad (vals ys) (afvals zs) d i) (.returned (.tuple #[.agg #[.int .u8 k, .int .u64 b, .int .i64 u, .int .i64 v], .int .i64 no])) W) := hidb (fun no k b u v h W hb => ⟨by rw [h]; rfl, hb⟩)
  obtain ⟨⟨⟨k, vb, vd, vi⟩, no⟩, hg⟩ : ∃ r, mdRefers (vals ys) (afvals zs) d i = r := ⟨_, rfl⟩
  rw [hg] at cg
  unfold ResVl vlC at cg
  simp only at cg
  have HS := hidb hs
  clear hs hr hl hb0
  --@9
  go_enter Tryz.func34, Tryz.ntmps34
  go_upto_region 1 with (fail)
  go_cut [10, 11] from 12 to 19 (fun v10 v11 wx => ∃ q, v10 = .pointer (some ⟨q, 0, none⟩) ∧ v11 = .int .i64 no ∧ w.heap.size < q ∧ Hid (ValAt wx q k vb vd vi) ∧ Hid (Below (w.alloc (.cells #[.int .u8 0, .int .u64 0, .int .i64 0, .int .i64 0] 34)).heap.size (w.alloc (.cells #[.int .u8 0, .int .u64 0, .int .i64 0, .int .i64 0] 34)) wx))
  case first =>
    go_wp2_with (first | (go_at_call 68; (with_reducible refine cg.mono ?_); rintro e w1 ⟨rfl, hb1⟩))
    go_meet
    exact ⟨w1.heap.size, rfl, rfl, by have := hb1.size; simp at this; omega, hidb ⟨by simp, by simp, by simp, by simp⟩, hidb (belF_al hb1 (.cells #[.int .u8 (k : Int), .int .u64 (vb : Int), .int .i64 vd, .int .i64 vi] 34))⟩
  case rest =>
    obtain ⟨q, rfl, rfl, hq, HV, HBX⟩ := hcut
    obtain ⟨⟨r0, r1, r2, r3⟩, f0, f1, f2, f3⟩ := HQ.out _ HBX.out
    obtain ⟨v0, v1, v2, v3⟩ := HV.out
    by_cases h0 : no = 0
    · subst h0
      obtain ⟨hR, hk, hH⟩ := mdRefers_ok hg
      simp only at hk hH
      obtain ⟨z, hz, d0, d1, i0, i1⟩ := mdHas_true hH
      rw [HS.out.len] at d1
      obtain ⟨b, off, z', rfl, hbl, hz', hc0, hc1, hok⟩ := HS.out.at_ (j := vd.toNat) (by omega)
      obtain rfl : z = z' := Option.some.inj (hz.symm.trans hz')
      rw [hok.len] at i1
      have hsm := hok.small
      obtain ⟨b2, off2, v, hzA, hbl2, hv, _, e0, e1, e2, e3⟩ := hok.at_ (j := vi.toNat) (by omega)
      have hgd : (afAt (afvals zs) vd.toNat).getD vi.toNat vl0 = v := by rw [afAt_at hz, List.getD_eq_getElem?_getD, hv]; rfl
      obtain ⟨k', vb', vd', vi'⟩ := v
      have PN := hidb (HE.out 0 k' vb' vd' vi' (by unfold mdLoad; rw [hg, if_neg (by simp)]; simp only; rw [hgd]))
      rw [hzA] at hc1
      simp only at *
      have hbw := belF_tr HB.out HBX.out
      have t0 := (hbw.cell (p := ⟨b, off + vd.toNat * 2 + 1, none⟩) hbl).trans hc1
      have t1 := (hbw.cell (p := ⟨b2, off2 + vi.toNat * 4, none⟩) hbl2).trans e0
      have t2 := (hbw.cell (p := ⟨b2, off2 + vi.toNat * 4 + 1, none⟩) hbl2).trans e1
      have t3 := (hbw.cell (p := ⟨b2, off2 + vi.toNat * 4 + 2, none⟩) hbl2).trans e2
      have t4 := (hbw.cell (p := ⟨b2, off2 + vi.toNat * 4 + 3, none⟩) hbl2).trans e3
      have HBW := hidb hbw
      clear hz hz' hc0 hc1 hok hv e0 e1 e2 e3 hgd hzA hbw HE hg hR hk hH cg
      --@10
      go_wp2
      go_region
      go_wp2
      obtain ⟨s0, s1, s2, s3⟩ := four_cellsV wc w.heap.size (.int .u8 (k' : Int)) (.int .u64 (vb' : Int)) (.int .i64 vd') (.int .i64 vi') _ _ _ _ r0 r1 r2 r3
      exact bodyPost_ret (v := .tuple #[.agg #[.int .u8 (k' : Int), .int .u64 (vb' : Int), .int .i64 vd', .int .i64 vi'], .int .i64 0]) (by simp [results, Tryz.results34, go_sem, s0, s1, s2, s3]) rfl (PN.out _ (belF_dr (bel_set4 HBW.out (Nat.le_refl _) _ _ _ _)))
    · have PN := hidb (HE.out no 0 0 0 0 (by unfold mdLoad; rw [hg, if_pos h0]; rfl))
      have e0 : (no != 0) = true := by simpa using h0
      clear HE hg h0 cg
      --@11
      go_wp2
      obtain ⟨s0, s1, s2, s3⟩ := four_cellsV wc w.heap.size (.int .u8 0) (.int .u64 0) (.int .i64 0) (.int .i64 0) _ _ _ _ r0 r1 r2 r3
      exact bodyPost_ret (v := .tuple #[.agg #[.int .u8 0, .int .u64 0, .int .i64 0, .int .i64 0], .int .i64 no]) (by simp [results, Tryz.results34, go_sem, s0, s1, s2, s3]) rfl (PN.out _ (bel_set4 (belF_tr HB.out HBX.out) (Nat.le_refl _) _ _ _ _))
end
end Go.Proofs.YtdcnpaodcjfdbaaGreatDoor

/- What the document's own with of layer 19 (model) returns: a row of frames one of whose slots has something else. -/
namespace Go.Proofs.YtdcnpaodcjfdbaaGreatDoor
open Go.RowKit
set_option linter.unusedVariables false

theorem info_af : (Tryz.prog.info? 59).map (fun i => (i.zero, i.size, i.bytes)) = some (some (.agg #[.int .i64 0, .slice none 0 0]), 2, 32) := by kernel_rfl
theorem info_vl : (Tryz.prog.info? 34).map (fun i => (i.zero, i.size, i.bytes)) = some (some (.agg #[.int .u8 0, .int .u64 0, .int .i64 0, .int .i64 0]), 4, 32) := by kernel_rfl
/-- A row with another value in a slot. -/
def mdWith (L : Afs) (d i : Nat) (v : VlV) : Afs := L.set d ((L.getD d (0, [])).1, (afAt L d).set i v)
theorem cells_set4 (v : VlV) : ∀ (l : List VlV) (i : Nat), i < l.length → cellsAll vlcells (l.set i v) = ((((cellsAll vlcells l).set (i * 4) (.int .u8 v.kind)).set (i * 4 + 1) (.int .u64 v.bits)).set (i * 4 + 2) (.int .i64 v.depth)).set (i * 4 + 3) (.int .i64 v.slot)
  | [], i, h => absurd h (Nat.not_lt_zero _)
  | x :: r, 0, _ => rfl
  | x :: r, i + 1, h => by
    have ih := cells_set4 v r i (by simpa using h)
    have e : (i + 1) * 4 = i * 4 + 4 := by omega
    rw [e]
    show vlcells x ++ cellsAll vlcells (r.set i v) = _
    rw [ih]
    rfl
theorem cells_set2 (z : AfS) : ∀ (l : List AfS) (i : Nat), i < l.length → cellsAll afcells (l.set i z) = ((cellsAll afcells l).set (i * 2) (.int .i64 z.fn)).set (i * 2 + 1) (.slice z.A z.n z.c)
  | [], i, h => absurd h (Nat.not_lt_zero _)
  | x :: r, 0, _ => rfl
  | x :: r, i + 1, h => by
    have ih := cells_set2 z r i (by simpa using h)
    have e : (i + 1) * 2 = i * 2 + 2 := by omega
    rw [e]
    show afcells x ++ cellsAll afcells (r.set i z) = _
    rw [ih]
    rfl
theorem cellsAt_of {E : Type} {f : E → List Value} {s : Nat} {w : World} {B n : Nat} {A : Option Addr} {l : List E} (hf : ∀ y, (f y).length = s) (hs : 0 < s) (h : RowOf (fun cs y => cs = f y) s w B A n l) : CellsAt w A (cellsAll f l) := fun ad e j u hj => by
  have hlen := cellsAll_length hf l
  have hl : l.length = n := h.1
  have hjl : j < l.length * s := by rw [← hlen]; exact (List.getElem?_eq_some_iff.1 hj).1
  have hj2 : j / s < n := by rw [← hl]; exact Nat.div_lt_of_lt_mul (by rw [Nat.mul_comm]; exact hjl)
  obtain ⟨b, off, y, cs, e2, _, hy, _, hc, rfl⟩ := RowOf.at_ h hj2
  rw [e] at e2
  obtain rfl := Option.some.inj e2
  rw [Go.WideShapes.add_plain]
  have hm : j % s < s := Nat.mod_lt _ hs
  have h3 := cellsAll_at hf l (j / s) y hy (j % s) hm
  have h4 : j / s * s + j % s = j := by rw [Nat.mul_comm]; exact Nat.div_add_mod j s
  rw [h4, hj] at h3
  rw [h3, ← hc (j % s) hm]
  have : off + j = off + j / s * s + j % s := by omega
  rw [this]
theorem own_cap {w : World} {base : Nat} {e : TypeId} {s n c : Nat} {A : Option Addr} {xs : List Value} (h : w.ownsRow base e s (.slice A n c) n xs) (hn : 0 < n) : n ≤ c ∧ c ≤ 9223372036854775807 := by
  rcases h.2 with ⟨_, h0⟩ | ⟨g, cap, cur, e1, _, _, e4, e5, _⟩
  · omega
  · injection e1 with _ _ e1
    subst e1
    exact ⟨e4, e5⟩
theorem vl_one (l : List VlV) : ∀ u ∈ cellsAll vlcells l, u.oneCell' = true := fun u hu => by
  obtain ⟨v, _, h⟩ := List.mem_flatMap.1 hu
  simp [vlcells] at h
  rcases h with rfl | rfl | rfl | rfl <;> rfl
theorem af_one (l : List AfS) : ∀ u ∈ cellsAll afcells l, u.oneCell' = true := fun u hu => by
  obtain ⟨v, _, h⟩ := List.mem_flatMap.1 hu
  simp [afcells] at h
  rcases h with rfl | rfl <;> rfl
/-- A row that a call answers. -/
def ResAw (w : World) (L : Afs) (e : Ending) (w' : World) : Prop := ∃ A c zs, e = .returned (.slice A L.length c) ∧ AfRow w' w'.heap.size A L.length zs ∧ afvals zs = L ∧ L.length ≤ c ∧ c ≤ 9223372036854775807 ∧ Below w.heap.size w w'

theorem own_some19 {w : World} {base : Nat} {e : TypeId} {s n c : Nat} {A : Option Addr} {xs : List Value} (h : w.ownsRow base e s (.slice A n c) n xs) (hn : 0 < n) : ∃ g, A = some ⟨g, 0, none⟩ ∧ base ≤ g ∧ g < w.heap.size := by
  rcases h.2 with ⟨_, h0⟩ | ⟨g, cap, cur, e1, _, _, e4, e5, _⟩
  · omega
  · injection e1 with e1 _ _
    subst e1
    obtain ⟨l1, l2⟩ := h.lt g rfl
    exact ⟨g, rfl, l1, l2⟩
theorem own_ne19 {w : World} {base base' s s' n n' c c' g g' : Nat} {e e' : TypeId} {xs xs' : List Value} (h : w.ownsRow base e s (.slice (some ⟨g, 0, none⟩) n c) n xs) (h' : w.ownsRow base' e' s' (.slice (some ⟨g', 0, none⟩) n' c') n' xs') (hne : e ≠ e') : g ≠ g' := fun h0 => by
  subst h0
  obtain ⟨c1, h1⟩ := own_type h g rfl
  obtain ⟨c2, h2⟩ := own_type h' g rfl
  rw [h1] at h2
  injection h2 with h2
  injection h2 with _ h2 _
  exact hne h2

/-- The cells of an element of a row of the call's own. -/
theorem own_four {w : World} {base n c g i : Nat} {e : TypeId} {xs : List Value} (h : w.ownsRow base e 4 (.slice (some ⟨g, 0, none⟩) n c) n xs) (hl : xs.length = n * 4) (hi : i < n) :
    ((w.cell? ⟨g, i * 4, none⟩ = some (xs.getD (i * 4) undef) ∧ w.cell? ⟨g, i * 4 + 1, none⟩ = some (xs.getD (i * 4 + 1) undef) ∧ w.cell? ⟨g, i * 4 + 2, none⟩ = some (xs.getD (i * 4 + 2) undef) ∧ w.cell? ⟨g, i * 4 + 3, none⟩ = some (xs.getD (i * 4 + 3) undef)) ∧
    w.frozen? ⟨g, i * 4, none⟩ = false ∧ w.frozen? ⟨g, i * 4 + 1, none⟩ = false ∧ w.frozen? ⟨g, i * 4 + 2, none⟩ = false ∧ w.frozen? ⟨g, i * 4 + 3, none⟩ = false) := by
  have key : ∀ j, j < n * 4 → w.cell? ⟨g, j, none⟩ = some (xs.getD j undef) := fun j hj => by
    rw [h.cellAt j hj, List.getD_eq_getElem?_getD, List.getElem?_eq_getElem (by omega)]; rfl
  exact ⟨⟨key _ (by omega), key _ (by omega), key _ (by omega), key _ (by omega)⟩, h.frozenAt _, h.frozenAt _, h.frozenAt _, h.frozenAt _⟩
theorem own_two {w : World} {base n c g i : Nat} {e : TypeId} {xs : List Value} (h : w.ownsRow base e 2 (.slice (some ⟨g, 0, none⟩) n c) n xs) (hl : xs.length = n * 2) (hi : i < n) :
    (w.cell? ⟨g, i * 2, none⟩ = some (xs.getD (i * 2) undef) ∧ w.cell? ⟨g, i * 2 + 1, none⟩ = some (xs.getD (i * 2 + 1) undef)) ∧ w.frozen? ⟨g, i * 2, none⟩ = false ∧ w.frozen? ⟨g, i * 2 + 1, none⟩ = false := by
  have key : ∀ j, j < n * 2 → w.cell? ⟨g, j, none⟩ = some (xs.getD j undef) := fun j hj => by
    rw [h.cellAt j hj, List.getD_eq_getElem?_getD, List.getElem?_eq_getElem (by omega)]; rfl
  exact ⟨⟨key _ (by omega), key _ (by omega)⟩, h.frozenAt _, h.frozenAt _⟩

theorem bel_set4o {B : Nat} {a W : World} {g : Nat} (h : Below B a W) (hb : B ≤ g) (o0 o1 o2 o3 : Nat) (u0 u1 u2 u3 : Value) : Below B a ((((W.setCell ⟨g, o0, none⟩ u0).setCell ⟨g, o1, none⟩ u1).setCell ⟨g, o2, none⟩ u2).setCell ⟨g, o3, none⟩ u3) :=
  (((h.setCell (p := ⟨g, o0, none⟩) hb u0).setCell (p := ⟨g, o1, none⟩) hb u1).setCell (p := ⟨g, o2, none⟩) hb u2).setCell (p := ⟨g, o3, none⟩) hb u3
theorem own_setV {w : World} {base n c g i : Nat} {e : TypeId} {vs : List VlV} (v : VlV) (h : w.ownsRow base e 4 (.slice (some ⟨g, 0, none⟩) n c) n (cellsAll vlcells vs)) (hi : i < vs.length) :
    ((((w.setCell ⟨g, i * 4, none⟩ (.int .u8 v.kind)).setCell ⟨g, i * 4 + 1, none⟩ (.int .u64 v.bits)).setCell ⟨g, i * 4 + 2, none⟩ (.int .i64 v.depth)).setCell ⟨g, i * 4 + 3, none⟩ (.int .i64 v.slot)).ownsRow base e 4 (.slice (some ⟨g, 0, none⟩) n c) n (cellsAll vlcells (vs.set i v)) := by
  rw [cells_set4 v vs i hi]
  exact ((((h.stored _ _).1.stored _ _).1.stored _ _).1.stored _ _).1
theorem own_setA {w : World} {base n c g i : Nat} {e : TypeId} {zs : List AfS} (z : AfS) (h : w.ownsRow base e 2 (.slice (some ⟨g, 0, none⟩) n c) n (cellsAll afcells zs)) (hi : i < zs.length) :
    ((w.setCell ⟨g, i * 2, none⟩ (.int .i64 z.fn)).setCell ⟨g, i * 2 + 1, none⟩ (.slice z.A z.n z.c)).ownsRow base e 2 (.slice (some ⟨g, 0, none⟩) n c) n (cellsAll afcells (zs.set i z)) := by
  rw [cells_set2 z zs i hi]
  exact ((h.stored _ _).1.stored _ _).1
theorem own_aside {w : World} {base n c s g g' : Nat} {e : TypeId} {xs : List Value} (h : w.ownsRow base e s (.slice (some ⟨g, 0, none⟩) n c) n xs) (hne : g ≠ g') (o : Nat) (u : Value) : (w.setCell ⟨g', o, none⟩ u).ownsRow base e s (.slice (some ⟨g, 0, none⟩) n c) n xs :=
  own_same h fun q hq => by
    injection hq with hq
    subst hq
    exact heap_setCell_other w ⟨g', o, none⟩ g u hne
theorem own_aside4 {w : World} {base n c s g g' : Nat} {e : TypeId} {xs : List Value} (h : w.ownsRow base e s (.slice (some ⟨g, 0, none⟩) n c) n xs) (hne : g ≠ g') (o0 o1 o2 o3 : Nat) (u0 u1 u2 u3 : Value) : ((((w.setCell ⟨g', o0, none⟩ u0).setCell ⟨g', o1, none⟩ u1).setCell ⟨g', o2, none⟩ u2).setCell ⟨g', o3, none⟩ u3).ownsRow base e s (.slice (some ⟨g, 0, none⟩) n c) n xs :=
  own_aside (own_aside (own_aside (own_aside h hne o0 u0) hne o1 u1) hne o2 u2) hne o3 u3

set_option maxRecDepth 100000 in
set_option maxHeartbeats 4000000 in
theorem ref_mdwith {w : World} {A : Option Addr} {n c : Nat} {zs : List AfS} {z : AfS} (hs : AfRow w w.heap.size A n zs) (hn : n ≤ 1000000) (d i : Nat) (hz : zs[d]? = some z) (hzn : z.n ≤ 1000000) (hi : i < z.n) (v : VlV) (hv : VIn v) :
    Calls Tryz.prog 67 #[.slice A n c, .int .i64 d, .int .i64 i, vlC v] w (ResAw w (mdWith (afvals zs) d i v)) := by
  obtain ⟨i0, hy, hz0, hz1, hz2⟩ := info_parts info_vl
  obtain ⟨i1, ha, ha0, ha1, ha2⟩ := info_parts info_af
  have hlen := hs.len
  have hd : d < n := by rw [← hlen]; exact (List.getElem?_eq_some_iff.1 hz).1
  obtain ⟨b, off, z', rfl, hbl, hz', hc0, hc1, hok⟩ := hs.at_ hd
  obtain rfl : z = z' := Option.some.inj (hz.symm.trans hz')
  have hvl := hok.len
  have HS := hidb hs
  have HK := hidb hok
  have HZ := hidb hz
  obtain ⟨b2, off2, _, hzA, hbl2, _⟩ := hok.at_ hi
  have HNews1 : Hid (∀ W, Below w.heap.size w W → CellsAt W (some ⟨b, off, none⟩) (cellsAll afcells zs)) := hidb (fun W hb => cellsAt_of afcells_len (by omega) (hs.below hb).row)
  have HNews2 : Hid (∀ W, Below w.heap.size w W → CellsAt W z.A (cellsAll vlcells z.vs)) := hidb (fun W hb => cellsAt_of vlcells_len (by omega) (hok.below hb).vals)
  have HC : Hid (∀ W, Below w.heap.size w W → W.cell? ⟨b, off + d * 2, none⟩ = some (.int .i64 z.fn) ∧ W.cell? ⟨b, off + d * 2 + 1, none⟩ = some (.slice z.A z.n z.c)) := hidb (fun W hb => ⟨(hb.cell (p := ⟨b, off + d * 2, none⟩) hbl).trans hc0, (hb.cell (p := ⟨b, off + d * 2 + 1, none⟩) hbl).trans hc1⟩)
  have HLZ : Hid ((cellsAll afcells zs).length = n * 2) := hidb (by rw [cellsAll_length afcells_len, hlen])
  have HLV : Hid ((cellsAll vlcells z.vs).length = z.n * 4) := hidb (by rw [cellsAll_length vlcells_len, hvl])
  obtain ⟨zf, zA, zn, zc, zvs⟩ := z
  obtain ⟨k, vb, vd, vi⟩ := v
  unfold vlC
  simp only at *
  subst hzA
  obtain ⟨W0, hW0⟩ : ∃ W0, W0 = w.alloc (.cells #[.int .u8 (k : Int), .int .u64 (vb : Int), .int .i64 vd, .int .i64 vi] 34) := ⟨_, rfl⟩
  have hz9 : W0.heap.size = w.heap.size + 1 := by rw [hW0]; simp
  have HB0 : Hid (∀ W, Below (w.heap.size + 1) (w.alloc (.cells #[.int .u8 (k : Int), .int .u64 (vb : Int), .int .i64 vd, .int .i64 vi] 34)) W → Below w.heap.size w W) := hidb (fun W hb => (belF_al (Below.refl w.heap.size w) (.cells #[.int .u8 (k : Int), .int .u64 (vb : Int), .int .i64 vd, .int .i64 vi] 34)).trans (hb.mono (by omega)))
  have HBX : Hid (∀ W, Below (w.heap.size + 1) (w.alloc (.cells #[.int .u8 (k : Int), .int .u64 (vb : Int), .int .i64 vd, .int .i64 vi] 34)) W → ValAt W w.heap.size k vb vd vi) := hidb (fun W hb => ValAt.below (w := w.alloc (.cells #[.int .u8 (k : Int), .int .u64 (vb : Int), .int .i64 vd, .int .i64 vi] 34)) ⟨by simp, by simp, by simp, by simp⟩ hb (by omega))
  have hb1 : Below (w.heap.size + 1) (w.alloc (.cells #[.int .u8 (k : Int), .int .u64 (vb : Int), .int .i64 vd, .int .i64 vi] 34)) ((w.alloc (.cells #[.int .u8 (k : Int), .int .u64 (vb : Int), .int .i64 vd, .int .i64 vi] 34)).alloc (.cells #[] 59)) := (Below.refl _ _).alloc (by simp) _
  have HB1 := hidb hb1
  have hd0 : (0 : Int) ≤ (d : Int) := by omega
  have hd1 : (d : Int) < (n : Int) := by omega
  have hj0 : (0 : Int) ≤ (i : Int) := by omega
  have hj1 : (i : Int) < (zn : Int) := by omega
  have HV := hidb hv
  have HVL := hidb hvl
  have HLN := hidb hlen
  have hn0 : 0 < n := by omega
  have hzn0 : 0 < zn := by omega
  clear hs hz hz' hok hc0 hc1 hb1 hv hvl hlen hW0 hz9
  --@1
  go_enter Tryz.func67, Tryz.ntmps67
  go_wp2_with (first
    | (at_builtin; go_loud (refine wpList_append_rowN _ rfl (.tmp 11) (.tmp 12) 23 rfl (w.heap.size + 1) 59 i1 (.agg #[.int .i64 0, .slice none 0 0]) 2 32 Tryz.underlying23 ha ha0 ha1 ha2 rfl (by decide) (.slice (some ⟨w.heap.size + 1, 0, none⟩) 0 0) 0 [] rfl (own_empty' _ _ _ _ _ (by simp) (by simp)) (by simp) (some ⟨b, off, none⟩) n c (cellsAll afcells zs) rfl HLZ.out (fun e => by cases e) (HNews1.out _ (HB0.out _ HB1.out)) (af_one zs) (by unfold maxLen; omega) (by omega) ?_); go_loud (intro A1 k1 w1 hown1 hg1; rw [Nat.zero_add, List.nil_append] at hown1; rw [Nat.zero_add]; have HBA := hidb (HB1.out.grown hg1 (by simp) (fun q hq => by cases hq; exact Nat.le_refl _)); obtain ⟨g1, rfl, hg1a, hg1b⟩ := own_some19 hown1 hn0; have HO1 := hidb hown1; have h91 : w.heap.size + 1 ≤ w1.heap.size := (by omega); have h92 : w.heap.size + 1 ≤ (w1.alloc (.cells #[] 34)).heap.size := Nat.le_trans h91 (by simp); clear hown1 hg1; have HBB := hidb (HBA.out.alloc (o := .cells #[] 34) (by omega) ); obtain ⟨r0, r1⟩ := HC.out _ (HB0.out _ HBB.out)))
    | (at_builtin; go_loud (refine wpList_append_rowN _ rfl (.tmp 14) (.tmp 19) 57 rfl (w.heap.size + 1) 34 i0 (.agg #[.int .u8 0, .int .u64 0, .int .i64 0, .int .i64 0]) 4 32 Tryz.underlying57 hy hz0 hz1 hz2 rfl (by decide) (.slice (some ⟨w1.heap.size, 0, none⟩) 0 0) 0 [] rfl (own_empty' _ _ _ _ _ rfl h91) h92 (some ⟨b2, off2, none⟩) zn zc (cellsAll vlcells zvs) rfl HLV.out (fun e => by cases e) (HNews2.out _ (HB0.out _ HBB.out)) (vl_one zvs) (by unfold maxLen; omega) (by omega) ?_); go_loud (intro A2 k2 w2 hown2 hg2; rw [Nat.zero_add, List.nil_append] at hown2; rw [Nat.zero_add]; have HBC := hidb (HBB.out.grown hg2 h92 (fun q hq => by cases hq; exact h91)); obtain ⟨g2, rfl, hg2a, hg2b⟩ := own_some19 hown2 hzn0; have HO2 := hidb hown2; have HO1b := hidb (own_grown (own_same (w' := w1.alloc (.cells #[] 34)) HO1.out (fun q hq => (belF_al (Below.refl w1.heap.size w1) (.cells #[] 34)).block q (HO1.out.lt q hq).2)) hg2 (fun q hq e => by cases hq; exact absurd (HO1.out.lt _ e).2 (Nat.lt_irrefl _))); clear hown2 hg2; obtain ⟨x0, x1, x2, x3⟩ := HBX.out _ HBC.out; have y := own_four HO2.out HLV.out hi; obtain ⟨⟨y0, y1, y2, y3⟩, z0, z1, z2, z3⟩ := y; have hne : g1 ≠ g2 := own_ne19 HO1b.out HO2.out (by decide); have HBD := hidb (bel_set4o HBC.out hg2a (i * 4) (i * 4 + 1) (i * 4 + 2) (i * 4 + 3) (.int .u8 (k : Int)) (.int .u64 (vb : Int)) (.int .i64 vd) (.int .i64 vi)); obtain ⟨p0, p1⟩ := HC.out _ (HB0.out _ HBD.out); have HO2c := hidb (own_setV ⟨k, vb, vd, vi⟩ HO2.out (show i < zvs.length from by rw [HVL.out]; exact hi)); have HO1c := hidb (own_aside4 HO1b.out hne (i * 4) (i * 4 + 1) (i * 4 + 2) (i * 4 + 3) (.int .u8 (k : Int)) (.int .u64 (vb : Int)) (.int .i64 vd) (.int .i64 vi)); obtain ⟨⟨s0, s1⟩, t0, t1⟩ := own_two HO1c.out HLZ.out hd)))
  go_ret
  have HO1d := own_setA ⟨zf, some ⟨g2, 0, none⟩, zn, k2, zvs.set i ⟨k, vb, vd, vi⟩⟩ HO1c.out (show d < zs.length from by rw [HLN.out]; exact hd)
  have HO2d := own_aside (own_aside HO2c.out (Ne.symm hne) (d * 2) (.int .i64 zf)) (Ne.symm hne) (d * 2 + 1) (.slice (some ⟨g2, 0, none⟩) zn k2)
  have HBE := HB0.out _ ((HBD.out.setCell (p := ⟨g1, d * 2, none⟩) hg1a (.int .i64 zf)).setCell (p := ⟨g1, d * 2 + 1, none⟩) hg1a (.slice (some ⟨g2, 0, none⟩) zn k2))
  simp only at HO1d
  have hwd : mdWith (afvals zs) d i ⟨k, vb, vd, vi⟩ = afvals (zs.set d ⟨zf, some ⟨g2, 0, none⟩, zn, k2, zvs.set i ⟨k, vb, vd, vi⟩⟩) := by
    unfold mdWith; rw [afvals_at HZ.out, afAt_at HZ.out]; unfold afvals; rw [List.map_set]
  have hwl : (mdWith (afvals zs) d i ⟨k, vb, vd, vi⟩).length = n := by rw [hwd, afvals_length, List.length_set, HLN.out]
  obtain ⟨cp1, cp2⟩ := own_cap HO1d hn0
  obtain ⟨cq1, cq2⟩ := own_cap HO2d hzn0
  refine ⟨some ⟨g1, 0, none⟩, k1, _, by rw [hwl]; rfl, ⟨by rw [hwl]; exact RowOf.of_own afcells_len HO1d (by rw [List.length_set, HLN.out]), fun z' hz' => ?_⟩, hwd.symm, by rw [hwl]; exact cp1, cp2, HBE⟩
  rcases List.mem_or_eq_of_mem_set hz' with hz' | rfl
  · exact ((HS.out.each z' hz').below HBE).more HBE.size
  · exact ⟨RowOf.of_own vlcells_len HO2d (by rw [List.length_set, HVL.out]), HK.out.fn, cq1, cq2, fun v hv => by
      rcases List.mem_or_eq_of_mem_set hv with hv | rfl
      · exact HK.out.vin v hv
      · exact HV.out⟩
end Go.Proofs.YtdcnpaodcjfdbaaGreatDoor

/- What the document's own Set, Write, Return and Call of layer 19 (model) return. -/
namespace Go.Proofs.YtdcnpaodcjfdbaaGreatDoor
open Go.RowKit
set_option linter.unusedVariables false

/-- A slot has something else; the error's number. -/
def mdSet (l : Fns) (L : Afs) (d i : Int) (v : VlV) : Afs × Int := if mdRight l L = false then (L, 9) else if mdHas L d i = false then (L, 2) else if mdFits l L d.toNat i v ≠ 0 then (L, mdFits l L d.toNat i v) else (mdWith L d.toNat i.toNat v, 0)
/-- The scalar that a slot refers to has other bits; the error's number. -/
def mdWrite (l : Fns) (L : Afs) (d i : Int) (b : Nat) : Afs × Int := if (mdRefers l L d i).2 ≠ 0 then (L, (mdRefers l L d i).2) else if ((afAt L (mdRefers l L d i).1.depth.toNat).getD (mdRefers l L d i).1.slot.toNat vl0).kind ≠ 1 then (L, 5) else (mdWith L (mdRefers l L d i).1.depth.toNat (mdRefers l L d i).1.slot.toNat ⟨1, b, 0, 0⟩, 0)
/-- A frame less; the error's number. -/
def mdReturn (l : Fns) (L : Afs) : Afs × Int := if mdRight l L = false then (L, 9) else if L.length < 2 then (L, 8) else (L.take (L.length - 1), 0)
/-- A row that a call answers, and an error's number. -/
def ResA (w : World) (r : Afs × Int) (e : Ending) (w' : World) : Prop := ∃ A n c zs, e = .returned (.tuple #[.slice A n c, .int .i64 r.2]) ∧ AfRow w' w'.heap.size A n zs ∧ afvals zs = r.1 ∧ n ≤ c ∧ c ≤ 9223372036854775807 ∧ Below w.heap.size w w'
section
variable {w : World} {A : Option Addr} {n c : Nat} {zs : List AfS} {A2 : Option Addr} {n2 c2 lo' hi' : Nat} {ys : List FnV}
theorem mdRight_slots {l : Fns} (hl : ∀ x ∈ l, 0 ≤ x.1 ∧ x.1 ≤ 1000) {zs : List AfS} {d : Nat} {z : AfS} (h : mdRight l (afvals zs) = true) (hz : zs[d]? = some z) : z.vs.length ≤ 1000 := by
  have := mdSized_iff.1 (mdRight_iff.1 h).1 _ (afvals_mem hz)
  have := fSize_range hl z.fn
  simp only at *
  omega
theorem AfRow.take {w : World} {B n m : Nat} {A : Option Addr} {zs : List AfS} (h : AfRow w B A n zs) (hm : m ≤ n) : AfRow w B A m (zs.take m) :=
  ⟨⟨by rw [List.length_take, h.len]; omega, fun h0 => by
    obtain ⟨b, off, e, hb, hc⟩ := h.row.2 (by omega)
    refine ⟨b, off, e, hb, fun j y hj => hc j y ?_⟩
    rw [List.getElem?_take] at hj
    split at hj
    · exact hj
    · cases hj⟩, fun z hz => h.each z (List.mem_of_mem_take hz)⟩
theorem ResA.elder (hs : AfRow w w.heap.size A n zs) (hc : n ≤ c ∧ c ≤ 9223372036854775807) {W : World} (hb : Below w.heap.size w W) (no : Int) : ResA w (afvals zs, no) (.returned (.tuple #[.slice A n c, .int .i64 no])) W := ⟨A, n, c, zs, rfl, hs.step hb, rfl, hc.1, hc.2, hb⟩

set_option maxRecDepth 100000 in
theorem ref_mdset (hs : AfRow w w.heap.size A n zs) (hn : n ≤ 1000000) (hc : n ≤ c ∧ c ≤ 9223372036854775807) (hr : FnRow w lo' hi' A2 n2 ys) (hhi : hi' ≤ w.heap.size) (hn2 : n2 ≤ 1000) (hl : ∀ x ∈ vals ys, 0 ≤ x.1 ∧ x.1 ≤ 1000) (d i : Int) (hd : in64 d) (hi : in64 i) (v : VlV) (hv : VIn v) :
    Calls Tryz.prog 32 #[.slice A2 n2 c2, .slice A n c, .int .i64 d, .int .i64 i, vlC v] w (ResA w (mdSet (vals ys) (afvals zs) d i v)) := by
  have HS := hidb hs
  have hb0 := belF_al (Below.refl w.heap.size w) (.cells #[.int .u8 (v.kind : Int), .int .u64 (v.bits : Int), .int .i64 v.depth, .int .i64 v.slot] 34)
  have HB := hidb hb0
  have cr := ref_mdright (c := c) (c2 := c2) (hs.step hb0) hn (hr.below (hb0.mono hhi)) (Nat.le_trans hhi hb0.size) hn2 hl
  have CH : Hid (∀ W, Below w.heap.size w W → Calls Tryz.prog 52 #[.slice A n c, .int .i64 d, .int .i64 i] W fun e w' => e = .returned (.bool (mdHas (afvals zs) d i)) ∧ W = w') := hidb (fun W hb => ref_mdhas (hs.below hb) (by omega) d i hd hi _ rfl)
  have HE : Hid (∀ no, mdSet (vals ys) (afvals zs) d i v = (afvals zs, no) → ∀ W, Below w.heap.size w W → ResA w (mdSet (vals ys) (afvals zs) d i v) (.returned (.tuple #[.slice A n c, .int .i64 no])) W) := hidb (fun no h W hb => by rw [h]; exact ResA.elder hs hc hb no)
  have HV : Hid (∀ W, Below (w.alloc (.cells #[.int .u8 (v.kind : Int), .int .u64 (v.bits : Int), .int .i64 v.depth, .int .i64 v.slot] 34)).heap.size (w.alloc (.cells #[.int .u8 (v.kind : Int), .int .u64 (v.bits : Int), .int .i64 v.depth, .int .i64 v.slot] 34)) W → ValAt W w.heap.size v.kind v.bits v.depth v.slot) := hidb (fun W hb => ValAt.below ⟨by simp, by simp, by simp, by simp⟩ hb (by simp))
  cases hR : mdRight (vals ys) (afvals zs) with
  | false =>
    rw [hR] at cr
    have PN := hidb (HE.out 9 (by unfold mdSet; rw [hR, if_pos rfl]))
    obtain ⟨k, vb, vd, vi⟩ := v
    unfold vlC at *
    simp only at *
    clear hs hr hl hR HE CH hb0 HV
    --@1
    go_enter Tryz.func32, Tryz.ntmps32
    go_wp2_with (first | (go_at_call 8; (with_reducible refine cr.mono ?_); rintro e w1 ⟨rfl, hb1⟩))
    go_ret2
    exact PN.out _ (belF_tr HB.out hb1)
  | true =>
    rw [hR] at cr
    cases hH : mdHas (afvals zs) d i with
    | false =>
      rw [hH] at CH
      have PN := hidb (HE.out 2 (by unfold mdSet; rw [hR, hH, if_neg (by simp), if_pos rfl]))
      obtain ⟨k, vb, vd, vi⟩ := v
      unfold vlC at *
      simp only at *
      clear hs hr hl hR hH HE hb0 HV
      --@2
      go_enter Tryz.func32, Tryz.ntmps32
      go_wp2_with (first
        | (go_at_call 8; (with_reducible refine cr.mono ?_); rintro e w1 ⟨rfl, hb1⟩)
        | (go_at_call 52; (with_reducible refine (CH.out _ (belF_tr HB.out hb1)).mono ?_); rintro e w2 ⟨rfl, rfl⟩))
      go_ret2
      exact PN.out _ (belF_tr HB.out hb1)
    | true =>
      rw [hH] at CH
      obtain ⟨z, hz, d0, d1, i0, i1⟩ := mdHas_true hH
      rw [hs.len] at d1
      obtain ⟨dn, rfl⟩ : ∃ dn : Nat, d = (dn : Int) := ⟨d.toNat, by omega⟩
      obtain ⟨j, rfl⟩ : ∃ j : Nat, i = (j : Int) := ⟨i.toNat, by omega⟩
      rw [Int.toNat_natCast] at hz
      have hok := hs.each z (List.mem_of_getElem? hz)
      have hz1 := mdRight_slots hl hR hz
      rw [hok.len] at i1 hz1
      have CF : Hid (∀ W, Below w.heap.size w W → Calls Tryz.prog 21 #[.slice A2 n2 c2, .slice A n c, .int .i64 dn, .int .i64 j, vlC v] W fun e w' => e = .returned (.int .i64 (mdFits (vals ys) (afvals zs) dn j v)) ∧ Below W.heap.size W w') := hidb (fun W hb =>
        ref_mdfits (hs.step hb) hn (hr.below (hb.mono hhi)) (Nat.le_trans hhi hb.size) hn2 hl dn (by omega) j hi v hv)
      have CW : Hid (∀ W, Below w.heap.size w W → Calls Tryz.prog 67 #[.slice A n c, .int .i64 dn, .int .i64 j, vlC v] W (ResAw W (mdWith (afvals zs) dn j v))) := hidb (fun W hb => ref_mdwith (hs.step hb) hn dn j hz (by omega) (by omega) v hv)
      obtain ⟨no, hno⟩ : ∃ no, mdFits (vals ys) (afvals zs) dn j v = no := ⟨_, rfl⟩
      rw [hno] at CF
      by_cases h0 : no = 0
      · have HP : Hid (mdSet (vals ys) (afvals zs) dn j v = (mdWith (afvals zs) dn j v, 0)) := hidb (by unfold mdSet; rw [hR, hH, if_neg (by simp), if_neg (by simp), Int.toNat_natCast, hno, if_neg (by simp [h0]), Int.toNat_natCast])
        have e0 : (no != 0) = false := by simp [h0]
        obtain ⟨k, vb, vd, vi⟩ := v
        unfold vlC at *
        simp only at *
        clear hs hr hl hR hH HE hb0 hno h0 hz hok
        --@3
        go_enter Tryz.func32, Tryz.ntmps32
        go_wp2_with (first
          | (go_at_call 8; (with_reducible refine cr.mono ?_); rintro e w1 ⟨rfl, hb1⟩; obtain ⟨q0, q1, q2, q3⟩ := HV.out _ hb1)
          | (go_at_call 52; (with_reducible refine (CH.out _ (belF_tr HB.out hb1)).mono ?_); rintro e w2 ⟨rfl, rfl⟩)
          | (go_at_call 21; (with_reducible refine (CF.out _ (belF_tr HB.out hb1)).mono ?_); rintro e w3 ⟨rfl, hb3⟩; obtain ⟨x0, x1, x2, x3⟩ := HV.out _ (belF_tr hb1 hb3); have HB3 := hidb (belF_tr (belF_tr HB.out hb1) hb3))
          | (go_at_call 67; (with_reducible refine (CW.out _ HB3.out).mono ?_); rintro e w4 ⟨A4, c4, zs4, rfl, r1, r2, r3, r4, hb4⟩; have R1 := hidb r1; have R2 := hidb r2; have R3 := hidb r3; have HB4 := hidb (belF_tr HB3.out hb4); clear r1 r2 r3 hb4))
        go_ret2
        rw [HP.out]
        exact ⟨A4, _, c4, zs4, rfl, R1.out, R2.out, R3.out, r4, HB4.out⟩
      · have PN := hidb (HE.out no (by unfold mdSet; rw [hR, hH, if_neg (by simp), if_neg (by simp), Int.toNat_natCast, hno, if_pos h0]))
        have e0 : (no != 0) = true := by simpa using h0
        obtain ⟨k, vb, vd, vi⟩ := v
        unfold vlC at *
        simp only at *
        clear hs hr hl hR hH HE hb0 hno h0 hz hok CW
        --@4
        go_enter Tryz.func32, Tryz.ntmps32
        go_wp2_with (first
          | (go_at_call 8; (with_reducible refine cr.mono ?_); rintro e w1 ⟨rfl, hb1⟩; obtain ⟨q0, q1, q2, q3⟩ := HV.out _ hb1)
          | (go_at_call 52; (with_reducible refine (CH.out _ (belF_tr HB.out hb1)).mono ?_); rintro e w2 ⟨rfl, rfl⟩)
          | (go_at_call 21; (with_reducible refine (CF.out _ (belF_tr HB.out hb1)).mono ?_); rintro e w3 ⟨rfl, hb3⟩; have HB3 := hidb (belF_tr (belF_tr HB.out hb1) hb3)))
        go_ret2
        exact PN.out _ HB3.out

set_option maxRecDepth 100000 in
theorem ref_mdwrite (hs : AfRow w w.heap.size A n zs) (hn : n ≤ 1000000) (hc : n ≤ c ∧ c ≤ 9223372036854775807) (hr : FnRow w lo' hi' A2 n2 ys) (hhi : hi' ≤ w.heap.size) (hn2 : n2 ≤ 1000) (hl : ∀ x ∈ vals ys, 0 ≤ x.1 ∧ x.1 ≤ 1000) (d i : Int) (hd : in64 d) (hi : in64 i) (bs : Nat) (hbs : bs < 18446744073709551616) :
    Calls Tryz.prog 35 #[.slice A2 n2 c2, .slice A n c, .int .i64 d, .int .i64 i, .int .u64 bs] w (ResA w (mdWrite (vals ys) (afvals zs) d i bs)) := by
  have HS := hidb hs
  have cg := ref_mdrefers (c := c) (c2 := c2) hs hn hr hhi hn2 hl d i hd hi
  have HE : Hid (∀ no, mdWrite (vals ys) (afvals zs) d i bs = (afvals zs, no) → ∀ W, Below w.heap.size w W → ResA w (mdWrite (vals ys) (afvals zs) d i bs) (.returned (.tuple #[.slice A n c, .int .i64 no])) W) := hidb (fun no h W hb => by rw [h]; exact ResA.elder hs hc hb no)
  obtain ⟨⟨⟨k, vb, vd, vi⟩, no⟩, hg⟩ : ∃ r, mdRefers (vals ys) (afvals zs) d i = r := ⟨_, rfl⟩
  rw [hg] at cg
  unfold ResVl vlC at cg
  simp only at cg
  have CW : Hid (∀ W z (dn j : Nat), Below w.heap.size w W → zs[dn]? = some z → z.n ≤ 1000000 → j < z.n → Calls Tryz.prog 67 #[.slice A n c, .int .i64 dn, .int .i64 j, vlC ⟨1, bs, 0, 0⟩] W (ResAw W (mdWith (afvals zs) dn j ⟨1, bs, 0, 0⟩))) := hidb (fun W z dn j hb hz h1 h2 => ref_mdwith (hs.step hb) hn dn j hz h1 h2 ⟨1, bs, 0, 0⟩ ⟨by show (1 : Nat) < 256; omega, hbs, by show in64 0; unfold in64; omega, by show in64 0; unfold in64; omega⟩)
  clear hs hr
  --@5
  go_enter Tryz.func35, Tryz.ntmps35
  go_upto_region 1 with (fail)
  go_cut [12, 13] from 14 to 21 (fun v12 v13 wx => ∃ q, v12 = .pointer (some ⟨q, 0, none⟩) ∧ v13 = .int .i64 no ∧ Hid (∀ W, Below wx.heap.size wx W → ValAt W q k vb vd vi) ∧ Hid (Below w.heap.size w wx))
  case first =>
    go_wp2_with (first | (go_at_call 68; (with_reducible refine cg.mono ?_); rintro e w1 ⟨rfl, hb1⟩))
    go_meet
    exact ⟨w1.heap.size, rfl, rfl, hidb (fun W hb => ValAt.below ⟨by simp, by simp, by simp, by simp⟩ hb (by simp)), hidb (belF_al hb1 (.cells #[.int .u8 (k : Int), .int .u64 (vb : Int), .int .i64 vd, .int .i64 vi] 34))⟩
  case rest =>
    obtain ⟨q, rfl, rfl, HV, HBX⟩ := hcut
    by_cases h0 : no = 0
    · subst h0
      obtain ⟨hR, hk, hH⟩ := mdRefers_ok hg
      simp only at hk hH
      obtain ⟨z, hz, d0, d1, i0, i1⟩ := mdHas_true hH
      rw [HS.out.len] at d1
      obtain ⟨dn, rfl⟩ : ∃ dn : Nat, vd = (dn : Int) := ⟨vd.toNat, by omega⟩
      obtain ⟨j, rfl⟩ : ∃ j : Nat, vi = (j : Int) := ⟨vi.toNat, by omega⟩
      rw [Int.toNat_natCast] at hz
      obtain ⟨v0, v1, v2, v3⟩ := HV.out _ (Below.refl _ _)
      obtain ⟨b, off, z', rfl, hbl, hz', hc0, hc1, hok⟩ := HS.out.at_ (j := dn) (by omega)
      obtain rfl : z = z' := Option.some.inj (hz.symm.trans hz')
      have hz1 := mdRight_slots hl hR hz
      rw [hok.len] at i1 hz1
      have hsm := hok.small
      obtain ⟨b2, off2, v, hzA, hbl2, hv, _, e0, _⟩ := hok.at_ (j := j) (by omega)
      have hgd : (afAt (afvals zs) dn).getD j vl0 = v := by rw [afAt_at hz, List.getD_eq_getElem?_getD, hv]; rfl
      rw [hzA] at hc1
      have hbw := HBX.out
      have t0 := (hbw.cell (p := ⟨b, off + dn * 2 + 1, none⟩) hbl).trans hc1
      have t1 := (hbw.cell (p := ⟨b2, off2 + j * 4, none⟩) hbl2).trans e0
      have CWX : Hid (∀ W, Below w.heap.size w W → Calls Tryz.prog 67 #[.slice (some ⟨b, off, none⟩) n c, .int .i64 dn, .int .i64 j, .agg #[.int .u8 1, .int .u64 (bs : Int), .int .i64 0, .int .i64 0]] W (ResAw W (mdWith (afvals zs) dn j ⟨1, bs, 0, 0⟩))) := hidb (fun W hb => CW.out W z dn j hb hz (by omega) (by omega))
      have hj0 : (0 : Int) ≤ (j : Int) := by omega
      have hj1 : (j : Int) < (z.n : Int) := by omega
      obtain ⟨m, hm⟩ : ∃ m, v.kind = m := ⟨_, rfl⟩
      rw [hm] at t1
      by_cases h1 : m = 1
      · have HP : Hid (mdWrite (vals ys) (afvals zs) d i bs = (mdWith (afvals zs) dn j ⟨1, bs, 0, 0⟩, 0)) := hidb (by unfold mdWrite; rw [hg, if_neg (by simp)]; simp only [Int.toNat_natCast]; rw [hgd, hm, if_neg (by simp [h1])])
        have e1 : ((m : Int) != 1) = false := by simp; omega
        clear hz hz' hc0 hc1 hok hv e0 hgd hzA hbw HE hg hR hk hH cg CW h1 hm hl
        --@6
        go_wp2
        go_quiet (fail)
        obtain ⟨wz, hwz⟩ : ∃ wz, wz = wc.drewN nq := ⟨_, rfl⟩
        have HBZ : Hid (Below w.heap.size w wz) := hidb (by rw [hwz]; exact belowN HBX.out _)
        obtain ⟨x0, x1, x2, x3⟩ : ValAt wz q k vb dn j := by rw [hwz]; exact HV.out _ (belowN (Below.refl _ _) _)
        rw [← hwz]
        clear hwz v0 v1 v2 v3
        go_wp2_with (first | (go_at_call 67; (with_reducible refine (CWX.out _ HBZ.out).mono ?_); rintro e w4 ⟨A4, c4, zs4, rfl, r1, r2, r3, r4, hb4⟩; have R1 := hidb r1; have R2 := hidb r2; have R3 := hidb r3; have HB4 := hidb (belF_tr HBZ.out hb4); clear r1 r2 r3 hb4))
        go_ret2
        rw [HP.out]
        exact ⟨A4, _, c4, zs4, rfl, R1.out, R2.out, R3.out, r4, HB4.out⟩
      · have PN := hidb (HE.out 5 (by unfold mdWrite; rw [hg, if_neg (by simp)]; simp only [Int.toNat_natCast]; rw [hgd, hm, if_pos h1]))
        have e1 : ((m : Int) != 1) = true := by simp; omega
        clear hz hz' hc0 hc1 hok hv e0 hgd hzA hbw HE hg hR hk hH cg CW h1 hm hl CWX
        --@7
        go_wp2
        go_quiet (fail)
        go_wp2
        go_ret2
        exact PN.out _ (belowN HBX.out _)
    · have PN := hidb (HE.out no (by unfold mdWrite; rw [hg, if_pos h0]))
      have e0 : (no != 0) = true := by simpa using h0
      clear HE hg h0 cg CW hl
      --@8
      go_wp2
      go_ret2
      exact PN.out _ HBX.out

set_option maxRecDepth 100000 in
theorem ref_mdreturn (hs : AfRow w w.heap.size A n zs) (hn : n ≤ 1000000) (hc : n ≤ c ∧ c ≤ 9223372036854775807) (hr : FnRow w lo' hi' A2 n2 ys) (hhi : hi' ≤ w.heap.size) (hn2 : n2 ≤ 1000) (hl : ∀ x ∈ vals ys, 0 ≤ x.1 ∧ x.1 ≤ 1000) :
    Calls Tryz.prog 31 #[.slice A2 n2 c2, .slice A n c] w (ResA w (mdReturn (vals ys) (afvals zs))) := by
  have HLN := hidb hs.len
  have HS := hidb hs
  have cr := ref_mdright (c := c) (c2 := c2) hs hn hr hhi hn2 hl
  have HE : Hid (∀ no, mdReturn (vals ys) (afvals zs) = (afvals zs, no) → ∀ W, Below w.heap.size w W → ResA w (mdReturn (vals ys) (afvals zs)) (.returned (.tuple #[.slice A n c, .int .i64 no])) W) := hidb (fun no h W hb => by rw [h]; exact ResA.elder hs hc hb no)
  have hlen : (afvals zs).length = n := by rw [afvals_length, HLN.out]
  cases hR : mdRight (vals ys) (afvals zs) with
  | false =>
    rw [hR] at cr
    have PN := hidb (HE.out 9 (by unfold mdReturn; rw [hR, if_pos rfl]))
    clear hs hr hl hR HE hlen
    --@9
    go_enter Tryz.func31, Tryz.ntmps31
    go_wp2_with (first | (go_at_call 8; (with_reducible refine cr.mono ?_); rintro e w1 ⟨rfl, hb1⟩))
    go_ret2
    exact PN.out _ hb1
  | true =>
    rw [hR] at cr
    by_cases h2 : n < 2
    · have PN := hidb (HE.out 8 (by unfold mdReturn; rw [hR, if_neg (by simp), hlen, if_pos h2]))
      clear hs hr hl hR HE hlen
      --@10
      go_enter Tryz.func31, Tryz.ntmps31
      go_wp2_with (first | (go_at_call 8; (with_reducible refine cr.mono ?_); rintro e w1 ⟨rfl, hb1⟩))
      go_ret2
      exact PN.out _ hb1
    · have HP : Hid (mdReturn (vals ys) (afvals zs) = (afvals (zs.take (n - 1)), 0)) := hidb (by unfold mdReturn; rw [hR, if_neg (by simp), hlen, if_neg h2]; unfold afvals; rw [List.map_take])
      obtain ⟨m, rfl⟩ : ∃ m, n = m + 1 := ⟨n - 1, by omega⟩
      obtain ⟨b, off, z, rfl, _⟩ := hs.at_ (j := 0) (by omega)
      obtain ⟨hc1, hc2⟩ := hc
      have hw : wrap64 ((m : Int) + 1 - 1) = (m : Int) := by unfold wrap64; omega
      clear hs hr hl hR HE hlen
      --@11
      go_enter Tryz.func31, Tryz.ntmps31
      go_wp2_with (first | (go_at_call 8; (with_reducible refine cr.mono ?_); rintro e w1 ⟨rfl, hb1⟩))
      go_ret2
      rw [HP.out, Nat.add_sub_cancel]
      exact ⟨some ⟨b, off, none⟩, m, c, zs.take m, rfl, (HS.out.step hb1).take (by omega), rfl, by omega, hc2, hb1⟩
end
end Go.Proofs.YtdcnpaodcjfdbaaGreatDoor

/- What the document's own Call of layer 19 (model) returns. -/
namespace Go.Proofs.YtdcnpaodcjfdbaaGreatDoor
open Go.RowKit
set_option linter.unusedVariables false

/-- What a new frame's slots have. -/
def mdNew (l : Fns) (f : Int) (n : Nat) : List VlV := (List.range n).map fun (i : Nat) => if fPtr l f i = true then vl0 else ⟨1, 0, 0, 0⟩
/-- A frame more; the error's number. -/
def mdCall (l : Fns) (L : Afs) (f : Int) : Afs × Int := if mdRight l L = false then (L, 9) else if fSize l f < 0 then (L, 1) else (L ++ [(f, mdNew l f (fSize l f).toNat)], 0)
theorem mdNew_succ (l : Fns) (f : Int) (n : Nat) : mdNew l f (n + 1) = mdNew l f n ++ [if fPtr l f n = true then vl0 else ⟨1, 0, 0, 0⟩] := by
  unfold mdNew; rw [List.range_succ, List.map_append]; rfl
theorem mdNew_length (l : Fns) (f : Int) (n : Nat) : (mdNew l f n).length = n := by unfold mdNew; simp
theorem mdNew_in {l : Fns} {f : Int} {n : Nat} {v : VlV} (h : v ∈ mdNew l f n) : VIn v := by
  obtain ⟨i, _, rfl⟩ := List.mem_map.1 h
  split
  · exact ⟨by show (0 : Nat) < 256; omega, by show (0 : Nat) < _; omega, by show in64 0; unfold in64; omega, by show in64 0; unfold in64; omega⟩
  · exact ⟨by show (1 : Nat) < 256; omega, by show (0 : Nat) < _; omega, by show in64 0; unfold in64; omega, by show in64 0; unfold in64; omega⟩
theorem own_cap0 {w : World} {base : Nat} {e : TypeId} {s n c : Nat} {A : Option Addr} {xs : List Value} (h : w.ownsRow base e s (.slice A n c) n xs) : n ≤ c ∧ c ≤ 9223372036854775807 := by
  rcases h.2 with ⟨e1, h0⟩ | ⟨g, cap, cur, e1, _, _, e4, e5, _⟩
  · injection e1 with _ _ e1
    omega
  · injection e1 with _ _ e1
    subst e1
    exact ⟨e4, e5⟩
theorem own_types19 {w : World} {base base' s s' n n' : Nat} {e e' : TypeId} {v v' : Value} {xs xs' : List Value} (h : w.ownsRow base e s v n xs) (h' : w.ownsRow base' e' s' v' n' xs') (hne : e ≠ e') : ∀ b, v.ownBlock = some b → v'.ownBlock ≠ some b := fun b hb hb' => by
  obtain ⟨c1, h1⟩ := own_type h b hb
  obtain ⟨c2, h2⟩ := own_type h' b hb'
  rw [h1] at h2
  injection h2 with h2
  injection h2 with _ h2 _
  exact hne h2
section
variable {w : World} {A : Option Addr} {n c : Nat} {zs : List AfS} {A2 : Option Addr} {n2 c2 lo' hi' : Nat} {ys : List FnV}
set_option maxRecDepth 100000 in
set_option maxHeartbeats 4000000 in
theorem ref_mdcall (hs : AfRow w w.heap.size A n zs) (hn : n ≤ 1000000) (hc : n ≤ c ∧ c ≤ 9223372036854775807) (hr : FnRow w lo' hi' A2 n2 ys) (hhi : hi' ≤ w.heap.size) (hn2 : n2 ≤ 1000) (hl : ∀ x ∈ vals ys, 0 ≤ x.1 ∧ x.1 ≤ 1000) (f : Int) (hf : in64 f) :
    Calls Tryz.prog 30 #[.slice A2 n2 c2, .slice A n c, .int .i64 f] w (ResA w (mdCall (vals ys) (afvals zs) f)) := by
  obtain ⟨i0, hy, hz0, hz1, hz2⟩ := info_parts info_vl
  obtain ⟨i1, ha, ha0, ha1, ha2⟩ := info_parts info_af
  have HLN := hidb hs.len
  have HS := hidb hs
  have cr := ref_mdright (c := c) (c2 := c2) hs hn hr hhi hn2 hl
  have HE : Hid (∀ no, mdCall (vals ys) (afvals zs) f = (afvals zs, no) → ∀ W, Below w.heap.size w W → ResA w (mdCall (vals ys) (afvals zs) f) (.returned (.tuple #[.slice A n c, .int .i64 no])) W) := hidb (fun no h W hb => by rw [h]; exact ResA.elder hs hc hb no)
  cases hR : mdRight (vals ys) (afvals zs) with
  | false =>
    rw [hR] at cr
    have PN := hidb (HE.out 9 (by unfold mdCall; rw [hR, if_pos rfl]))
    clear hs hr hl hR HE
    --@1
    go_enter Tryz.func30, Tryz.ntmps30
    go_wp2_with (first | (go_at_call 8; (with_reducible refine cr.mono ?_); rintro e w1 ⟨rfl, hb1⟩))
    go_ret2
    exact PN.out _ hb1
  | true =>
    rw [hR] at cr
    have CS : Hid (∀ W, Below w.heap.size w W → Calls Tryz.prog 20 #[.slice A2 n2 c2, .int .i64 f] W fun e w' => e = .returned (.int .i64 (fSize (vals ys) f)) ∧ W = w') := hidb (fun W hb => ref_fsize A2 n2 c2 ys lo' hi' W f (hr.below (hb.mono hhi)) hn2)
    have CP : Hid (∀ W (i : Nat), Below w.heap.size w W → i ≤ 1000 → Calls Tryz.prog 51 #[.slice A2 n2 c2, .int .i64 f, .int .i64 i] W fun e w' => e = .returned (.bool (fPtr (vals ys) f i)) ∧ W = w') := hidb (fun W i hb hi => ref_fptrR A2 n2 c2 ys lo' hi' W f i (hr.below (hb.mono hhi)) hn2 (by unfold in64; omega) (fun x hx => (hl x hx).1))
    have hz := fSize_range hl f
    by_cases h0 : fSize (vals ys) f < 0
    · have PN := hidb (HE.out 1 (by unfold mdCall; rw [hR, if_neg (by simp), if_pos h0]))
      obtain ⟨q, hq⟩ : ∃ q, fSize (vals ys) f = q := ⟨_, rfl⟩
      rw [hq] at CS h0 hz
      clear hs hr hl hR HE hq
      --@2
      go_enter Tryz.func30, Tryz.ntmps30
      go_wp2_with (first
        | (go_at_call 8; (with_reducible refine cr.mono ?_); rintro e w1 ⟨rfl, hb1⟩)
        | (go_at_call 20; (with_reducible refine (CS.out _ hb1).mono ?_); rintro e w2 ⟨rfl, rfl⟩))
      go_ret2
      exact PN.out _ hb1
    · obtain ⟨sz, hsz⟩ : ∃ sz : Nat, fSize (vals ys) f = (sz : Int) := ⟨(fSize (vals ys) f).toNat, by omega⟩
      have HP : Hid (mdCall (vals ys) (afvals zs) f = (afvals zs ++ [(f, mdNew (vals ys) f sz)], 0)) := hidb (by unfold mdCall; rw [hR, if_neg (by simp), if_neg h0, hsz, Int.toNat_natCast])
      rw [hsz] at CS h0 hz
      have hsz9 : sz ≤ 1000 := by omega
      have HC := hidb hc
      have HLZ : Hid ((cellsAll afcells zs).length = n * 2) := hidb (by rw [cellsAll_length afcells_len, HLN.out])
      have HNil : A = none → n = 0 := fun e => by
        rcases Nat.eq_zero_or_pos n with h | h
        · exact h
        · obtain ⟨b, off, z, e2, _⟩ := hs.at_ h
          rw [e] at e2; cases e2
      have HNIL := hidb HNil
      have HNews1 : Hid (∀ W, Below w.heap.size w W → CellsAt W A (cellsAll afcells zs)) := hidb (fun W hb => cellsAt_of afcells_len (by omega) (hs.below hb).row)
      clear hs hr hl hR HE hsz hc HNil
      --@3
      go_enter Tryz.func30, Tryz.ntmps30
      go_wp2_with (first
        | (go_at_call 8; (with_reducible refine cr.mono ?_); rintro e w1 ⟨rfl, hb1⟩; have HB1 := hidb hb1; clear hb1)
        | (go_at_call 20; (with_reducible refine (CS.out _ HB1.out).mono ?_); rintro e w2 ⟨rfl, rfl⟩))
      clear cr CS
      go_loopw [9, 10] (fun v9 v10 wr => ∃ (i : Nat) (D : Option Addr) (kd : Nat), i ≤ sz ∧ v9 = .slice D i kd ∧ v10 = .int .i64 i ∧ Hid (wr.ownsRow w.heap.size 34 4 (.slice D i kd) i (cellsAll vlcells (mdNew (vals ys) f i))) ∧ Hid (Below w.heap.size w wr)) (fun _ v10 _ => (sz - intOf v10).toNat)
      case atStart => exact ⟨0, _, _, by omega, rfl, rfl, hidb (own_empty w1 w.heap.size _ _ HB1.out.size), hidb (belF_al HB1.out _)⟩
      case round =>
        obtain ⟨i, D, kd, hi, rfl, rfl, HO, HB⟩ := hrel
        by_cases hlt : i < sz
        · have kp := CP.out _ i HB.out (by omega)
          obtain ⟨P, hP⟩ : ∃ P, fPtr (vals ys) f (i : Int) = P := ⟨_, rfl⟩
          rw [hP] at kp
          have hcell : cellsAll vlcells (mdNew (vals ys) f (i + 1)) = cellsAll vlcells (mdNew (vals ys) f i) ++ vlcells (if P = true then vl0 else ⟨1, 0, 0, 0⟩) := by rw [mdNew_succ, cellsAll_append, hP, cellsAll_one]
          have HCELL := hidb hcell
          clear hcell hP
          cases P with
          | true =>
            --@4
            go_wp2_with (first
              | (go_at_call 51; (with_reducible refine kp.mono ?_); rintro e w3 ⟨rfl, rfl⟩)
              | (at_builtin; go_loud (refine wpList_append_struct _ rfl (.tmp 32) (.tmp 34) 57 rfl w.heap.size 34 i0 (.agg #[.int .u8 0, .int .u64 0, .int .i64 0, .int .i64 0]) 4 32 Tryz.underlying57 hy hz0 hz1 hz2 rfl (by decide) (.slice D i kd) i _ rfl HO.out HB.out.size #[.int .u8 0, .int .u64 0, .int .i64 0, .int .i64 0] rfl (by simp [Value.oneCell']) _ rfl (by unfold maxLen; omega) (by omega) ?_); go_loud (intro v4 w4 hown4 hb4; have HO4 := hidb hown4; have HB4 := hidb (HB.out.trans hb4); clear hown4 hb4)))
            go_roundw
            case rel =>
              obtain ⟨D4, k4, rfl⟩ := own_form2 HO4.out
              exact ⟨i + 1, D4, k4, by omega, rfl, by go_num, hidb (by rw [HCELL.out]; exact HO4.out), HB4⟩
            case measure => simp [intOf]; omega
          | false =>
            --@5
            go_wp2_with (first
              | (go_at_call 51; (with_reducible refine kp.mono ?_); rintro e w3 ⟨rfl, rfl⟩)
              | (at_builtin; go_loud (refine wpList_append_struct _ rfl (.tmp 36) (.tmp 38) 57 rfl w.heap.size 34 i0 (.agg #[.int .u8 0, .int .u64 0, .int .i64 0, .int .i64 0]) 4 32 Tryz.underlying57 hy hz0 hz1 hz2 rfl (by decide) (.slice D i kd) i _ rfl HO.out HB.out.size #[.int .u8 1, .int .u64 0, .int .i64 0, .int .i64 0] rfl (by simp [Value.oneCell']) _ rfl (by unfold maxLen; omega) (by omega) ?_); go_loud (intro v4 w4 hown4 hb4; have HO4 := hidb hown4; have HB4 := hidb (HB.out.trans hb4); clear hown4 hb4)))
            go_roundw
            case rel =>
              obtain ⟨D4, k4, rfl⟩ := own_form2 HO4.out
              exact ⟨i + 1, D4, k4, by omega, rfl, by go_num, hidb (by rw [HCELL.out]; exact HO4.out), HB4⟩
            case measure => simp [intOf]; omega
        · obtain rfl : i = sz := by omega
          have hge : ¬ ((i : Int) < (i : Int)) := by omega
          obtain ⟨wo, rfl⟩ : ∃ wo : World, wo = wr := ⟨_, rfl⟩
          have HBA := hidb (belF_al HB.out (.cells #[] 59))
          have HOA := hidb (own_same HO.out fun q hq => (belF_al (Below.refl wo.heap.size wo) (.cells #[] 59)).block q (HO.out.lt q hq).2)
          --@6
          go_wp2_with (first
            | (at_builtin; go_loud (refine wpList_append_rowN _ rfl (.tmp 40) (.tmp 41) 23 rfl w.heap.size 59 i1 (.agg #[.int .i64 0, .slice none 0 0]) 2 32 Tryz.underlying23 ha ha0 ha1 ha2 rfl (by decide) (.slice (some ⟨wo.heap.size, 0, none⟩) 0 0) 0 [] rfl (own_empty' _ _ _ _ _ rfl HB.out.size) HBA.out.size A n c (cellsAll afcells zs) rfl HLZ.out HNIL.out (HNews1.out _ HBA.out) (af_one zs) (by unfold maxLen; omega) (by omega) ?_); go_loud (intro A5 k5 w5 hown5 hg5; rw [Nat.zero_add, List.nil_append] at hown5; rw [Nat.zero_add]; have HB5 := hidb (HBA.out.grown hg5 HBA.out.size (fun q hq => by cases hq; exact HB.out.size)); have HO5 := hidb hown5; have HD5 := hidb (own_grown HOA.out hg5 (fun q hq e => by cases hq; exact absurd (HO.out.lt _ e).2 (Nat.lt_irrefl _))); clear hown5 hg5; have HB6 := hidb (belF_al HB5.out (.cells #[.int .i64 f, .slice D i kd] 59)); have HO6 := hidb (own_same HO5.out fun q hq => (belF_al (Below.refl w5.heap.size w5) (.cells #[.int .i64 f, .slice D i kd] 59)).block q (HO5.out.lt q hq).2); have HD6 := hidb (own_same HD5.out fun q hq => (belF_al (Below.refl w5.heap.size w5) (.cells #[.int .i64 f, .slice D i kd] 59)).block q (HD5.out.lt q hq).2)))
            | (at_builtin; go_loud (refine wpList_append_rowN _ rfl (.tmp 42) (.tmp 46) 23 rfl w.heap.size 59 i1 (.agg #[.int .i64 0, .slice none 0 0]) 2 32 Tryz.underlying23 ha ha0 ha1 ha2 rfl (by decide) (.slice A5 n k5) n (cellsAll afcells zs) rfl HO6.out HB6.out.size (some ⟨w5.heap.size, 0, none⟩) 1 1 [.int .i64 f, .slice D i kd] rfl rfl (fun e => by cases e) (cells_new w5 [.int .i64 f, .slice D i kd] 59) (fun u hu => by simp at hu; rcases hu with rfl | rfl <;> rfl) (by unfold maxLen; omega) (by omega) ?_); go_loud (intro A7 k7 w7 hown7 hg7; have HB7 := hidb (HB6.out.grown hg7 HB6.out.size (fun q hq => (HO6.out.lt q hq).1)); have HD7 := hidb (own_grown HD6.out hg7 (fun q hq e => own_types19 HD6.out HO6.out (by decide) q e hq)); have HO7 := hidb hown7; clear hown7 hg7)))
          go_ret2
          rw [HP.out]
          have hrow : cellsAll afcells zs ++ [.int .i64 f, .slice D i kd] = cellsAll afcells (zs ++ [⟨f, D, i, kd, mdNew (vals ys) f i⟩]) := by rw [cellsAll_append, cellsAll_one]; rfl
          have ho := HO7.out
          rw [hrow] at ho
          obtain ⟨cp1, cp2⟩ := own_cap0 ho
          obtain ⟨cq1, cq2⟩ := own_cap0 HD7.out
          refine ⟨A7, _, k7, _, rfl, ⟨RowOf.of_own afcells_len ho (by rw [List.length_append, HLN.out]; rfl), fun z hz => ?_⟩, by unfold afvals; rw [List.map_append]; rfl, cp1, cp2, HB7.out⟩
          rcases List.mem_append.1 hz with hz | hz
          · exact ((HS.out.each z hz).below HB7.out).more HB7.out.size
          · obtain rfl := List.mem_singleton.1 hz
            exact ⟨RowOf.of_own vlcells_len HD7.out (mdNew_length _ _ _), hf, cq1, cq2, fun v hv => mdNew_in hv⟩
end
end Go.Proofs.YtdcnpaodcjfdbaaGreatDoor

/- What the document's own Calc of layer 19 (model) returns. -/
namespace Go.Proofs.YtdcnpaodcjfdbaaGreatDoor
open Go.RowKit
set_option linter.unusedVariables false

/-- A scalar is calculated; the error's number. -/
def mdCalc (l : Fns) (L : Afs) (op d : Int) (ks : List Int) : Afs × Int :=
  if mdRight l L = false then (L, 9) else if ks.length ≠ 3 ∨ op < 1 ∨ 10 < op then (L, 1) else if (ks.all fun k => mdHas L d k) = false then (L, 2) else if (ks.all fun k => decide (((afAt L d.toNat).getD k.toNat vl0).kind = 1)) = false then (L, 5)
  else (mdWith L d.toNat (ks.getD 0 0).toNat ⟨1, fCalc op.toNat ((afAt L d.toNat).getD (ks.getD 1 0).toNat vl0).bits ((afAt L d.toNat).getD (ks.getD 2 0).toNat vl0).bits, 0, 0⟩, 0)
theorem fCalc_lt19 (n a b : Nat) (ha : a < 18446744073709551616) (hb : b < 18446744073709551616) : fCalc n a b < 18446744073709551616 := by
  have hn : fNaN < 18446744073709551616 := by decide
  have one : ∀ r, r < 18446744073709551616 → fOne r < 18446744073709551616 := fun r h => by unfold fOne; split <;> assumption
  have can : ∀ o : Option Nat, (∀ r, o = some r → r < 18446744073709551616) → fCanon o < 18446744073709551616 := fun o ho => by
    cases o with
    | none => exact hn
    | some r => exact one r (ho r rfl)
  unfold fCalc
  repeat' split
  · exact can _ (fun r h => Ieee.double.add_lt h)
  · exact can _ (fun r h => Ieee.double.sub_lt h)
  · exact can _ (fun r h => Ieee.double.mul_lt h)
  · exact can _ (fun r h => Ieee.double.div_lt h)
  · exact truth_lt _
  · exact truth_lt _
  · unfold fMin; repeat' split
    all_goals assumption
  · unfold fMax; repeat' split
    all_goals assumption
  · exact one _ (flip_lt a)
  · exact can _ (fun r h => Ieee.double.sqrt_lt h)
theorem ref_calc19 (n a b : Nat) (w : World) (h1 : 1 ≤ n) (h2 : n ≤ 10) (ha : a < 18446744073709551616) (hb : b < 18446744073709551616) :
    Calls Tryz.prog 69 #[.int .u8 (n : Int), .int .u64 (a : Int), .int .u64 (b : Int)] w (CalcOf n a b w) := by
  have : n = 1 ∨ n = 2 ∨ n = 3 ∨ n = 4 ∨ n = 5 ∨ n = 6 ∨ n = 7 ∨ n = 8 ∨ n = 9 ∨ n = 10 := by omega
  rcases this with rfl | rfl | rfl | rfl | rfl | rfl | rfl | rfl | rfl | rfl
  · exact ref_calc1 a b w ha hb
  · exact ref_calc2 a b w ha hb
  · exact ref_calc3 a b w ha hb
  · exact ref_calc4 a b w ha hb
  · exact ref_calc5 a b w ha hb
  · exact ref_calc6 a b w ha hb
  · exact ref_calc7 a b w ha hb
  · exact ref_calc8 a b w ha hb
  · exact ref_calc9 a b w ha hb
  · exact ref_calc10 a b w ha hb
section
variable {w : World} {A : Option Addr} {n c : Nat} {zs : List AfS} {A2 : Option Addr} {n2 c2 lo' hi' : Nat} {ys : List FnV} {A3 : Option Addr} {n3 c3 : Nat} {ks : List Int}
set_option maxRecDepth 100000 in
set_option maxHeartbeats 4000000 in
theorem ref_mdcalc (hs : AfRow w w.heap.size A n zs) (hn : n ≤ 1000000) (hc : n ≤ c ∧ c ≤ 9223372036854775807) (hr : FnRow w lo' hi' A2 n2 ys) (hhi : hi' ≤ w.heap.size) (hn2 : n2 ≤ 1000) (hl : ∀ x ∈ vals ys, 0 ≤ x.1 ∧ x.1 ≤ 1000) (op : Nat) (hop : op < 256) (d : Int) (hd : in64 d) (hk : Sl w w.heap.size A3 n3 (ks.map fun k => Value.int .i64 k)) (hn3 : n3 ≤ 9223372036854775806) (hks : ∀ k ∈ ks, in64 k) :
    Calls Tryz.prog 36 #[.slice A2 n2 c2, .slice A n c, .int .u8 op, .int .i64 d, .slice A3 n3 c3] w (ResA w (mdCalc (vals ys) (afvals zs) op d ks)) := by
  have HLN := hidb hs.len
  have HS := hidb hs
  have HK := hidb hk
  have HL3 : Hid (ks.length = n3) := hidb (by have := hk.1; simpa using this)
  have cr := ref_mdright (c := c) (c2 := c2) hs hn hr hhi hn2 hl
  have HE : Hid (∀ no, mdCalc (vals ys) (afvals zs) op d ks = (afvals zs, no) → ∀ W, Below w.heap.size w W → ResA w (mdCalc (vals ys) (afvals zs) op d ks) (.returned (.tuple #[.slice A n c, .int .i64 no])) W) := hidb (fun no h W hb => by rw [h]; exact ResA.elder hs hc hb no)
  have CH : Hid (∀ W k, Below w.heap.size w W → in64 k → Calls Tryz.prog 52 #[.slice A n c, .int .i64 d, .int .i64 k] W fun e w' => e = .returned (.bool (mdHas (afvals zs) d k)) ∧ W = w') := hidb (fun W k hb hk => ref_mdhas (hs.below hb) (by omega) d k hd hk _ rfl)
  cases hR : mdRight (vals ys) (afvals zs) with
  | false =>
    rw [hR] at cr
    have PN := hidb (HE.out 9 (by unfold mdCalc; rw [hR, if_pos rfl]))
    clear hs hr hl hR HE CH hk hks
    --@1
    go_enter Tryz.func36, Tryz.ntmps36
    go_wp2_with (first | (go_at_call 8; (with_reducible refine cr.mono ?_); rintro e w1 ⟨rfl, hb1⟩))
    go_ret2
    exact PN.out _ hb1
  | true =>
    rw [hR] at cr
    by_cases hbad : n3 ≠ 3 ∨ op < 1 ∨ 10 < op
    · have PN := hidb (HE.out 1 (by unfold mdCalc; rw [hR, if_neg (by simp), HL3.out, if_pos (by omega)]))
      by_cases h3 : n3 = 3
      · have b3 : ((n3 : Int) != 3) = false := by simp; omega
        by_cases h1 : op < 1
        · clear hs hr hl hR HE CH hk hks hbad h3
          --@2
          go_enter Tryz.func36, Tryz.ntmps36
          go_wp2_with (first | (go_at_call 8; (with_reducible refine cr.mono ?_); rintro e w1 ⟨rfl, hb1⟩))
          go_ret2
          exact PN.out _ hb1
        · have h10 : 10 < op := by omega
          clear hs hr hl hR HE CH hk hks hbad h3
          --@3
          go_enter Tryz.func36, Tryz.ntmps36
          go_wp2_with (first | (go_at_call 8; (with_reducible refine cr.mono ?_); rintro e w1 ⟨rfl, hb1⟩))
          go_ret2
          exact PN.out _ hb1
      · have b3 : ((n3 : Int) != 3) = true := by simp; omega
        clear hs hr hl hR HE CH hk hks hbad h3
        --@4
        go_enter Tryz.func36, Tryz.ntmps36
        go_wp2_with (first | (go_at_call 8; (with_reducible refine cr.mono ?_); rintro e w1 ⟨rfl, hb1⟩))
        go_ret2
        exact PN.out _ hb1
    · obtain ⟨h3, h1, h10⟩ : n3 = 3 ∧ 1 ≤ op ∧ op ≤ 10 := by omega
      subst h3
      have o1 : ¬ (op : Int) < 1 := by omega
      have o2 : ¬ (10 : Int) < (op : Int) := by omega
      have HKS := hidb hks
      cases hall : ks.all fun k => mdHas (afvals zs) d k with
      | false =>
        have PN := hidb (HE.out 2 (by unfold mdCalc; rw [hR, if_neg (by simp), HL3.out, if_neg (by omega), hall, if_pos rfl]))
        have HA := hidb hall
        clear hs hr hl hR HE hk hks hbad hall
        --@5
        go_enter Tryz.func36, Tryz.ntmps36
        go_wp2_with (first | (go_at_call 8; (with_reducible refine cr.mono ?_); rintro e w1 ⟨rfl, hb1⟩; have HB1 := hidb hb1; clear hb1))
        clear cr
        go_loopw [36, 12] (fun v _ wr => ∃ j : Nat, j ≤ 3 ∧ v = .int .i64 j ∧ Hid (∀ (p : Nat) (k : Int), p < j → ks[p]? = some k → mdHas (afvals zs) d k = true) ∧ w1 = wr) (fun v _ _ => (3 - intOf v).toNat)
        case atStart => exact ⟨0, by omega, rfl, hidb (fun p k h => absurd h (Nat.not_lt_zero _)), rfl⟩
        case round =>
          obtain ⟨j, hj, rfl, HP, rfl⟩ := hrel
          by_cases hlt : j < 3
          · obtain ⟨b, off, u, rfl, hbl, hu, hcu⟩ := (HK.out.below HB1.out).at_ hlt
            obtain ⟨k, hkk, rfl⟩ : ∃ k, ks[j]? = some k ∧ u = .int .i64 k := by
              rw [List.getElem?_map] at hu
              cases h : ks[j]? with
              | none => rw [h] at hu; cases hu
              | some k => rw [h] at hu; exact ⟨k, rfl, (by simpa using hu.symm)⟩
            have ch := CH.out _ k HB1.out (HKS.out k (List.mem_of_getElem? hkk))
            have HKK := hidb hkk
            clear hu hkk
            cases hh : mdHas (afvals zs) d k with
            | false =>
              rw [hh] at ch
              clear hh
              --@6
              go_wp2_with (first | (go_at_call 52; (with_reducible refine ch.mono ?_); rintro e w2 ⟨rfl, rfl⟩))
              go_ret2
              exact PN.out _ HB1.out
            | true =>
              rw [hh] at ch
              have HP2 : Hid (∀ (p : Nat) (k : Int), p < j + 1 → ks[p]? = some k → mdHas (afvals zs) d k = true) := hidb (fun p k' hp hk' => by
                by_cases e : p = j
                · subst e; rw [HKK.out] at hk'; obtain rfl := Option.some.inj hk'; exact hh
                · exact HP.out p k' (by omega) hk')
              clear hh
              --@7
              go_wp2_with (first | (go_at_call 52; (with_reducible refine ch.mono ?_); rintro e w2 ⟨rfl, rfl⟩))
              go_roundw
              case rel => exact ⟨j + 1, by omega, by go_num, HP2, by first | rfl | trivial⟩
              case measure => simp [intOf]; omega
          · exfalso
            have hall := HA.out
            rw [List.all_eq_false] at hall
            obtain ⟨k, hk, hkn⟩ := hall
            obtain ⟨p, hp, rfl⟩ := List.getElem_of_mem hk
            exact hkn (HP.out p _ (by have := HL3.out; omega) (List.getElem?_eq_getElem hp))
      | true =>
        obtain ⟨z, hz, d0, d1, _⟩ := mdHas_true (List.all_eq_true.1 hall (ks.getD 0 0) (by
          have := HL3.out
          rw [List.getD_eq_getElem?_getD, List.getElem?_eq_getElem (by omega)]; exact List.getElem_mem _))
        rw [hs.len] at d1
        obtain ⟨dn, rfl⟩ : ∃ dn : Nat, d = (dn : Int) := ⟨d.toNat, by omega⟩
        rw [Int.toNat_natCast] at hz
        have hdn : dn < n := by omega
        obtain ⟨b, off, z', rfl, hbl, hz', _, hc1, hok⟩ := hs.at_ hdn
        obtain rfl : z = z' := Option.some.inj (hz.symm.trans hz')
        have hz9 := mdRight_slots hl hR hz
        rw [hok.len] at hz9
        have hsm := hok.small
        have hzl := hok.len
        have h0k : ∀ k ∈ ks, mdHas (afvals zs) dn k = true ∧ 0 ≤ k ∧ k < (z.n : Int) := fun k hkk => by
          have hh := List.all_eq_true.1 hall k hkk
          obtain ⟨z2, hz2, _, _, i0, i1⟩ := mdHas_true hh
          rw [Int.toNat_natCast] at hz2
          obtain rfl : z = z2 := Option.some.inj (hz.symm.trans hz2)
          exact ⟨hh, i0, by omega⟩
        have hzp : 0 < z.n := by
          have := h0k (ks.getD 0 0) (by
            have := HL3.out
            rw [List.getD_eq_getElem?_getD, List.getElem?_eq_getElem (by omega)]; exact List.getElem_mem _)
          omega
        obtain ⟨b2, off2, _, hzA, hbl2, _⟩ := hok.at_ hzp
        have HIN : Hid (∀ k ∈ ks, mdHas (afvals zs) dn k = true ∧ 0 ≤ k ∧ k < (z.n : Int) ∧ ∃ v, z.vs[k.toNat]? = some v ∧ VIn v ∧ w.cell? ⟨b2, off2 + k.toNat * 4, none⟩ = some (.int .u8 v.kind) ∧ w.cell? ⟨b2, off2 + k.toNat * 4 + 1, none⟩ = some (.int .u64 v.bits)) := hidb (fun k hkk => by
          obtain ⟨g1, g2, g3⟩ := h0k k hkk
          obtain ⟨b4, off4, v, hzA4, _, hv, nv, e0, e1, _⟩ := hok.at_ (j := k.toNat) (by omega)
          rw [hzA] at hzA4
          obtain ⟨rfl, rfl⟩ : b2 = b4 ∧ off2 = off4 := by injection hzA4 with h; injection h with h1 h2; exact ⟨h1, h2⟩
          exact ⟨g1, g2, g3, v, hv, nv, e0, e1⟩)
        rw [hzA] at hc1
        have HC : Hid (∀ W, Below w.heap.size w W → W.cell? ⟨b, off + dn * 2 + 1, none⟩ = some (.slice (some ⟨b2, off2, none⟩) z.n z.c)) := hidb (fun W hb => (hb.cell (p := ⟨b, off + dn * 2 + 1, none⟩) hbl).trans hc1)
        obtain ⟨b3, off3, _, rfl, hbl3, _⟩ := hk.at_ (k := 0) (by omega)
        have HKC : Hid (∀ W (j : Nat), Below w.heap.size w W → j < 3 → ∃ k, ks[j]? = some k ∧ W.cell? ⟨b3, off3 + j, none⟩ = some (.int .i64 k)) := hidb (fun W j hb hj => by
          obtain ⟨b4, off4, u, e4, _, hu, hcu⟩ := (hk.below hb).at_ hj
          obtain ⟨rfl, rfl⟩ : b3 = b4 ∧ off3 = off4 := by injection e4 with h; injection h with h1 h2; exact ⟨h1, h2⟩
          rw [List.getElem?_map] at hu
          cases h : ks[j]? with
          | none => rw [h] at hu; cases hu
          | some k => rw [h] at hu; exact ⟨k, rfl, by rw [hcu]; simpa using hu.symm⟩)
        have hj0 : (0 : Int) ≤ (dn : Int) := by omega
        have hj1 : (dn : Int) < (n : Int) := by omega
        have HZ := hidb hz
        have hat : afAt (afvals zs) dn = z.vs := afAt_at hz
        cases hkind : ks.all fun k => decide ((z.vs.getD k.toNat vl0).kind = 1) with
        | false =>
          have PN := hidb (HE.out 5 (by unfold mdCalc; rw [hR, if_neg (by simp), HL3.out, if_neg (by omega), hall, if_neg (by simp), Int.toNat_natCast, hat, hkind, if_pos rfl]))
          have HALL := hidb hkind
          clear hs hr hl hR HE hk hks hbad hall hz hz' hc1 hok hzl h0k hzA hat hkind HS
          go_enter Tryz.func36, Tryz.ntmps36
          go_wp2_with (first | (go_at_call 8; (with_reducible refine cr.mono ?_); rintro e w1 ⟨rfl, hb1⟩; have HB1 := hidb hb1; clear hb1))
          clear cr
          go_loopw [36, 12] (fun v _ wr => ∃ j : Nat, j ≤ 3 ∧ v = .int .i64 j ∧ w1 = wr) (fun v _ _ => (3 - intOf v).toNat)
          case atStart => exact ⟨0, by omega, rfl, rfl⟩
          case round =>
            obtain ⟨j, hj, rfl, rfl⟩ := hrel
            by_cases hlt : j < 3
            · obtain ⟨k, hkk, hcu⟩ := HKC.out _ j HB1.out hlt
              have ch := CH.out _ k HB1.out (HKS.out k (List.mem_of_getElem? hkk))
              rw [(HIN.out k (List.mem_of_getElem? hkk)).1] at ch
              clear hkk
              --@11
              go_wp2_with (first | (go_at_call 52; (with_reducible refine ch.mono ?_); rintro e w2 ⟨rfl, rfl⟩))
              go_roundw
              case rel => exact ⟨j + 1, by omega, by go_num, by first | rfl | trivial⟩
              case measure => simp [intOf]; omega
            · clear CH
              --@12
              go_wp2
              go_loopw [51, 13] (fun v _ wr => ∃ j : Nat, j ≤ 3 ∧ v = .int .i64 j ∧ Hid (∀ (p : Nat) (k : Int), p < j → ks[p]? = some k → decide ((z.vs.getD k.toNat vl0).kind = 1) = true) ∧ Hid (Below w.heap.size w wr)) (fun v _ _ => (3 - intOf v).toNat)
              case atStart => exact ⟨0, by omega, rfl, hidb (fun p k h => absurd h (Nat.not_lt_zero _)), HB1⟩
              case round =>
                obtain ⟨j2, hj2, rfl, HP, HBR⟩ := hrel
                have t0 := HC.out _ HBR.out
                by_cases hlt2 : j2 < 3
                · obtain ⟨k, hkk, hcu⟩ := HKC.out _ j2 HBR.out hlt2
                  obtain ⟨_, k0, k1, v, hv, _, e0, _⟩ := HIN.out k (List.mem_of_getElem? hkk)
                  have e0' := ((HBR.out).cell (p := ⟨b2, off2 + k.toNat * 4, none⟩) hbl2).trans e0
                  have hgd : z.vs.getD k.toNat vl0 = v := by rw [List.getD_eq_getElem?_getD, hv]; rfl
                  obtain ⟨m, hm⟩ : ∃ m, v.kind = m := ⟨_, rfl⟩
                  rw [hm] at e0'
                  have HKK := hidb hkk
                  have HGD : Hid ((z.vs.getD k.toNat vl0).kind = m) := hidb (by rw [hgd, hm])
                  clear hkk hv hgd hm e0
                  by_cases h1 : m = 1
                  · have e1 : ((m : Int) != 1) = false := by simp; omega
                    have HP2 : Hid (∀ (p : Nat) (k : Int), p < j2 + 1 → ks[p]? = some k → decide ((z.vs.getD k.toNat vl0).kind = 1) = true) := hidb (fun p k' hp hk' => by
                      by_cases e : p = j2
                      · subst e; rw [HKK.out] at hk'; obtain rfl := Option.some.inj hk'; exact decide_eq_true (HGD.out.trans h1)
                      · exact HP.out p k' (by omega) hk')
                    clear h1
                    --@13
                    go_wp2
                    go_quiet (fail)
                    go_wp2
                    go_roundw
                    case rel => exact ⟨j2 + 1, by omega, by go_num, HP2, hidb (belowN HBR.out _)⟩
                    case measure => simp [intOf]; omega
                  · have e1 : ((m : Int) != 1) = true := by simp; omega
                    clear h1
                    --@14
                    go_wp2
                    go_quiet (fail)
                    go_wp2
                    go_ret2
                    exact PN.out _ (belowN HBR.out _)
                · exfalso
                  have hall := HALL.out
                  rw [List.all_eq_false] at hall
                  obtain ⟨k, hk, hkn⟩ := hall
                  obtain ⟨p, hp, rfl⟩ := List.getElem_of_mem hk
                  exact hkn (HP.out p _ (by have := HL3.out; omega) (List.getElem?_eq_getElem hp))
        | true =>
          have HGO : Hid (mdCalc (vals ys) (afvals zs) op dn ks = (mdWith (afvals zs) dn (ks.getD 0 0).toNat ⟨1, fCalc op (z.vs.getD (ks.getD 1 0).toNat vl0).bits (z.vs.getD (ks.getD 2 0).toNat vl0).bits, 0, 0⟩, 0)) := hidb (by unfold mdCalc; rw [hR, if_neg (by simp), HL3.out, if_neg (by omega), hall, if_neg (by simp), Int.toNat_natCast, hat, hkind, if_neg (by simp), Int.toNat_natCast])
          have HALL := hidb hkind
          clear hs hr hl hR HE hk hks hbad hall hz hz' hc1 hok hzl h0k hzA hat hkind
          go_enter Tryz.func36, Tryz.ntmps36
          go_wp2_with (first | (go_at_call 8; (with_reducible refine cr.mono ?_); rintro e w1 ⟨rfl, hb1⟩; have HB1 := hidb hb1; clear hb1))
          clear cr
          go_loopw [36, 12] (fun v _ wr => ∃ j : Nat, j ≤ 3 ∧ v = .int .i64 j ∧ w1 = wr) (fun v _ _ => (3 - intOf v).toNat)
          case atStart => exact ⟨0, by omega, rfl, rfl⟩
          case round =>
            obtain ⟨j, hj, rfl, rfl⟩ := hrel
            by_cases hlt : j < 3
            · obtain ⟨k, hkk, hcu⟩ := HKC.out _ j HB1.out hlt
              have ch := CH.out _ k HB1.out (HKS.out k (List.mem_of_getElem? hkk))
              rw [(HIN.out k (List.mem_of_getElem? hkk)).1] at ch
              clear hkk
              --@21
              go_wp2_with (first | (go_at_call 52; (with_reducible refine ch.mono ?_); rintro e w2 ⟨rfl, rfl⟩))
              go_roundw
              case rel => exact ⟨j + 1, by omega, by go_num, by first | rfl | trivial⟩
              case measure => simp [intOf]; omega
            · clear CH
              --@22
              go_wp2
              go_loopw [51, 13] (fun v _ wr => ∃ j : Nat, j ≤ 3 ∧ v = .int .i64 j ∧ Hid (∀ (p : Nat) (k : Int), p < j → ks[p]? = some k → decide ((z.vs.getD k.toNat vl0).kind = 1) = true) ∧ Hid (Below w.heap.size w wr)) (fun v _ _ => (3 - intOf v).toNat)
              case atStart => exact ⟨0, by omega, rfl, hidb (fun p k h => absurd h (Nat.not_lt_zero _)), HB1⟩
              case round =>
                obtain ⟨j2, hj2, rfl, HP, HBR⟩ := hrel
                have t0 := HC.out _ HBR.out
                by_cases hlt2 : j2 < 3
                · obtain ⟨k, hkk, hcu⟩ := HKC.out _ j2 HBR.out hlt2
                  obtain ⟨_, k0, k1, v, hv, _, e0, _⟩ := HIN.out k (List.mem_of_getElem? hkk)
                  have e0' := ((HBR.out).cell (p := ⟨b2, off2 + k.toNat * 4, none⟩) hbl2).trans e0
                  have hgd : z.vs.getD k.toNat vl0 = v := by rw [List.getD_eq_getElem?_getD, hv]; rfl
                  obtain ⟨m, hm⟩ : ∃ m, v.kind = m := ⟨_, rfl⟩
                  rw [hm] at e0'
                  have HKK := hidb hkk
                  have HGD : Hid ((z.vs.getD k.toNat vl0).kind = m) := hidb (by rw [hgd, hm])
                  clear hkk hv hgd hm e0
                  by_cases h1 : m = 1
                  · have e1 : ((m : Int) != 1) = false := by simp; omega
                    have HP2 : Hid (∀ (p : Nat) (k : Int), p < j2 + 1 → ks[p]? = some k → decide ((z.vs.getD k.toNat vl0).kind = 1) = true) := hidb (fun p k' hp hk' => by
                      by_cases e : p = j2
                      · subst e; rw [HKK.out] at hk'; obtain rfl := Option.some.inj hk'; exact decide_eq_true (HGD.out.trans h1)
                      · exact HP.out p k' (by omega) hk')
                    clear h1
                    --@23
                    go_wp2
                    go_quiet (fail)
                    go_wp2
                    go_roundw
                    case rel => exact ⟨j2 + 1, by omega, by go_num, HP2, hidb (belowN HBR.out _)⟩
                    case measure => simp [intOf]; omega
                  · exfalso
                    have := List.all_eq_true.1 HALL.out k (List.mem_of_getElem? HKK.out)
                    rw [decide_eq_true_iff, HGD.out] at this
                    exact h1 this
                · obtain ⟨y0, hy0, u0⟩ := HKC.out _ 0 HBR.out (by omega)
                  obtain ⟨y1, hy1, u1⟩ := HKC.out _ 1 HBR.out (by omega)
                  obtain ⟨y2, hy2, u2⟩ := HKC.out _ 2 HBR.out (by omega)
                  obtain ⟨_, a0, a1, va, hva, na, _, ea⟩ := HIN.out y1 (List.mem_of_getElem? hy1)
                  obtain ⟨_, b0, b1, vb, hvb, nb, _, eb⟩ := HIN.out y2 (List.mem_of_getElem? hy2)
                  obtain ⟨_, c0, c1, _⟩ := HIN.out y0 (List.mem_of_getElem? hy0)
                  have ea' := ((HBR.out).cell (p := ⟨b2, off2 + y1.toNat * 4 + 1, none⟩) hbl2).trans ea
                  have eb' := ((HBR.out).cell (p := ⟨b2, off2 + y2.toNat * 4 + 1, none⟩) hbl2).trans eb
                  have cp : ∀ q, Calls Tryz.prog 69 #[.int .u8 op, .int .u64 va.bits, .int .u64 vb.bits] (wr.drewN q) fun e w'' => e = .returned (.tuple #[.int .u64 ((fCalc op va.bits vb.bits : Nat) : Int), .int .i64 0]) ∧ ∃ m, w'' = wr.drewN m := fun q => (ref_calc19 op va.bits vb.bits (wr.drewN q) h1 h10 na.bits nb.bits).mono fun e w'' ⟨g1, q2, g2⟩ => ⟨g1, q + q2, by rw [g2]; exact World.drewN_drewN _ _ _⟩
                  obtain ⟨x, hx⟩ : ∃ x, fCalc op va.bits vb.bits = x := ⟨_, rfl⟩
                  have hxl : x < 18446744073709551616 := by rw [← hx]; exact fCalc_lt19 op _ _ na.bits nb.bits
                  have HPP : Hid (mdCalc (vals ys) (afvals zs) op dn ks = (mdWith (afvals zs) dn y0.toNat ⟨1, x, 0, 0⟩, 0)) := hidb (by
                    have g0 : ks.getD 0 0 = y0 := by rw [List.getD_eq_getElem?_getD, hy0]; rfl
                    have g1 : ks.getD 1 0 = y1 := by rw [List.getD_eq_getElem?_getD, hy1]; rfl
                    have g2 : ks.getD 2 0 = y2 := by rw [List.getD_eq_getElem?_getD, hy2]; rfl
                    have g3 : z.vs.getD y1.toNat vl0 = va := by rw [List.getD_eq_getElem?_getD, hva]; rfl
                    have g4 : z.vs.getD y2.toNat vl0 = vb := by rw [List.getD_eq_getElem?_getD, hvb]; rfl
                    rw [HGO.out, g0, g1, g2, g3, g4, hx])
                  rw [hx] at cp
                  have HY0 := hidb hy0
                  obtain ⟨yn, rfl⟩ : ∃ yn : Nat, y0 = (yn : Int) := ⟨y0.toNat, by omega⟩
                  have CWX : Hid (∀ W, Below w.heap.size w W → Calls Tryz.prog 67 #[.slice (some ⟨b, off, none⟩) n c, .int .i64 dn, .int .i64 yn, .agg #[.int .u8 1, .int .u64 (x : Int), .int .i64 0, .int .i64 0]] W (ResAw W (mdWith (afvals zs) dn yn ⟨1, x, 0, 0⟩))) := hidb (fun W hb => ref_mdwith (HS.out.step hb) hn dn yn HZ.out (by omega) (by omega) ⟨1, x, 0, 0⟩ ⟨by show (1 : Nat) < 256; omega, hxl, by show in64 0; unfold in64; omega, by show in64 0; unfold in64; omega⟩)
                  obtain ⟨ba, hba⟩ : ∃ ba, va.bits = ba := ⟨_, rfl⟩
                  obtain ⟨bb, hbb⟩ : ∃ bb, vb.bits = bb := ⟨_, rfl⟩
                  rw [hba] at cp ea'
                  rw [hbb] at cp eb'
                  clear hy0 hy1 hy2 hva hvb ea eb hx hba hbb na nb hxl
                  --@24
                  go_wp2
                  go_quiet (first | (go_at_call 69; (with_reducible exact cp _)))
                  obtain ⟨wz, hwz⟩ : ∃ wz, wz = wr.drewN nq := ⟨_, rfl⟩
                  have HBZ : Hid (Below w.heap.size w wz) := hidb (by rw [hwz]; exact belowN HBR.out _)
                  rw [← hwz]
                  clear hwz t0 u1 u2 ea' eb' cp u0
                  obtain ⟨y9, hy9, u0⟩ := HKC.out _ 0 HBZ.out (by omega)
                  obtain rfl : y9 = (yn : Int) := Option.some.inj (hy9.symm.trans HY0.out)
                  clear hy9
                  rw [Nat.add_zero] at u0
                  go_wp2_with (first | (go_at_call 67; (with_reducible refine (CWX.out _ HBZ.out).mono ?_); rintro e w4 ⟨A4, c4, zs4, rfl, r1, r2, r3, r4, hb4⟩; have R1 := hidb r1; have R2 := hidb r2; have R3 := hidb r3; have HB4 := hidb (belF_tr HBZ.out hb4); clear r1 r2 r3 hb4))
                  go_ret2
                  rw [HPP.out, Int.toNat_natCast]
                  exact ⟨A4, _, c4, zs4, rfl, R1.out, R2.out, R3.out, r4, HB4.out⟩
end
end Go.Proofs.YtdcnpaodcjfdbaaGreatDoor

/- Frames without addresses (layer 19): what is answered without an error is right; a frame that is called, and returns; plain facts. -/
namespace Go.Proofs.YtdcnpaodcjfdbaaGreatDoor
open Go.RowKit
set_option linter.unusedVariables false

theorem mdHas_iff {L : Afs} {d i : Int} : mdHas L d i = true ↔ (0 ≤ d ∧ d < (L.length : Int) ∧ 0 ≤ i ∧ i < ((afAt L d.toNat).length : Int)) := by unfold mdHas; exact decide_eq_true_iff
theorem mdWith_length (L : Afs) (d i : Nat) (v : VlV) : (mdWith L d i v).length = L.length := by unfold mdWith; simp
theorem mdWith_getD (L : Afs) (d i : Nat) (v : VlV) (k : Nat) : (mdWith L d i v).getD k (0, []) = if d = k ∧ k < L.length then ((L.getD d (0, [])).1, (afAt L d).set i v) else L.getD k (0, []) := by
  unfold mdWith
  rw [List.getD_eq_getElem?_getD, List.getElem?_set]
  by_cases h : d = k
  · subst h
    by_cases h2 : d < L.length
    · rw [if_pos rfl, if_pos h2, if_pos ⟨rfl, h2⟩]; rfl
    · rw [if_pos rfl, if_neg h2, if_neg (fun c => h2 c.2), List.getD_eq_getElem?_getD, List.getElem?_eq_none (by omega)]
  · rw [if_neg h, if_neg (fun c => h c.1), List.getD_eq_getElem?_getD]
theorem mdWith_fn (L : Afs) (d i : Nat) (v : VlV) (k : Nat) : ((mdWith L d i v).getD k (0, [])).1 = (L.getD k (0, [])).1 := by
  rw [mdWith_getD]
  split
  · rename_i h; rw [h.1]
  · rfl
theorem mdWith_at (L : Afs) (d i : Nat) (v : VlV) (k : Nat) : afAt (mdWith L d i v) k = if d = k ∧ k < L.length then (afAt L d).set i v else afAt L k := by
  unfold afAt
  rw [mdWith_getD]
  split <;> rfl
theorem mdWith_slots (L : Afs) (d i : Nat) (v : VlV) (k : Nat) : (afAt (mdWith L d i v) k).length = (afAt L k).length := by
  rw [mdWith_at]
  split
  · rename_i h; rw [List.length_set, h.1]
  · rfl
theorem mdWith_has (L : Afs) (d i : Nat) (v : VlV) (a b : Int) : mdHas (mdWith L d i v) a b = mdHas L a b := by
  unfold mdHas; rw [mdWith_length, mdWith_slots]
theorem mdWith_fits (l : Fns) (L : Afs) (d i : Nat) (v : VlV) (k : Nat) (j : Int) (u : VlV) : mdFits l (mdWith L d i v) k j u = mdFits l L k j u := by
  unfold mdFits; rw [mdWith_fn, mdWith_has]
theorem mem_getD {L : Afs} {x : Int × List VlV} (h : x ∈ L) : ∃ d, d < L.length ∧ L.getD d (0, []) = x := by
  obtain ⟨d, hd⟩ := List.getElem?_of_mem h
  exact ⟨d, (List.getElem?_eq_some_iff.1 hd).1, by rw [List.getD_eq_getElem?_getD, hd]; rfl⟩
theorem getD_mem {L : Afs} {d : Nat} (h : d < L.length) : L.getD d (0, []) ∈ L := by
  rw [List.getD_eq_getElem?_getD, List.getElem?_eq_getElem h]; exact List.getElem_mem h
theorem mdSized_at {l : Fns} {L : Afs} : mdSized l L = true ↔ ∀ d, d < L.length → fSize l (L.getD d (0, [])).1 = ((afAt L d).length : Int) := by
  rw [mdSized_iff]
  constructor
  · intro h d hd; exact h _ (getD_mem hd)
  · intro h x hx
    obtain ⟨d, hd, rfl⟩ := mem_getD hx
    exact h d hd
/-- A row that is right, with a value that may be there, is right. -/
theorem mdWith_right {l : Fns} {L : Afs} {d i : Int} {v : VlV} (hR : mdRight l L = true) (hh : mdHas L d i = true) (hf : mdFits l L d.toNat i v = 0) : mdRight l (mdWith L d.toNat i.toNat v) = true := by
  obtain ⟨r1, r2⟩ := mdRight_iff.1 hR
  obtain ⟨h0, h1, h2, h3⟩ := mdHas_iff.1 hh
  refine mdRight_iff.2 ⟨mdSized_at.2 fun k hk => ?_, fun k hk => mdFit_iff.2 fun j hj => ?_⟩
  · rw [mdWith_fn, mdWith_slots]
    rw [mdWith_length] at hk
    exact mdSized_at.1 r1 k hk
  · rw [mdWith_length] at hk
    rw [mdWith_slots] at hj
    rw [mdWith_fits, mdWith_at]
    have ho := mdFit_iff.1 (r2 k hk) j hj
    by_cases c : d.toNat = k ∧ k < L.length
    · rw [if_pos c]
      obtain ⟨c1, c2⟩ := c
      subst c1
      rw [List.getD_eq_getElem?_getD, List.getElem?_set]
      by_cases c3 : i.toNat = j
      · rw [if_pos c3, if_pos (by omega)]
        show mdFits l L d.toNat j v = 0
        rw [← c3, show ((i.toNat : Nat) : Int) = i by omega]
        exact hf
      · rw [if_neg c3, ← List.getD_eq_getElem?_getD]; exact ho
    · rw [if_neg c]; exact ho
theorem mdSet_right {l : Fns} {L : Afs} (hR : mdRight l L = true) (d i : Int) (v : VlV) : (mdSet l L d i v).2 ≠ 9 ∧ mdRight l (mdSet l L d i v).1 = true ∧ ((mdSet l L d i v).2 ≠ 0 → (mdSet l L d i v).1 = L) := by
  unfold mdSet
  rw [if_neg (by rw [hR]; simp)]
  cases hh : mdHas L d i with
  | false => rw [if_pos rfl]; exact ⟨by simp, hR, fun _ => rfl⟩
  | true =>
    rw [if_neg (by simp)]
    by_cases hf : mdFits l L d.toNat i v = 0
    · rw [if_neg (fun c => c hf)]
      exact ⟨by simp, mdWith_right hR hh hf, fun c => absurd rfl c⟩
    · rw [if_pos hf]
      refine ⟨?_, hR, fun _ => rfl⟩
      show mdFits l L d.toNat i v ≠ 9
      unfold mdFits
      split; · simp
      split; · simp
      split; · simp
      split; · simp
      · simp
theorem mdGet_no9 {l : Fns} {L : Afs} (hR : mdRight l L = true) (d i : Int) : (mdGet l L d i).2 = 0 ∨ (mdGet l L d i).2 = 2 := by
  unfold mdGet
  rw [if_neg (by rw [hR]; simp)]
  split
  · exact Or.inr rfl
  · exact Or.inl rfl
theorem mdRefers_no9 {l : Fns} {L : Afs} (hR : mdRight l L = true) (d i : Int) : (mdRefers l L d i).2 ≠ 9 := by
  have := mdGet_no9 hR d i
  unfold mdRefers
  split
  · omega
  · split
    · simp
    · split
      · simp
      · simp
theorem mdLoad_no9 {l : Fns} {L : Afs} (hR : mdRight l L = true) (d i : Int) : (mdLoad l L d i).2 ≠ 9 := by
  have := mdRefers_no9 hR d i
  unfold mdLoad
  split
  · exact this
  · simp
theorem vMay_scalar (b : Nat) : vMay ⟨1, b, 0, 0⟩ = true := by unfold vMay; simp
/-- A scalar's slot has another scalar. -/
theorem mdFits_scalar {l : Fns} {L : Afs} {d : Nat} {i : Int} {v : VlV} (h : mdFits l L d i v = 0) (hk : v.kind = 1) (b : Nat) : mdFits l L d i ⟨1, b, 0, 0⟩ = 0 := by
  unfold mdFits at h
  split at h
  · exact absurd h (by decide)
  · split at h
    · exact absurd h (by decide)
    · rename_i h2
      unfold mdFits
      rw [vMay_scalar, if_neg (by simp)]
      rw [if_neg (by
        rw [decide_eq_true hk] at h2
        simpa using h2), if_neg (by simp), if_neg (by simp)]
theorem mdAt_fits {l : Fns} {L : Afs} {d i : Int} (hR : mdRight l L = true) (hh : mdHas L d i = true) : mdFits l L d.toNat i ((afAt L d.toNat).getD i.toNat vl0) = 0 := by
  obtain ⟨r1, r2⟩ := mdRight_iff.1 hR
  obtain ⟨h0, h1, h2, h3⟩ := mdHas_iff.1 hh
  have := mdFit_iff.1 (r2 d.toNat (by omega)) i.toNat (by omega)
  rw [show ((i.toNat : Nat) : Int) = i by omega] at this
  exact this
theorem mdWrite_right {l : Fns} {L : Afs} (hR : mdRight l L = true) (d i : Int) (b : Nat) : (mdWrite l L d i b).2 ≠ 9 ∧ mdRight l (mdWrite l L d i b).1 = true ∧ ((mdWrite l L d i b).2 ≠ 0 → (mdWrite l L d i b).1 = L) := by
  have h9 := mdRefers_no9 hR d i
  unfold mdWrite
  by_cases h0 : (mdRefers l L d i).2 = 0
  · rw [if_neg (fun c => c h0)]
    obtain ⟨v, hv⟩ : ∃ v, mdRefers l L d i = (v, 0) := ⟨_, Prod.ext rfl h0⟩
    rw [hv]
    obtain ⟨g1, g2, g3⟩ := mdRefers_ok hv
    simp only
    by_cases hk : ((afAt L v.depth.toNat).getD v.slot.toNat vl0).kind = 1
    · rw [if_neg (fun c => c hk)]
      exact ⟨by simp, mdWith_right hR g3 (mdFits_scalar (mdAt_fits hR g3) hk b), fun c => absurd rfl c⟩
    · rw [if_pos hk]
      exact ⟨by simp, hR, fun _ => rfl⟩
  · rw [if_pos h0]
    exact ⟨h9, hR, fun _ => rfl⟩
theorem mdCalc_right {l : Fns} {L : Afs} (hR : mdRight l L = true) (op d : Int) (ks : List Int) : (mdCalc l L op d ks).2 ≠ 9 ∧ mdRight l (mdCalc l L op d ks).1 = true ∧ ((mdCalc l L op d ks).2 ≠ 0 → (mdCalc l L op d ks).1 = L) := by
  unfold mdCalc
  rw [if_neg (by rw [hR]; simp)]
  split
  · exact ⟨by simp, hR, fun _ => rfl⟩
  · rename_i h1
    cases h2 : ks.all fun k => mdHas L d k with
    | false => rw [if_pos rfl]; exact ⟨by simp, hR, fun _ => rfl⟩
    | true =>
      rw [if_neg (by simp)]
      cases h3 : ks.all fun k => decide (((afAt L d.toNat).getD k.toNat vl0).kind = 1) with
      | false => rw [if_pos rfl]; exact ⟨by simp, hR, fun _ => rfl⟩
      | true =>
        rw [if_neg (by simp)]
        have hl : 0 < ks.length := by omega
        have hm : ks.getD 0 0 ∈ ks := by rw [List.getD_eq_getElem?_getD, List.getElem?_eq_getElem hl]; exact List.getElem_mem hl
        have hh := List.all_eq_true.1 h2 _ hm
        have hk := of_decide_eq_true (List.all_eq_true.1 h3 _ hm)
        exact ⟨by simp, mdWith_right hR hh (mdFits_scalar (mdAt_fits hR hh) hk _), fun c => absurd rfl c⟩
theorem append_getD (L : Afs) (x : Int × List VlV) (k : Nat) : (L ++ [x]).getD k (0, []) = if k < L.length then L.getD k (0, []) else if k = L.length then x else (0, []) := by
  rw [List.getD_eq_getElem?_getD]
  by_cases h : k < L.length
  · rw [if_pos h, List.getElem?_append_left h, List.getD_eq_getElem?_getD]
  · rw [if_neg h, List.getElem?_append_right (by omega)]
    by_cases h2 : k = L.length
    · subst h2; rw [if_pos rfl, Nat.sub_self]; rfl
    · rw [if_neg h2, List.getElem?_eq_none (by simp; omega)]; rfl
theorem append_has {L : Afs} (x : Int × List VlV) {a b : Int} (h : mdHas L a b = true) : mdHas (L ++ [x]) a b = true := by
  obtain ⟨h0, h1, h2, h3⟩ := mdHas_iff.1 h
  refine mdHas_iff.2 ⟨h0, by rw [List.length_append]; simp; omega, h2, ?_⟩
  unfold afAt at *
  rw [append_getD, if_pos (by omega)]
  exact h3
theorem append_fits {l : Fns} {L : Afs} (x : Int × List VlV) {k : Nat} (hk : k < L.length) {j : Int} {u : VlV} (h : mdFits l L k j u = 0) : mdFits l (L ++ [x]) k j u = 0 := by
  unfold mdFits at h ⊢
  rw [append_getD, if_pos hk]
  split at h
  · exact absurd h (by decide)
  · rename_i h1
    rw [if_neg h1]
    split at h
    · exact absurd h (by decide)
    · rename_i h2
      rw [if_neg h2]
      split at h
      · exact absurd h (by decide)
      · rename_i h3
        split at h
        · exact absurd h (by decide)
        · rename_i h4
          rw [if_neg (fun c => by
            cases hh : mdHas L u.depth u.slot with
            | false => exact h3 ⟨c.1, hh⟩
            | true => rw [append_has x hh] at c; cases c.2), if_neg h4]
theorem mdNew_at (l : Fns) (f : Int) (n j : Nat) (h : j < n) : (mdNew l f n).getD j vl0 = if fPtr l f j = true then vl0 else ⟨1, 0, 0, 0⟩ := by
  unfold mdNew
  rw [List.getD_eq_getElem?_getD, List.getElem?_map, List.getElem?_range h]; rfl
theorem mdCall_right {l : Fns} {L : Afs} (hR : mdRight l L = true) (f : Int) : (mdCall l L f).2 ≠ 9 ∧ mdRight l (mdCall l L f).1 = true ∧ ((mdCall l L f).2 ≠ 0 → (mdCall l L f).1 = L) := by
  unfold mdCall
  rw [if_neg (by rw [hR]; simp)]
  split
  · exact ⟨by simp, hR, fun _ => rfl⟩
  · rename_i hf
    refine ⟨by simp, ?_, fun c => absurd rfl c⟩
    obtain ⟨r1, r2⟩ := mdRight_iff.1 hR
    obtain ⟨n, hn⟩ : ∃ n : Nat, fSize l f = (n : Int) := ⟨(fSize l f).toNat, by omega⟩
    simp only [hn, Int.toNat_natCast]
    refine mdRight_iff.2 ⟨mdSized_at.2 fun k hk => ?_, fun k hk => mdFit_iff.2 fun j hj => ?_⟩
    · unfold afAt
      rw [append_getD]
      by_cases c : k < L.length
      · rw [if_pos c]; exact mdSized_at.1 r1 k c
      · rw [List.length_append] at hk
        simp only [List.length_singleton] at hk
        rw [if_neg c, if_pos (by omega), mdNew_length]
        exact hn
    · by_cases c : k < L.length
      · have e : afAt (L ++ [(f, mdNew l f n)]) k = afAt L k := by unfold afAt; rw [append_getD, if_pos c]
        rw [e] at hj ⊢
        exact append_fits _ c (mdFit_iff.1 (r2 k c) j hj)
      · rw [List.length_append] at hk
        simp only [List.length_singleton] at hk
        have e : afAt (L ++ [(f, mdNew l f n)]) k = mdNew l f n := by unfold afAt; rw [append_getD, if_neg c, if_pos (by omega)]
        rw [e] at hj ⊢
        rw [mdNew_length] at hj
        rw [mdNew_at _ _ _ _ hj]
        have e2 : ((L ++ [(f, mdNew l f n)]).getD k (0, [])).1 = f := by rw [append_getD, if_neg c, if_pos (by omega)]
        cases hp : fPtr l f j with
        | true =>
          unfold mdFits
          rw [e2, hp]
          rfl
        | false =>
          unfold mdFits
          rw [e2, hp]
          rfl
theorem take_has {L : Afs} {m : Nat} {a b : Int} (h : mdHas L a b = true) (ha : a < (m : Int)) : mdHas (L.take m) a b = true := by
  obtain ⟨h0, h1, h2, h3⟩ := mdHas_iff.1 h
  refine mdHas_iff.2 ⟨h0, by rw [List.length_take]; omega, h2, ?_⟩
  unfold afAt at *
  rw [List.getD_eq_getElem?_getD, List.getElem?_take_of_lt (by omega), ← List.getD_eq_getElem?_getD]
  exact h3
theorem take_right {l : Fns} {L : Afs} (hR : mdRight l L = true) (m : Nat) : mdRight l (L.take m) = true := by
  obtain ⟨r1, r2⟩ := mdRight_iff.1 hR
  have hg : ∀ k, k < m → (L.take m).getD k (0, []) = L.getD k (0, []) := fun k hk => by
    rw [List.getD_eq_getElem?_getD, List.getElem?_take_of_lt hk, ← List.getD_eq_getElem?_getD]
  refine mdRight_iff.2 ⟨mdSized_at.2 fun k hk => ?_, fun k hk => mdFit_iff.2 fun j hj => ?_⟩
  · rw [List.length_take] at hk
    unfold afAt
    rw [hg k (by omega)]
    exact mdSized_at.1 r1 k (by omega)
  · rw [List.length_take] at hk
    have e : afAt (L.take m) k = afAt L k := by unfold afAt; rw [hg k (by omega)]
    rw [e] at hj ⊢
    have h := mdFit_iff.1 (r2 k (by omega)) j hj
    obtain ⟨k1, k2, k3⟩ := mdFits_kind h
    unfold mdFits at h ⊢
    rw [hg k (by omega)]
    split at h
    · exact absurd h (by decide)
    · rename_i h1
      rw [if_neg h1]
      split at h
      · exact absurd h (by decide)
      · rename_i h2
        rw [if_neg h2, if_neg (fun c => by
          obtain ⟨q1, q2⟩ := k3 c.1
          rw [take_has q1 (by omega)] at c
          cases c.2), if_neg (fun c => by
          have := (k3 c.1).2
          omega)]
theorem mdReturn_right {l : Fns} {L : Afs} (hR : mdRight l L = true) : (mdReturn l L).2 ≠ 9 ∧ mdRight l (mdReturn l L).1 = true ∧ ((mdReturn l L).2 ≠ 0 → (mdReturn l L).1 = L) := by
  unfold mdReturn
  rw [if_neg (by rw [hR]; simp)]
  split
  · exact ⟨by simp, hR, fun _ => rfl⟩
  · exact ⟨by simp, take_right hR _, fun c => absurd rfl c⟩
/-- A frame that is called, whose slots are set, and that returns. -/
theorem md_back {l : Fns} {L : Afs} {M : Afs} {f : Int} (hR : mdRight l L = true) (hc : mdCall l L f = (M, 0)) (i : Int) (v : VlV) : mdReturn l (mdSet l M (L.length : Int) i v).1 = if L.length = 0 then ((mdSet l M (L.length : Int) i v).1, 8) else (L, 0) := by
  have hM : mdRight l M = true := by have := (mdCall_right hR f).2.1; rw [hc] at this; exact this
  have hS := (mdSet_right hM (L.length : Int) i v).2.1
  obtain ⟨x, hx⟩ : ∃ x, M = L ++ [x] := by
    unfold mdCall at hc
    rw [if_neg (by rw [hR]; simp)] at hc
    split at hc
    · injection hc with _ hc; exact absurd hc (by decide)
    · injection hc with hc _; exact ⟨_, hc.symm⟩
  have hlen : (mdSet l M (L.length : Int) i v).1.length = L.length + 1 := by
    unfold mdSet
    split
    · rw [hx]; simp
    · split
      · rw [hx]; simp
      · split
        · rw [hx]; simp
        · rw [mdWith_length, hx]; simp
  have htake : (mdSet l M (L.length : Int) i v).1.take L.length = L := by
    have e1 : M.take L.length = L := by rw [hx, List.take_left']; rfl
    unfold mdSet
    split
    · exact e1
    · split
      · exact e1
      · split
        · exact e1
        · unfold mdWith
          rw [Int.toNat_natCast]
          simp only
          rw [List.take_set_of_le (by omega)]
          exact e1
  unfold mdReturn
  rw [if_neg (by rw [hS]; simp), hlen]
  by_cases h0 : L.length = 0
  · rw [if_pos (by omega), if_pos h0]
  · rw [if_neg (by omega), if_neg h0, Nat.add_sub_cancel, htake]
/-- A row that isn't right is refused. -/
theorem md_wrong {l : Fns} {L : Afs} (hR : mdRight l L = false) : (∀ f, mdCall l L f = (L, 9)) ∧ mdReturn l L = (L, 9) ∧ (∀ d i v, mdSet l L d i v = (L, 9)) ∧ (∀ d i, mdGet l L d i = (vl0, 9)) ∧ (∀ d i, mdLoad l L d i = (vl0, 9)) ∧ (∀ d i b, mdWrite l L d i b = (L, 9)) ∧ ∀ op d ks, mdCalc l L op d ks = (L, 9) := by
  have hg : ∀ d i, mdGet l L d i = (vl0, 9) := fun d i => by unfold mdGet; rw [hR, if_pos rfl]
  have hr : ∀ d i, mdRefers l L d i = (vl0, 9) := fun d i => by unfold mdRefers; rw [hg, if_pos (by simp)]
  refine ⟨fun f => ?_, ?_, fun d i v => ?_, hg, fun d i => ?_, fun d i b => ?_, fun op d ks => ?_⟩
  · unfold mdCall; rw [hR, if_pos rfl]
  · unfold mdReturn; rw [hR, if_pos rfl]
  · unfold mdSet; rw [hR, if_pos rfl]
  · unfold mdLoad; rw [hr, if_pos (by simp)]
  · unfold mdWrite; rw [hr, if_pos (by simp)]
  · unfold mdCalc; rw [hR, if_pos rfl]
end Go.Proofs.YtdcnpaodcjfdbaaGreatDoor
