/- Several texts in one: FrmMath, FrmRead, FrmSlot, FrmPush, FrmRef, FrmLaws, FrmMade, FrmReads, FrmSlots, FrmWords. -/
import Derived.Test.YtlniakcoikhilaaGreatDoorFnsAll
import Derived.Test.YtlniakcoikhilaaGreatDoorArenaRef
import Derived.Deep.Cut
import Derived.Deep.CutRange
import Derived.Deep.RegionHeld3
import Derived.Laws.StructEq
import Derived.BigQuiet
/- Frames that stand in an arena (layer 14): plain functions, an arena beside a table, three cells of a block. -/
namespace Go.Proofs.YtlniakcoikhilaaGreatDoor
open Go.RowKit
set_option linter.unusedVariables false

/-- The number that a word in a frame's head stands for. -/
def frNum (x : Nat) : Int := if x = 0 then -1 else if x ≤ 9223372036854775808 then (x : Int) - 1 else (x : Int) - 1 - 18446744073709551616
/-- A frame: its base, its function, its link. -/
structure FrV where
  at_ : Int
  fn : Int
  link : Int
deriving DecidableEq
def frC (x : FrV) : Value := .agg #[.int .i64 x.at_, .int .i64 x.fn, .int .i64 x.link]
def fr0 : FrV := ⟨0, 0, 0⟩
/-- Are a frame's words there? -/
def frOk (xs : List Nat) (l : Fns) (a : Nat) : Bool := decide (xs.getD a 0 ≤ xs.length ∧ 1 ≤ xs.getD (a + 1) 0 ∧ xs.getD (a + 1) 0 ≤ l.length ∧ (a : Int) + fWords l ((xs.getD (a + 1) 0 : Nat) - 1 : Int) ≤ xs.length)
/-- The frame that stands at an address; the error's number. -/
def frRead (xs : List Nat) (l : Fns) (a : Int) : FrV × Int :=
  if aIn xs.length a 2 = false then (fr0, 2)
  else if frOk xs l a.toNat then (⟨a, (xs.getD (a.toNat + 1) 0 : Nat) - 1, (xs.getD a.toNat 0 : Nat) - 1⟩, 0) else (fr0, 9)
theorem frRead_out {xs : List Nat} {l : Fns} {a : Int} (h : aIn xs.length a 2 = false) : frRead xs l a = (fr0, 2) := by unfold frRead; rw [if_pos h]
theorem frRead_no {xs : List Nat} {l : Fns} {a : Nat} (h : aIn xs.length a 2 = true) (k : frOk xs l a = false) : frRead xs l a = (fr0, 9) := by
  unfold frRead; rw [if_neg (by rw [h]; simp), Int.toNat_natCast, k]; rfl
theorem frRead_yes {xs : List Nat} {l : Fns} {a : Nat} (h : aIn xs.length a 2 = true) (k : frOk xs l a = true) : frRead xs l a = (⟨a, (xs.getD (a + 1) 0 : Nat) - 1, (xs.getD a 0 : Nat) - 1⟩, 0) := by
  unfold frRead; rw [if_neg (by rw [h]; simp), Int.toNat_natCast, k]; rfl
theorem fWords_cases (l : Fns) (hl : ∀ x ∈ l, 0 ≤ x.1 ∧ x.1 ≤ 1000) (f : Int) : ((f < 0 ∨ (l.length : Int) ≤ f) ∧ fWords l f = -1) ∨ (0 ≤ f ∧ f < l.length ∧ 2 ≤ fWords l f ∧ fWords l f ≤ 1002) := by
  by_cases h : f < 0 ∨ (l.length : Int) ≤ f
  · left
    refine ⟨h, ?_⟩
    unfold fWords fSize; rw [if_pos h]; rfl
  · right
    have hr : 0 ≤ fSize l f ∧ fSize l f ≤ 1000 := by
      unfold fSize
      rw [if_neg h, List.getD_eq_getElem?_getD, List.getElem?_eq_getElem (by omega)]
      exact hl _ (List.getElem_mem (l := l) (n := f.toNat) (by omega))
    refine ⟨by omega, by omega, ?_, ?_⟩ <;> (unfold fWords; rw [if_neg (by omega)]; omega)
/-- What the code asks of a frame's words. -/
theorem frOk_code (xs : List Nat) (l : Fns) (hl : ∀ x ∈ l, 0 ≤ x.1 ∧ x.1 ≤ 1000) (hn : l.length ≤ 1000) (a : Nat) (k f : Nat) (hk : xs.getD a 0 = k) (hf : xs.getD (a + 1) 0 = f) (hf2 : f < 18446744073709551616) (hka : k ≤ xs.length) :
    frOk xs l a = aIn xs.length (a : Int) (fWords l (frNum f)) := by
  unfold frOk aIn
  rw [hk, hf, Bool.eq_iff_iff, decide_eq_true_iff, decide_eq_true_iff]
  by_cases h : 1 ≤ f ∧ f ≤ l.length
  · have e : frNum f = (f : Int) - 1 := by unfold frNum; rw [if_neg (by omega), if_pos (by omega)]
    rw [e]
    rcases fWords_cases l hl ((f : Int) - 1) with h1 | h1 <;> omega
  · have e : fWords l (frNum f) = -1 := by
      rcases fWords_cases l hl (frNum f) with h1 | h1
      · exact h1.2
      · exfalso; unfold frNum at h1; split at h1
        · omega
        · split at h1 <;> omega
    rw [e]; omega
theorem frOk_far {xs : List Nat} {l : Fns} {a : Nat} {k : Nat} (hk : xs.getD a 0 = k) (h : xs.length < k) : frOk xs l a = false := by
  unfold frOk; exact decide_eq_false (by omega)

theorem three_cells (w : World) (b : Nat) (u0 u1 u2 x0 x1 x2 : Value) (h0 : w.cell? ⟨b, 0, none⟩ = some x0) (h1 : w.cell? ⟨b, 1, none⟩ = some x1) (h2 : w.cell? ⟨b, 2, none⟩ = some x2) :
    (((w.setCell ⟨b, 0, none⟩ u0).setCell ⟨b, 1, none⟩ u1).setCell ⟨b, 2, none⟩ u2).cell? ⟨b, 0, none⟩ = some u0 ∧ (((w.setCell ⟨b, 0, none⟩ u0).setCell ⟨b, 1, none⟩ u1).setCell ⟨b, 2, none⟩ u2).cell? ⟨b, 1, none⟩ = some u1 ∧
    (((w.setCell ⟨b, 0, none⟩ u0).setCell ⟨b, 1, none⟩ u1).setCell ⟨b, 2, none⟩ u2).cell? ⟨b, 2, none⟩ = some u2 := by
  have o : ∀ (w : World) (i j : Nat) (v : Value), i ≠ j → (w.setCell ⟨b, i, none⟩ v).cell? ⟨b, j, none⟩ = w.cell? ⟨b, j, none⟩ := fun w i j v h => World.cell?_setCell_other w _ _ _ (fun e => h (by injection e))
  have s : ∀ (w : World) (i : Nat) (v x : Value), w.cell? ⟨b, i, none⟩ = some x → (w.setCell ⟨b, i, none⟩ v).cell? ⟨b, i, none⟩ = some v := fun w i v x h => World.cell?_setCell_same w _ _ h
  refine ⟨?_, ?_, ?_⟩
  · rw [o _ 2 0 _ (by decide), o _ 1 0 _ (by decide), s _ 0 _ x0 h0]
  · rw [o _ 2 1 _ (by decide), s _ 1 _ x1 (by rw [o _ 0 1 _ (by decide)]; exact h1)]
  · rw [s _ 2 _ x2 (by rw [o _ 1 2 _ (by decide), o _ 0 2 _ (by decide)]; exact h2)]

/-- The table stays where its blocks do. -/
theorem TbO.keep {w w' : World} {lo hi : Nat} {p : Option Addr} {l : Fns} (h : TbO w lo hi p l) (hk : ∀ b, lo ≤ b → b < hi → w'.heap[b]? = w.heap[b]?) : TbO w' lo hi p l := h.imp id fun ⟨b, e, h⟩ => ⟨b, e, h.keep hk⟩
theorem TbO.few {w : World} {lo hi : Nat} {p : Option Addr} {l : Fns} (h : TbO w lo hi p l) : l.length ≤ 100 := by
  rcases h with ⟨_, rfl⟩ | ⟨b, _, _, _, A, n, c, ys, _, h4, rfl, h6, _⟩
  · simp
  · rw [vals_length, h4.len]; exact h6
/-- An arena and a table, both made since the world w. -/
structure AT (w W : World) (p g len : Nat) (xs : List Nat) (tp : Option Addr) (l : Fns) : Prop where
  bel : Below w.heap.size w W
  ar : Ar W w.heap.size p g len xs
  tb : ∃ lo hi, TbO W lo hi tp l ∧ hi ≤ W.heap.size ∧ w.heap.size ≤ lo ∧ (g < lo ∨ hi ≤ g)
section
variable {w W W' : World} {p g len : Nat} {xs ys : List Nat} {tp : Option Addr} {l : Fns}
theorem AT.step (h : AT w W p g len xs tp l) (hb : Below W.heap.size W W') : AT w W' p g len xs tp l := by
  obtain ⟨lo, hi, h2, h3, h4, h5⟩ := h.tb
  exact ⟨h.bel.trans (hb.mono h.bel.size), h.ar.below hb (Nat.le_refl _), lo, hi, h2.below (hb.mono h3), Nat.le_trans h3 hb.size, h4, h5⟩
theorem AT.drewN (h : AT w W p g len xs tp l) (q : Nat) : AT w (W.drewN q) p g len xs tp l := h.step (belowN (Below.refl _ _) q)
theorem AT.alloc (h : AT w W p g len xs tp l) (o : Obj) : AT w (W.alloc o) p g len xs tp l := h.step (belF_al (Below.refl _ _) o)
theorem AT.wrote (h : AT w W p g len xs tp l) (ha : Ar W' w.heap.size p g len ys) (hg : W.grownBy W' (some g)) : AT w W' p g len ys tp l := by
  obtain ⟨lo, hi, h2, h3, h4, h5⟩ := h.tb
  refine ⟨h.bel.grown hg h.bel.size (fun k hk => by cases hk; exact h.ar.geg), ha, lo, hi, h2.keep fun b hb1 hb2 => hg.block b (by omega) (fun e => ?_), Nat.le_trans h3 hg.size, h4, h5⟩
  injection e with e
  omega
theorem AT.few (h : AT w W p g len xs tp l) : l.length ≤ 100 := by obtain ⟨lo, hi, h2, _⟩ := h.tb; exact h2.few
end
end Go.Proofs.YtlniakcoikhilaaGreatDoor

/- What number, word and Read of layer 14 (frame) return. -/
namespace Go.Proofs.YtlniakcoikhilaaGreatDoor
open Go.RowKit
set_option linter.unusedVariables false

theorem code_frnum (x : Nat) (hx : x < 18446744073709551616) (w : World) :
    Calls Tryz.prog 111 #[.int .u64 (x : Int)] w fun e w' => e = .returned (.int .i64 (frNum x)) ∧ w = w' := by
  have E : Hid (wrap64 (IntKind.u64.wrap ((x : Int) - 1)) = frNum x) := hidb (by
    have e : IntKind.u64.wrap ((x : Int) - 1) = ((x : Int) - 1) % 18446744073709551616 := by simp [IntKind.wrap, IntKind.bits, IntKind.signed]
    rw [e]
    unfold frNum wrap64
    by_cases h0 : x = 0
    · subst h0; decide
    · rw [if_neg h0]
      by_cases h1 : x ≤ 9223372036854775808
      · rw [if_pos h1]; omega
      · rw [if_neg h1]; omega)
  go_enter Tryz.func111, Tryz.ntmps111
  go_wp2
  go_ret
  exact ⟨congrArg Ending.returned (congrArg (Value.int .i64) E.out), rfl⟩

/-- Row, of two words. -/
theorem code_arow2 {p g len : Nat} {xs : List Nat} (a : Nat) {w : World} {B : Nat} (ha : Ar w B p g len xs) (hin : a + 2 ≤ len) :
    Calls Tryz.prog 11 #[.pointer (some ⟨p, 0, none⟩), .int .i64 (a : Int), .int .i64 2] w fun e w' => ∃ b off c, e = .returned (.tuple #[.slice (some ⟨b, off, none⟩) 2 c, .int .i64 0]) ∧ w'.cell? ⟨b, off, none⟩ = some (.int .u64 (xs.getD a 0 : Nat)) ∧ w'.cell? ⟨b, off + 1, none⟩ = some (.int .u64 (xs.getD (a + 1) 0 : Nat)) ∧ b < w'.heap.size ∧ Below w.heap.size w w' := by
  have hl := ha.hlen
  have hrow : aRow xs a 2 = [xs.getD a 0, xs.getD (a + 1) 0] := by
    refine List.ext_getElem? fun i => ?_
    rw [aRow_get]
    match i with
    | 0 => rw [if_pos (by omega)]; simp [List.getD_eq_getElem?_getD, List.getElem?_eq_getElem (show a < xs.length by omega)]
    | 1 => rw [if_pos (by omega)]; simp [List.getD_eq_getElem?_getD, List.getElem?_eq_getElem (show a + 1 < xs.length by omega)]
    | i + 2 => rw [if_neg (by omega)]; simp
  have cr := code_arow_ok a 2 ha hin
  rw [hrow] at cr
  refine Calls.mono cr ?_
  rintro e w' ⟨A, c, rfl, ho, hb⟩
  have hs := Sl.of_own ho
  obtain ⟨b, off, u0, rfl, hbl, h0, c0⟩ := hs.at_ (k := 0) (by simp)
  obtain ⟨b', off', u1, e1, _, h1, c1⟩ := hs.at_ (k := 1) (by simp)
  injection e1 with e1
  injection e1 with e1 e2
  subst e1 e2
  simp [wv] at h0 h1
  subst h0 h1
  exact ⟨b, off, c, rfl, by simpa using c0, c1, hbl, hb⟩

/-- A result of three cells, written: the world behind it. -/
theorem bel_set3 {w W : World} {b : Nat} (h : Below w.heap.size w W) (hb : w.heap.size ≤ b) (u0 u1 u2 : Value) : Below w.heap.size w (((W.setCell ⟨b, 0, none⟩ u0).setCell ⟨b, 1, none⟩ u1).setCell ⟨b, 2, none⟩ u2) := ((h.setCell hb u0).setCell hb u1).setCell hb u2

set_option maxRecDepth 100000 in
theorem code_frread {w : World} {B p g len : Nat} {xs : List Nat} {lo hi : Nat} {tp : Option Addr} {l : Fns} (ha : Ar w B p g len xs) (ht : TbO w lo hi tp l) (hhi : hi ≤ w.heap.size) (hl : ∀ x ∈ l, 0 ≤ x.1 ∧ x.1 ≤ 1000) (hx : Wd xs) (a : Int) (h0 : in64 a) :
    Calls Tryz.prog 105 #[.pointer (some ⟨p, 0, none⟩), .pointer tp, .int .i64 a] w fun e w' => e = .returned (.tuple #[frC (frRead xs l a).1, .int .i64 (frRead xs l a).2]) ∧ Below w.heap.size w w' := by
  have hlen := ha.hlen
  have hsm := ha.small
  have hb0 := belF_al (Below.refl w.heap.size w) (.cells #[.int .i64 0, .int .i64 0, .int .i64 0] 71)
  have hz0 : (w.alloc (.cells #[.int .i64 0, .int .i64 0, .int .i64 0] 71)).heap.size = w.heap.size + 1 := by simp
  obtain ⟨W0, hW0⟩ : ∃ W0, W0 = w.alloc (.cells #[.int .i64 0, .int .i64 0, .int .i64 0] 71) := ⟨_, rfl⟩
  have ha0 := ha.alloc (.cells #[.int .i64 0, .int .i64 0, .int .i64 0] 71)
  rw [← hW0] at hb0 hz0 ha0
  have q0 : W0.cell? ⟨w.heap.size, 0, none⟩ = some (.int .i64 0) := by rw [hW0]; simp
  have q1 : W0.cell? ⟨w.heap.size, 1, none⟩ = some (.int .i64 0) := by rw [hW0]; simp
  have q2 : W0.cell? ⟨w.heap.size, 2, none⟩ = some (.int .i64 0) := by rw [hW0]; simp
  have z0 : ∀ i, W0.frozen? ⟨w.heap.size, i, none⟩ = false := fun i => by rw [hW0]; simp [go_sem]
  have HQ : Hid (∀ W, Below W0.heap.size W0 W → (W.cell? ⟨w.heap.size, 0, none⟩ = some (.int .i64 0) ∧ W.cell? ⟨w.heap.size, 1, none⟩ = some (.int .i64 0) ∧ W.cell? ⟨w.heap.size, 2, none⟩ = some (.int .i64 0)) ∧ W.frozen? ⟨w.heap.size, 0, none⟩ = false ∧ W.frozen? ⟨w.heap.size, 1, none⟩ = false ∧ W.frozen? ⟨w.heap.size, 2, none⟩ = false) := hidb (fun W hb => by
    refine ⟨⟨?_, ?_, ?_⟩, ?_, ?_, ?_⟩
    · rw [hb.cell (by show w.heap.size < _; omega)]; exact q0
    · rw [hb.cell (by show w.heap.size < _; omega)]; exact q1
    · rw [hb.cell (by show w.heap.size < _; omega)]; exact q2
    · rw [hb.frozen (by show w.heap.size < _; omega)]; exact z0 0
    · rw [hb.frozen (by show w.heap.size < _; omega)]; exact z0 1
    · rw [hb.frozen (by show w.heap.size < _; omega)]; exact z0 2)
  cases hin : aIn len a 2 with
  | false =>
    have E : frRead xs l a = (fr0, 2) := frRead_out (by rw [hlen]; exact hin)
    rw [E]
    have cr := code_arow_no (.pointer (some ⟨p, 0, none⟩)) len a 2 W0 hsm (code_awords p _ _ _ _ (ha0.alloc _).cell) h0 (by unfold in64; omega) hin
    rw [hW0] at cr
    have HB := hidb hb0
    have HZ := hidb hz0
    rw [hW0] at HQ HB HZ
    clear hW0 q0 q1 q2 z0 ha0 ha ht hx hl hin E hlen hsm h0 hb0 hz0
    unfold fr0 frC
    go_enter Tryz.func105, Tryz.ntmps105
    go_wp2_with (go_at_call 11; (with_reducible refine cr.mono ?_); rintro e w1 ⟨A1, c1, rfl, ho1, hb1⟩; obtain ⟨⟨r0, r1, r2⟩, f0, f1, f2⟩ := HQ.out _ hb1)
    obtain ⟨s0, s1, s2⟩ := three_cells w1 w.heap.size (.int .i64 0) (.int .i64 0) (.int .i64 0) _ _ _ r0 r1 r2
    exact bodyPost_ret (v := .tuple #[.agg #[.int .i64 0, .int .i64 0, .int .i64 0], .int .i64 2]) (by simp [results, Tryz.results105, go_sem, s0, s1, s2]) rfl ⟨rfl, bel_set3 (belF_tr HB.out hb1) (Nat.le_refl _) _ _ _⟩
  | true =>
    have hA := of_decide_eq_true hin
    obtain ⟨n, rfl⟩ : ∃ n : Nat, a = (n : Int) := ⟨a.toNat, by omega⟩
    have hn2 : n + 2 ≤ len := by omega
    have hin' : aIn xs.length (n : Int) 2 = true := by rw [hlen]; exact hin
    obtain ⟨k, hk⟩ : ∃ k, xs.getD n 0 = k := ⟨_, rfl⟩
    obtain ⟨f, hf⟩ : ∃ f, xs.getD (n + 1) 0 = f := ⟨_, rfl⟩
    have hget : ∀ i, i < xs.length → xs.getD i 0 < 18446744073709551616 := fun i hi => by
      rw [List.getD_eq_getElem?_getD, List.getElem?_eq_getElem hi]; exact hx _ (List.getElem_mem hi)
    have hk2 : k < 18446744073709551616 := by rw [← hk]; exact hget n (by omega)
    have hf2 : f < 18446744073709551616 := by rw [← hf]; exact hget (n + 1) (by omega)
    have cr := code_arow2 n ha0 hn2
    rw [hk, hf] at cr
    rw [hW0] at cr
    have n0 := fun W => code_frnum k hk2 W
    have n1 := fun W => code_frnum f hf2 W
    have HB := hidb hb0
    have HZ := hidb hz0
    have HA : Hid (∀ W, Below w.heap.size w W → Ar W B p g len xs) := hidb (fun W hb => ha.below hb (Nat.le_refl _))
    have HT : Hid (∀ W, Below w.heap.size w W → TbO W lo hi tp l) := hidb (fun W hb => ht.below (hb.mono hhi))
    rw [hW0] at HQ HB HZ
    have HE : Hid (frRead xs l (n : Int) = if len < k then (fr0, 9) else if aIn len (n : Int) (fWords l (frNum f)) then (⟨n, (f : Int) - 1, (k : Int) - 1⟩, 0) else (fr0, 9)) := hidb (by
      by_cases hfar : len < k
      · rw [if_pos hfar]; exact frRead_no hin' (frOk_far hk (by omega))
      · rw [if_neg hfar]
        have e := frOk_code xs l hl (by have := ht.few; omega) n k f hk hf hf2 (by omega)
        rw [hlen] at e
        rw [← e]
        cases hq : frOk xs l n with
        | false => exact frRead_no hin' hq
        | true => have h3 := frRead_yes hin' hq; rw [hk, hf] at h3; exact h3)
    have HF1 : Hid (k ≤ len → aIn len (n : Int) (fWords l (frNum f)) = true → frNum f = (f : Int) - 1 ∧ frNum k = (k : Int) - 1) := hidb (fun h1 h2 => by
      have e := frOk_code xs l hl (by have := ht.few; omega) n k f hk hf hf2 (by omega)
      rw [hlen, h2] at e
      have e := of_decide_eq_true e
      rw [hk, hf] at e
      have := ht.few
      constructor
      · unfold frNum; rw [if_neg (by omega), if_pos (by omega)]
      · unfold frNum
        by_cases k0 : k = 0
        · rw [if_pos k0]; omega
        · rw [if_neg k0, if_pos (by omega)])
    have HL := hidb hl
    have HIN := hidb h0
    have HFW : Hid (in64 (fWords l (frNum f))) := hidb (by have := fWords_cases l hl (frNum f); unfold in64; omega)
    clear hW0 q0 q1 q2 z0 ha0 ha ht hx hl hin hlen h0 hb0 hz0 hget hA hk hf hin'
    go_enter Tryz.func105, Tryz.ntmps105
    go_wp2_with (go_at_call 11; (with_reducible refine cr.mono ?_); rintro e w1 ⟨b, off, c1, rfl, d0, d1, hbl, hb1⟩)
    have HD : Hid (∀ W, Below w1.heap.size w1 W → W.cell? ⟨b, off, none⟩ = some (.int .u64 (k : Int)) ∧ W.cell? ⟨b, off + 1, none⟩ = some (.int .u64 (f : Int))) := hidb (fun W hb => ⟨(hb.cell (p := ⟨b, off, none⟩) hbl).trans d0, (hb.cell (p := ⟨b, off + 1, none⟩) hbl).trans d1⟩)
    go_cut [10] from 21 to 30 (fun v wx => v = .pointer (some ⟨w1.heap.size, 0, none⟩) ∧ wx = (w1.alloc (.cells #[.int .i64 (n : Int), .int .i64 (frNum f), .int .i64 (frNum k)] 71)).drew)
    case first =>
      go_region_held3 (fun W => W.cell? ⟨b, off, none⟩ = some (.int .u64 (k : Int)) ∧ W.cell? ⟨b, off + 1, none⟩ = some (.int .u64 (f : Int)))
        (first | ((with_reducible refine HD.out _ ?_); (repeat (first | with_reducible exact Below.refl _ _ | with_reducible apply belF_al | with_reducible apply belF_dr)); done) | (go_keep; done))
        (first
          | (go_at_call 111; (with_reducible refine (n0 _).mono ?_); rintro e w' ⟨rfl, rfl⟩)
          | (go_at_call 111; (with_reducible refine (n1 _).mono ?_); rintro e w' ⟨rfl, rfl⟩))
      all_goals
        go_wp2_with fail
        go_meet
        exact ⟨rfl, rfl⟩
    case rest =>
      obtain ⟨rfl, rfl⟩ := hcut
      obtain ⟨W2, hW2⟩ : ∃ W2, W2 = (w1.alloc (.cells #[.int .i64 (n : Int), .int .i64 (frNum f), .int .i64 (frNum k)] 71)).drew := ⟨_, rfl⟩
      have hb12 : Below w1.heap.size w1 W2 := by rw [hW2]; exact belF_dr (belF_al (Below.refl _ _) _)
      have y0 : W2.cell? ⟨w1.heap.size, 0, none⟩ = some (.int .i64 (n : Int)) := by rw [hW2]; simp
      have y1 : W2.cell? ⟨w1.heap.size, 1, none⟩ = some (.int .i64 (frNum f)) := by rw [hW2]; simp
      have y2 : W2.cell? ⟨w1.heap.size, 2, none⟩ = some (.int .i64 (frNum k)) := by rw [hW2]; simp
      have hz2 : W2.heap.size = w1.heap.size + 1 := by rw [hW2]; simp
      rw [← hW2]
      have HB2 : Hid (Below w.heap.size w W2) := hidb (belF_tr (belF_tr HB.out hb1) hb12)
      have HBW : Hid (∀ W, Below W2.heap.size W2 W → Below w.heap.size w W ∧ Below (w.alloc (.cells #[.int .i64 0, .int .i64 0, .int .i64 0] 71)).heap.size (w.alloc (.cells #[.int .i64 0, .int .i64 0, .int .i64 0] 71)) W) := hidb (fun W hb => ⟨belF_tr (belF_tr (belF_tr HB.out hb1) hb12) hb, belF_tr (belF_tr hb1 hb12) hb⟩)
      obtain ⟨x0, x1⟩ := HD.out W2 hb12
      have HC : Hid (∀ W, Below W2.heap.size W2 W → (W.cell? ⟨b, off, none⟩ = some (.int .u64 (k : Int)) ∧ W.cell? ⟨w1.heap.size, 1, none⟩ = some (.int .i64 (frNum f))) ∧ (W.cell? ⟨w1.heap.size, 0, none⟩ = some (.int .i64 (n : Int)) ∧ W.cell? ⟨w1.heap.size, 2, none⟩ = some (.int .i64 (frNum k)))) := hidb (fun W hb =>
        have hlt : w1.heap.size < W2.heap.size := by omega
        ⟨⟨(hb.cell (p := ⟨b, off, none⟩) (by show b < _; omega)).trans x0, (hb.cell (p := ⟨w1.heap.size, 1, none⟩) hlt).trans y1⟩, (hb.cell (p := ⟨w1.heap.size, 0, none⟩) hlt).trans y0, (hb.cell (p := ⟨w1.heap.size, 2, none⟩) hlt).trans y2⟩)
      have hwl : IntKind.u64.wrap (len : Int) = (len : Int) := by simp [IntKind.wrap, IntKind.bits, IntKind.signed]; omega
      clear hW2 hb12 HD d0 d1 hb1 cr n0 n1 y0 y2 x1
      by_cases hfar : len < k
      · have PN : Hid (∀ W, Below w.heap.size w W → Ending.returned (.tuple #[.agg #[.int .i64 0, .int .i64 0, .int .i64 0], .int .i64 9]) = Ending.returned (.tuple #[frC (frRead xs l (n : Int)).1, .int .i64 (frRead xs l (n : Int)).2]) ∧ Below w.heap.size w W) := hidb (fun W hb => ⟨by rw [HE.out, if_pos hfar]; rfl, hb⟩)
        have hd : decide (len < k) = true := decide_eq_true hfar
        have cw : ∀ q, Calls Tryz.prog 90 #[.pointer (some ⟨p, 0, none⟩)] (W2.drewN q) fun e w'' => e = .returned (.int .i64 (len : Int)) ∧ ∃ m, w'' = W2.drewN m := fun q => (code_awords p _ _ _ _ (HA.out _ (belowN HB2.out q)).cell).mono fun e w' h => ⟨h.1, q, h.2.symm⟩
        clear HE HF1 hfar hk2 hf2 hn2 hsm
        --@1
        go_wp2
        go_quiet (first | (go_at_call 90; (with_reducible exact cw _)))
        obtain ⟨wz, hwz⟩ : ∃ wz, wz = W2.drewN nq := ⟨_, rfl⟩
        have hbz : Below W2.heap.size W2 wz := by rw [hwz]; exact belowN (Below.refl _ _) _
        rw [← hwz]
        clear hwz
        obtain ⟨⟨r0, r1, r2⟩, f0, f1, f2⟩ := HQ.out wz (HBW.out wz hbz).2
        go_wp2
        obtain ⟨s0, s1, s2⟩ := three_cells wz w.heap.size (.int .i64 0) (.int .i64 0) (.int .i64 0) _ _ _ r0 r1 r2
        exact bodyPost_ret (v := .tuple #[.agg #[.int .i64 0, .int .i64 0, .int .i64 0], .int .i64 9]) (by simp [results, Tryz.results105, go_sem, s0, s1, s2]) rfl (PN.out _ (bel_set3 (HBW.out wz hbz).1 (Nat.le_refl _) _ _ _))
      · have t1 := fun W (hb : Below w.heap.size w W) => code_awords p _ _ _ W (HA.out W hb).cell
        have t2 := fun W (hb : Below w.heap.size w W) => code_fwordsT (HT.out W hb) (Nat.le_trans hhi hb.size) (frNum f) HL.out
        have t3 := fun W (hb : Below w.heap.size w W) => code_ain (HA.out W hb) (n : Int) (fWords l (frNum f)) HIN.out HFW.out
        obtain ⟨v, hv⟩ : ∃ v, aIn len (n : Int) (fWords l (frNum f)) = v := ⟨_, rfl⟩
        rw [hv] at t3
        have T1 := hidb t1
        have T2 := hidb t2
        have T3 := hidb t3
        have hnk : ¬ ((len : Int) < (k : Int)) := by omega
        have hd : decide (len < k) = false := decide_eq_false hfar
        have PN : Hid (∀ W, Below w.heap.size w W → (v = true → Ending.returned (.tuple #[.agg #[.int .i64 (n : Int), .int .i64 (frNum f), .int .i64 (frNum k)], .int .i64 0]) = Ending.returned (.tuple #[frC (frRead xs l (n : Int)).1, .int .i64 (frRead xs l (n : Int)).2]) ∧ Below w.heap.size w W) ∧ (v = false → Ending.returned (.tuple #[.agg #[.int .i64 0, .int .i64 0, .int .i64 0], .int .i64 9]) = Ending.returned (.tuple #[frC (frRead xs l (n : Int)).1, .int .i64 (frRead xs l (n : Int)).2]) ∧ Below w.heap.size w W)) := hidb (fun W hb => ⟨fun h => ⟨by rw [HE.out, if_neg hfar, hv, h, if_pos rfl]; obtain ⟨h1, h2⟩ := HF1.out (by omega) (hv.trans h); rw [h1, h2]; rfl, hb⟩, fun h => ⟨by rw [HE.out, if_neg hfar, hv, h, if_neg (by simp)]; rfl, hb⟩⟩)
        clear HE HF1 hk2 hf2 hn2 hsm hv t1 t2 t3
        --@2
        go_wp2
        go_region_held3 (fun W => W.cell? ⟨b, off, none⟩ = some (.int .u64 (k : Int)) ∧ W.cell? ⟨w1.heap.size, 1, none⟩ = some (.int .i64 (frNum f)))
          (first | ((with_reducible refine (HC.out _ ?_).1); (repeat (first | with_reducible exact Below.refl _ _ | with_reducible exact Hid.out (by assumption) | with_reducible apply belF_al | with_reducible apply belF_dr)); done) | (go_keep; done))
          (first
            | (go_at_call 90; (refine (T1.out _ (HBW.out _ (by (repeat (first | with_reducible exact Below.refl _ _ | with_reducible exact Hid.out (by assumption) | with_reducible apply belF_al | with_reducible apply belF_dr)))).1).mono ?_); rintro e w' ⟨rfl, rfl⟩)
            | (go_at_call 107; (refine (T2.out _ (HBW.out _ (by (repeat (first | with_reducible exact Below.refl _ _ | with_reducible exact Hid.out (by assumption) | with_reducible apply belF_al | with_reducible apply belF_dr)))).1).mono ?_); rintro e w3 ⟨rfl, hb3⟩; have hw3 : Hid (Below W2.heap.size W2 w3) := hidb (belF_tr (by (repeat (first | with_reducible exact Below.refl _ _ | with_reducible exact Hid.out (by assumption) | with_reducible apply belF_al | with_reducible apply belF_dr))) hb3); obtain ⟨⟨x3, y3⟩, _⟩ := HC.out w3 hw3.out; clear hb3)
            | (go_at_call 66; (refine (T3.out _ (HBW.out _ (by (repeat (first | with_reducible exact Below.refl _ _ | with_reducible exact Hid.out (by assumption) | with_reducible apply belF_al | with_reducible apply belF_dr)))).1).mono ?_); rintro e w' ⟨rfl, rfl⟩))
        obtain ⟨⟨r0, r1, r2⟩, f0, f1, f2⟩ := HQ.out w3 (HBW.out w3 hw3.out).2
        obtain ⟨_, yy0, yy2⟩ := HC.out w3 hw3.out
        have HP3 := hidb (PN.out _ (bel_set3 (HBW.out w3 hw3.out).1 (Nat.le_refl _) (.int .i64 0) (.int .i64 0) (.int .i64 0)))
        have HP4 := hidb (PN.out _ (bel_set3 (HBW.out w3 hw3.out).1 (Nat.le_refl _) (.int .i64 (n : Int)) (.int .i64 (frNum f)) (.int .i64 (frNum k))))
        cases v with
        | true =>
          go_wp2
          obtain ⟨s0, s1, s2⟩ := three_cells w3 w.heap.size (.int .i64 (n : Int)) (.int .i64 (frNum f)) (.int .i64 (frNum k)) _ _ _ r0 r1 r2
          exact bodyPost_ret (v := .tuple #[.agg #[.int .i64 (n : Int), .int .i64 (frNum f), .int .i64 (frNum k)], .int .i64 0]) (by simp [results, Tryz.results105, go_sem, s0, s1, s2]) rfl (HP4.out.1 (by trivial))
        | false =>
          go_wp2
          obtain ⟨s0, s1, s2⟩ := three_cells w3 w.heap.size (.int .i64 0) (.int .i64 0) (.int .i64 0) _ _ _ r0 r1 r2
          exact bodyPost_ret (v := .tuple #[.agg #[.int .i64 0, .int .i64 0, .int .i64 0], .int .i64 9]) (by simp [results, Tryz.results105, go_sem, s0, s1, s2]) rfl (HP3.out.2 (by trivial))
end Go.Proofs.YtlniakcoikhilaaGreatDoor

/- What Slot and End of layer 14 (frame) return. -/
namespace Go.Proofs.YtlniakcoikhilaaGreatDoor
open Go.RowKit
set_option linter.unusedVariables false

/-- The address of a slot, the error's number. -/
def frSlot (l : Fns) (x : FrV) (i : Int) : Int × Int := if i < 0 ∨ fSize l x.fn ≤ i then (0, 2) else (x.at_ + 2 + i, 0)
/-- The address behind a frame. -/
def frEnd (l : Fns) (x : FrV) : Int := if fWords l x.fn < 0 then -1 else x.at_ + fWords l x.fn
def frNear (x : FrV) : Prop := -1099511627776 ≤ x.at_ ∧ x.at_ ≤ 1099511627776
theorem fSize_most (l : Fns) (hl : ∀ x ∈ l, 0 ≤ x.1 ∧ x.1 ≤ 1000) (f : Int) : -1 ≤ fSize l f ∧ fSize l f ≤ 1000 := fSize_range hl f

theorem code_frend {w : World} {lo hi : Nat} {tp : Option Addr} {l : Fns} (ht : TbO w lo hi tp l) (hhi : hi ≤ w.heap.size) (hl : ∀ x ∈ l, 0 ≤ x.1 ∧ x.1 ≤ 1000) (x : FrV) (hx : frNear x) :
    Calls Tryz.prog 97 #[.pointer tp, frC x] w fun e w' => e = .returned (.int .i64 (frEnd l x)) ∧ Below w.heap.size w w' := by
  obtain ⟨a, f, k⟩ := x
  have hb0 := belF_al (Below.refl w.heap.size w) (.cells #[.int .i64 a, .int .i64 f, .int .i64 k] 71)
  have HC : Hid (∀ W, Below (w.alloc (.cells #[.int .i64 a, .int .i64 f, .int .i64 k] 71)).heap.size (w.alloc (.cells #[.int .i64 a, .int .i64 f, .int .i64 k] 71)) W → W.cell? ⟨w.heap.size, 0, none⟩ = some (.int .i64 a)) := hidb (fun W hb => by rw [hb.cell (by simp)]; simp)
  have cw := code_fwordsT (ht.below (hb0.mono hhi)) (Nat.le_trans hhi hb0.size) f hl
  have hr := fWords_cases l hl f
  unfold frNear at hx
  unfold frEnd
  simp only at hx ⊢
  generalize fWords l f = m at *
  have HB := hidb hb0
  clear ht hl hb0
  unfold frC
  simp only
  by_cases h0 : m < 0
  · rw [if_pos h0]
    go_enter Tryz.func97, Tryz.ntmps97
    go_wp2_with (go_at_call 107; (with_reducible refine cw.mono ?_); rintro e w1 ⟨rfl, hb1⟩; have c0 := HC.out _ hb1)
    go_ret
    exact ⟨rfl, belF_tr HB.out hb1⟩
  · rw [if_neg h0]
    have hw : wrap64 (a + m) = a + m := by unfold wrap64; omega
    clear hr
    go_enter Tryz.func97, Tryz.ntmps97
    go_wp2_with (go_at_call 107; (with_reducible refine cw.mono ?_); rintro e w1 ⟨rfl, hb1⟩; have c0 := HC.out _ hb1)
    go_ret
    exact ⟨by (first | rfl | (rw [hw]; rfl)), belF_tr HB.out hb1⟩

theorem code_frslot {w : World} {lo hi : Nat} {tp : Option Addr} {l : Fns} (ht : TbO w lo hi tp l) (hhi : hi ≤ w.heap.size) (hl : ∀ x ∈ l, 0 ≤ x.1 ∧ x.1 ≤ 1000) (x : FrV) (hx : frNear x) (i : Int) :
    Calls Tryz.prog 65 #[.pointer tp, frC x, .int .i64 i] w fun e w' => e = .returned (.tuple #[.int .i64 (frSlot l x i).1, .int .i64 (frSlot l x i).2]) ∧ Below w.heap.size w w' := by
  obtain ⟨a, f, k⟩ := x
  have hb0 := belF_al (Below.refl w.heap.size w) (.cells #[.int .i64 a, .int .i64 f, .int .i64 k] 71)
  have HC : Hid (∀ W, Below (w.alloc (.cells #[.int .i64 a, .int .i64 f, .int .i64 k] 71)).heap.size (w.alloc (.cells #[.int .i64 a, .int .i64 f, .int .i64 k] 71)) W → W.cell? ⟨w.heap.size, 0, none⟩ = some (.int .i64 a)) := hidb (fun W hb => by rw [hb.cell (by simp)]; simp)
  have cw := code_fsize (ht.below (hb0.mono hhi)) (Nat.le_trans hhi hb0.size) f
  have hr := fSize_most l hl f
  unfold frNear at hx
  unfold frSlot
  simp only at hx ⊢
  generalize fSize l f = m at *
  have HB := hidb hb0
  clear ht hl hb0
  unfold frC
  simp only
  by_cases h0 : i < 0
  · rw [if_pos (Or.inl h0)]
    go_enter Tryz.func65, Tryz.ntmps65
    go_wp2
    go_ret2
    exact ⟨rfl, HB.out⟩
  · by_cases h1 : m ≤ i
    · rw [if_pos (Or.inr h1)]
      go_enter Tryz.func65, Tryz.ntmps65
      go_wp2_with (go_at_call 89; (with_reducible refine cw.mono ?_); rintro e w1 ⟨rfl, hb1⟩; have c0 := HC.out _ hb1)
      go_ret2
      exact ⟨rfl, belF_tr HB.out hb1⟩
    · rw [if_neg (by omega)]
      have hw : wrap64 (a + 2) = a + 2 := by unfold wrap64; omega
      have hw2 : wrap64 (a + 2 + i) = a + 2 + i := by unfold wrap64; omega
      clear hr
      go_enter Tryz.func65, Tryz.ntmps65
      go_wp2_with (go_at_call 89; (with_reducible refine cw.mono ?_); rintro e w1 ⟨rfl, hb1⟩; have c0 := HC.out _ hb1)
      go_ret2
      exact ⟨by (first | rfl | (rw [hw2]; rfl)), belF_tr HB.out hb1⟩
end Go.Proofs.YtlniakcoikhilaaGreatDoor

/- What word and Push of layer 14 (frame) return, and which words they leave. -/
namespace Go.Proofs.YtlniakcoikhilaaGreatDoor
open Go.RowKit
set_option linter.unusedVariables false

/-- The words of a frame that is laid. -/
def frRow (n : Nat) (f link : Int) : List Nat := (link + 1).toNat :: (f + 1).toNat :: List.replicate (n - 2) 0
theorem frRow_length (n : Nat) (hn : 2 ≤ n) (f link : Int) : (frRow n f link).length = n := by unfold frRow; simp; omega
/-- The words behind it, the base, the error's number. -/
def frPush (xs : List Nat) (l : Fns) (lo sp f link : Int) : List Nat × Int × Int :=
  if fWords l f < 0 ∨ link < -1 ∨ (xs.length : Int) ≤ link then (xs, 0, 1)
  else if lo < 0 ∨ (xs.length : Int) < sp ∨ sp < lo ∨ sp - lo < fWords l f then (xs, 0, 2)
  else (aStore xs (sp - fWords l f).toNat (frRow (fWords l f).toNat f link), sp - fWords l f, 0)

/-- A row of the call's own whose first two words are written. -/
theorem row_two {w : World} {base g n c : Nat} {ys : List Nat} {u v : Nat} (h : w.ownsRow base 59 1 (.slice (some ⟨g, 0, none⟩) n c) n ((0 :: 0 :: ys).map wv)) :
    (((w.setCell ⟨g, 0, none⟩ (.int .u64 (u : Int))).setCell ⟨g, 1, none⟩ (.int .u64 (v : Int))).ownsRow base 59 1 (.slice (some ⟨g, 0, none⟩) n c) n ((u :: v :: ys).map wv)) := by
  have h1 := (h.stored 0 (wv u)).1
  have h2 := (World.ownsRow.stored h1 1 (wv v)).1
  exact h2

end Go.Proofs.YtlniakcoikhilaaGreatDoor

/- What the document's own Read of layer 14 (frame) returns. -/
namespace Go.Proofs.YtlniakcoikhilaaGreatDoor
open Go.RowKit
set_option linter.unusedVariables false

theorem sl_getD {w : World} {B n : Nat} {A : Option Addr} {xs : List Nat} {j : Nat} (h : Sl w B A n (xs.map wv)) (hj : j < n) : ∃ b off, A = some ⟨b, off, none⟩ ∧ b < B ∧ w.cell? ⟨b, off + j, none⟩ = some (.int .u64 (xs.getD j 0 : Nat)) := by
  obtain ⟨b, off, u, e, hb, hu, hcell⟩ := h.at_ hj
  rw [List.getElem?_map] at hu
  cases hx : xs[j]? with
  | none => rw [hx] at hu; cases hu
  | some x =>
    rw [hx] at hu
    obtain rfl : u = wv x := by simpa using hu.symm
    exact ⟨b, off, e, hb, by rw [hcell, List.getD_eq_getElem?_getD, hx]; rfl⟩

set_option maxRecDepth 100000 in
set_option maxHeartbeats 2000000 in
theorem ref_frread {w : World} {A A2 : Option Addr} {n c n2 c2 lo hi : Nat} {xs : List Nat} {ys : List FnV} (hs : Sl w w.heap.size A n (xs.map wv)) (hn : n ≤ 65536) (hx : Wd xs) (hr : FnRow w lo hi A2 n2 ys) (hhi : hi ≤ w.heap.size) (hn2 : n2 ≤ 1000) (hl : ∀ x ∈ vals ys, 0 ≤ x.1 ∧ x.1 ≤ 1000) (a : Int) (h0 : in64 a) :
    Calls Tryz.prog 49 #[.slice A n c, .slice A2 n2 c2, .int .i64 a] w fun e w' => e = .returned (.tuple #[frC (frRead xs (vals ys) a).1, .int .i64 (frRead xs (vals ys) a).2]) ∧ Below w.heap.size w w' := by
  have hlen : xs.length = n := by have := hs.1; simpa using this
  have hl2 : (vals ys).length = n2 := by rw [vals_length]; exact hr.len
  have hb0 := belF_al (Below.refl w.heap.size w) (.cells #[.int .i64 0, .int .i64 0, .int .i64 0] 71)
  have HE : Hid (∀ m v0 v1 v2, frRead xs (vals ys) a = (⟨v0, v1, v2⟩, m) → ∀ W, Below w.heap.size w W → Ending.returned (.tuple #[.agg #[.int .i64 v0, .int .i64 v1, .int .i64 v2], .int .i64 m]) = Ending.returned (.tuple #[frC (frRead xs (vals ys) a).1, .int .i64 (frRead xs (vals ys) a).2]) ∧ Below w.heap.size w W) := hidb (fun m v0 v1 v2 h W hb => ⟨by rw [h]; rfl, hb⟩)
  by_cases hin : aIn n a 2 = false
  · have PN := hidb (HE.out 2 0 0 0 (frRead_out (by rw [hlen]; exact hin)))
    obtain ⟨i0, i1⟩ := h0
    have hno := of_decide_eq_false hin
    clear hs hr hl hx HE hin hl2 hlen
    by_cases c1 : a < 0
    · clear hno
      --@a1
      go_enter Tryz.func49, Tryz.ntmps49
      go_wp2
      exact bodyPost_ret (v := .tuple #[.agg #[.int .i64 0, .int .i64 0, .int .i64 0], .int .i64 2]) (by simp [results, Tryz.results49, go_sem]) rfl (PN.out _ (belF_al (Below.refl _ _) _))
    by_cases c2 : (n : Int) ≤ a
    · clear hno
      --@a2
      go_enter Tryz.func49, Tryz.ntmps49
      go_wp2
      exact bodyPost_ret (v := .tuple #[.agg #[.int .i64 0, .int .i64 0, .int .i64 0], .int .i64 2]) (by simp [results, Tryz.results49, go_sem]) rfl (PN.out _ (belF_al (Below.refl _ _) _))
    have c3 : (n : Int) < a + 2 := by omega
    have hw : wrap64 (a + 2) = a + 2 := by unfold wrap64; omega
    clear hno
    --@a3
    go_enter Tryz.func49, Tryz.ntmps49
    go_wp2
    exact bodyPost_ret (v := .tuple #[.agg #[.int .i64 0, .int .i64 0, .int .i64 0], .int .i64 2]) (by simp [results, Tryz.results49, go_sem]) rfl (PN.out _ (belF_al (Below.refl _ _) _))
  have hin' : aIn n a 2 = true := by simpa using hin
  have hA := of_decide_eq_true hin'
  obtain ⟨i, rfl⟩ : ∃ i : Nat, a = (i : Int) := ⟨a.toNat, by omega⟩
  have hi2 : i + 2 ≤ n := by omega
  rw [← hlen] at hin'
  obtain ⟨k, hk⟩ : ∃ k, xs.getD i 0 = k := ⟨_, rfl⟩
  obtain ⟨f, hf⟩ : ∃ f, xs.getD (i + 1) 0 = f := ⟨_, rfl⟩
  obtain ⟨b, off, rfl, hbl, ck⟩ := sl_getD hs (j := i) (by omega)
  obtain ⟨b', off', e1, _, cf⟩ := sl_getD hs (j := i + 1) (by omega)
  injection e1 with e1
  injection e1 with e1 e2
  subst e1 e2
  rw [hk] at ck
  rw [hf] at cf
  have hget : ∀ i, i < xs.length → xs.getD i 0 < 18446744073709551616 := fun i hi => by
    rw [List.getD_eq_getElem?_getD, List.getElem?_eq_getElem hi]; exact hx _ (List.getElem_mem hi)
  have hf2 : f < 18446744073709551616 := hf ▸ hget (i + 1) (by rw [hlen]; exact hi2)
  have hk2 : k < 18446744073709551616 := hk ▸ hget i (by rw [hlen]; exact Nat.lt_of_succ_lt hi2)
  have hK : frOk xs (vals ys) i = decide (k ≤ n ∧ 1 ≤ f ∧ f ≤ n2 ∧ (i : Int) + fWords (vals ys) ((f : Nat) - 1 : Int) ≤ n) := by unfold frOk; rw [hk, hf, hlen, hl2]
  have HN : Hid (frOk xs (vals ys) i = false → frRead xs (vals ys) (i : Int) = (fr0, 9)) := hidb (fun h => frRead_no hin' h)
  have HY : Hid (frOk xs (vals ys) i = true → frRead xs (vals ys) (i : Int) = (⟨i, (f : Int) - 1, (k : Int) - 1⟩, 0)) := hidb (fun h => by have h2 := frRead_yes hin' h; rw [hk, hf] at h2; exact h2)
  have HC : Hid (∀ W, Below w.heap.size w W → W.cell? ⟨b, off + i, none⟩ = some (.int .u64 (k : Int)) ∧ W.cell? ⟨b, off + (i + 1), none⟩ = some (.int .u64 (f : Int))) := hidb (fun W hb => ⟨(hb.cell (p := ⟨b, off + i, none⟩) hbl).trans ck, (hb.cell (p := ⟨b, off + (i + 1), none⟩) hbl).trans cf⟩)
  have hwr := fun W (hb : Below w.heap.size w W) (g : Int) => ref_fwordsR A2 n2 c2 ys lo hi W g (hr.below (hb.mono hhi)) hn2 (by have := fSize_range hl g; omega) (by have := fSize_range hl g; omega)
  have HW := hidb hwr
  have HFW : Hid (∀ g, -1 ≤ fWords (vals ys) g ∧ fWords (vals ys) g ≤ 1002) := hidb (fun g => by have := fWords_cases (vals ys) hl g; omega)
  clear hs hr hl hx hin hin' hl2 hlen hget hA hwr hk hf h0
  by_cases g0 : f = 0
  · have PN := hidb (HE.out 9 0 0 0 (HN.out (by rw [hK]; exact decide_eq_false (by omega))))
    subst g0
    obtain ⟨d0, d1⟩ := HC.out _ (belF_al (Below.refl _ _) (.cells #[.int .i64 0, .int .i64 0, .int .i64 0] 71))
    clear HE HN HY hK HW HC HFW ck cf
    have n1 : ((i : Int) + 1).toNat = i + 1 := rfl
    --@1
    go_enter Tryz.func49, Tryz.ntmps49
    go_wp2
    exact bodyPost_ret (v := .tuple #[.agg #[.int .i64 0, .int .i64 0, .int .i64 0], .int .i64 9]) (by simp [results, Tryz.results49, go_sem]) rfl (PN.out _ (belF_al (Below.refl _ _) _))
  have g0' : ((f : Int) == 0) = false := by simpa using g0
  by_cases g1 : n2 < f
  · have PN := hidb (HE.out 9 0 0 0 (HN.out (by rw [hK]; exact decide_eq_false (by omega))))
    obtain ⟨d0, d1⟩ := HC.out _ (belF_al (Below.refl _ _) (.cells #[.int .i64 0, .int .i64 0, .int .i64 0] 71))
    clear HE HN HY hK HW HC HFW ck cf
    have n1 : ((i : Int) + 1).toNat = i + 1 := rfl
    --@2
    go_enter Tryz.func49, Tryz.ntmps49
    go_wp2
    exact bodyPost_ret (v := .tuple #[.agg #[.int .i64 0, .int .i64 0, .int .i64 0], .int .i64 9]) (by simp [results, Tryz.results49, go_sem]) rfl (PN.out _ (belF_al (Below.refl _ _) _))
  by_cases g2 : n < k
  · have PN := hidb (HE.out 9 0 0 0 (HN.out (by rw [hK]; exact decide_eq_false (by omega))))
    obtain ⟨d0, d1⟩ := HC.out _ (belF_al (Below.refl _ _) (.cells #[.int .i64 0, .int .i64 0, .int .i64 0] 71))
    clear HE HN HY hK HW HC HFW ck cf
    have n1 : ((i : Int) + 1).toNat = i + 1 := rfl
    --@3
    go_enter Tryz.func49, Tryz.ntmps49
    go_wp2
    exact bodyPost_ret (v := .tuple #[.agg #[.int .i64 0, .int .i64 0, .int .i64 0], .int .i64 9]) (by simp [results, Tryz.results49, go_sem]) rfl (PN.out _ (belF_al (Below.refl _ _) _))
  have hfb : f ≤ 65536 := by omega
  have hkb : k ≤ 65536 := by omega
  obtain ⟨d0, d1⟩ := HC.out _ (belF_al (Below.refl _ _) (.cells #[.int .i64 0, .int .i64 0, .int .i64 0] 71))
  have HWX := hidb (HW.out _ (belF_al (belF_al (Below.refl _ _) (.cells #[.int .i64 0, .int .i64 0, .int .i64 0] 71)) (.cells #[.int .i64 (i : Int), .int .i64 ((f : Int) - 1), .int .i64 ((k : Int) - 1)] 71)) ((f : Int) - 1))
  obtain ⟨r0, r1⟩ := HFW.out ((f : Int) - 1)
  obtain ⟨z, hz⟩ : ∃ z, fWords (vals ys) ((f : Int) - 1) = z := ⟨_, rfl⟩
  rw [hz] at HWX r0 r1 hK
  have hz5 : -1000000 ≤ (i : Int) + z ∧ (i : Int) + z ≤ 1000000 := by omega
  by_cases g3 : (n : Int) < (i : Int) + z
  · have PN := hidb (HE.out 9 0 0 0 (HN.out (by rw [hK]; exact decide_eq_false (by omega))))
    clear HE HN HY hK HW HC HFW ck cf hz
    have n1 : ((i : Int) + 1).toNat = i + 1 := rfl
    have hf1 : 1 ≤ f := Nat.pos_of_ne_zero g0
    --@4
    go_enter Tryz.func49, Tryz.ntmps49
    go_wp2_with (go_at_call 50; (with_reducible refine HWX.out.mono ?_); rintro e w' ⟨rfl, rfl⟩)
    exact bodyPost_ret (v := .tuple #[.agg #[.int .i64 0, .int .i64 0, .int .i64 0], .int .i64 9]) (by simp [results, Tryz.results49, go_sem]) rfl (PN.out _ (belF_al (belF_al (Below.refl _ _) _) _))
  · have PN := hidb (HE.out 0 (i : Int) ((f : Int) - 1) ((k : Int) - 1) (HY.out (by rw [hK]; exact decide_eq_true (by omega))))
    clear HE HN HY hK HW HC HFW ck cf hz
    have n1 : ((i : Int) + 1).toNat = i + 1 := rfl
    have hf1 : 1 ≤ f := Nat.pos_of_ne_zero g0
    --@5
    go_enter Tryz.func49, Tryz.ntmps49
    go_wp2_with (go_at_call 50; (with_reducible refine HWX.out.mono ?_); rintro e w' ⟨rfl, rfl⟩)
    exact bodyPost_ret (v := .tuple #[.agg #[.int .i64 (i : Int), .int .i64 ((f : Int) - 1), .int .i64 ((k : Int) - 1)], .int .i64 0]) (by simp [results, Tryz.results49, go_sem]) rfl (PN.out _ (belF_al (belF_al (Below.refl _ _) _) _))
end Go.Proofs.YtlniakcoikhilaaGreatDoor

/- The walks of layer 14's statements: an arena as told, beside a table; the document's example; what comes in. -/
namespace Go.Proofs.YtlniakcoikhilaaGreatDoor
open Go.RowKit Go.ChangeShapes Go.WideShapes
set_option linter.unusedVariables false

/-- 256 words, all 0. -/
def frZ : List Nat := List.replicate 256 0
theorem frZ_length : frZ.length = 256 := by unfold frZ; exact List.length_replicate
/-- 256 words, the first ones as told. -/
def frLaid (xs : List Nat) : List Nat := aStore frZ 0 xs
theorem frLaid_length (xs : List Nat) (h : xs.length ≤ 256) : (frLaid xs).length = 256 := by unfold frLaid; rw [aStore_length _ _ _ (by rw [frZ_length]; omega), frZ_length]
theorem aStore_wd {xs ys : List Nat} (hx : Wd xs) (hy : Wd ys) (i : Nat) : Wd (aStore xs i ys) := fun z hz => by
  unfold aStore at hz
  rcases List.mem_append.1 hz with hz | hz
  · rcases List.mem_append.1 hz with hz | hz
    · exact hx z (List.mem_of_mem_take hz)
    · exact hy z hz
  · exact hx z (List.mem_of_mem_drop hz)
theorem frZ_wd : Wd frZ := fun z hz => by unfold frZ at hz; rw [List.eq_of_mem_replicate hz]; omega
theorem frLaid_wd {xs : List Nat} (h : Wd xs) : Wd (frLaid xs) := aStore_wd frZ_wd h 0

theorem code_anewZ (w : World) : Calls Tryz.prog 17 #[.int .i64 4] w fun e w' => ∃ p g, e = .returned (.tuple #[.pointer (some ⟨p, 0, none⟩), .int .i64 0]) ∧ Ar w' w.heap.size p g 256 frZ ∧ Below w.heap.size w w' := by
  refine (code_anew 4 w (by omega) (by omega)).mono ?_
  rintro e w1 ⟨p, g, rfl, har, hb⟩
  exact ⟨p, g, rfl, har, hb⟩

/-- Beside an arena a table is made. -/
theorem AT.made {w W W' : World} {p g len : Nat} {xs : List Nat} {b : Nat} {l : Fns} (hb : Below w.heap.size w W) (ha : Ar W w.heap.size p g len xs) (ht : TbIs W' W.heap.size W'.heap.size b l) (hb2 : Below W.heap.size W W') : AT w W' p g len xs (some ⟨b, 0, none⟩) l :=
  ⟨hb.trans (hb2.mono hb.size), ha.below hb2 (Nat.le_refl _), _, _, ht.o, Nat.le_refl _, hb.size, Or.inl ha.lt⟩

section
variable {w : World} {p g : Nat} {xs : List Nat} {tp : Option Addr} {l : Fns}
theorem t_frread {W : World} (s : Hid (AT w W p g 256 xs tp l)) (hl : ∀ x ∈ l, 0 ≤ x.1 ∧ x.1 ≤ 1000) (hx : Wd xs) (a : Int) (h0 : in64 a) (v : FrV) (no : Int) (hv : frRead xs l a = (v, no)) :
    Calls Tryz.prog 105 #[.pointer (some ⟨p, 0, none⟩), .pointer tp, .int .i64 a] W fun e w' => e = .returned (.tuple #[frC v, .int .i64 no]) ∧ Hid (AT w w' p g 256 xs tp l) := by
  obtain ⟨lo, hi, h2, h3, _⟩ := s.out.tb
  have c := code_frread s.out.ar h2 h3 hl hx a h0
  rw [hv] at c
  exact c.mono fun e w' ⟨h1, h2⟩ => ⟨h1, hidb (s.out.step h2)⟩
end

theorem eql_frame (x y : FrV) (W : World) : (binOp .eql 71 (.agg #[.int .i64 x.at_, .int .i64 x.fn, .int .i64 x.link]) (.agg #[.int .i64 y.at_, .int .i64 y.fn, .int .i64 y.link])).run Tryz.prog W = .ok (.bool (decide (x = y))) W := by
  obtain ⟨a, b, c⟩ := x
  obtain ⟨a', b', c'⟩ := y
  simp [go_sem]
  by_cases h1 : a = a' <;> by_cases h2 : b = b' <;> by_cases h3 : c = c' <;> simp [h1, h2, h3]

theorem aw14_tab : fTab [((3 : Int), ([] : List Nat))] = true := by decide
theorem aw14_own : fOwns [((3 : Int), ([] : List Nat))] = [(3, [])] := by decide
theorem aw14_push : frPush frZ [(3, [])] 0 64 0 (-1) = (aStore frZ 59 [0, 1, 0, 0, 0], 59, 0) := by decide +kernel
theorem aw14_read : frRead (aStore frZ 59 [0, 1, 0, 0, 0]) [(3, [])] 59 = (⟨59, 0, -1⟩, 0) := by decide +kernel
theorem aw14_wd : Wd (aStore frZ 59 [0, 1, 0, 0, 0]) := aStore_wd frZ_wd (by unfold Wd; decide) 59

end Go.Proofs.YtlniakcoikhilaaGreatDoor

/- What 'made' of layer 14's statements returns: an arena as told, beside a table. -/
namespace Go.Proofs.YtlniakcoikhilaaGreatDoor
open Go.RowKit Go.ChangeShapes Go.WideShapes
set_option linter.unusedVariables false

section
variable {w : World} {A A2 : Option Addr} {n c n2 c2 : Nat} {ys : List FnV} {xs : List Nat}
end

section
variable {H : Type} {enc : TypeId × Value → H} {W : World} {sp : Nat → Bool} {hd : Bool}
/-- Words that came in. -/
theorem read_words {v : Value} {d : DataW H} {ps : List MemPlace} (h : DataW.Trod enc Tryz.prog W 0 sp hd 22 v d ps) :
    ∃ (A : Option Addr) (len cap : Nat) (l : List Nat), v.cells.toList = [.slice A len cap] ∧ len ≤ maxLen ∧ (Sl W W.heap.size A len (l.map wv) ∧ Wd l ∧ (A = none → cap = 0) ∧ len ≤ cap ∧ cap ≤ maxLen) := by
  obtain ⟨fuel, hf⟩ := h
  obtain ⟨A, len, cap, zs, e1, hlc, hcm, hna, hsl, hwf⟩ := read_intsC Tryz.underlying22 Tryz.underlying59 fr_u64 hf
  obtain ⟨hwn, hw64⟩ := words_nat zs hwf
  exact ⟨A, len, cap, zs.map Int.toNat, e1, Nat.le_trans hlc hcm, by rw [hwn]; exact hsl, hw64, hna, hlc, hcm⟩
end

/-- An arena as told beside a table; the words once more, in a row of their own. -/
def AW (w : World) (p g : Nat) (xs : List Nat) (tp : Option Addr) (l : Fns) (A : Option Addr) (W : World) : Prop := AT w W p g 256 xs tp l ∧ Sl W W.heap.size A 256 (xs.map wv)
theorem AW.step {w W W' : World} {p g : Nat} {xs : List Nat} {tp A : Option Addr} {l : Fns} (h : AW w p g xs tp l A W) (hb : Below W.heap.size W W') : AW w p g xs tp l A W' := ⟨h.1.step hb, (h.2.below hb).more hb.size⟩
theorem frRead_owns (xs : List Nat) (l : Fns) (a : Int) : frRead xs (fOwns l) a = frRead xs l a := by
  unfold frRead frOk
  simp only [fWords_owns, fOwns_length]
end Go.Proofs.YtlniakcoikhilaaGreatDoor

/- Layer 14's statement FrameReads. -/
namespace Go.Proofs.YtlniakcoikhilaaGreatDoor
open Go.RowKit Go.ChangeShapes Go.WideShapes
set_option linter.unusedVariables false

section
variable {w : World} {p g : Nat} {xs : List Nat} {tp : Option Addr} {l : Fns} {D : Option Addr}
theorem a_store {A B : Option Addr} {n c cB : Nat} {us : List Nat} {W : World} (s : Hid (AT w W p g 256 xs tp l)) (hs : Sl w w.heap.size A n (us.map wv)) (hn : n ≤ 256) (hB : Sl W W.heap.size B 256 (frZ.map wv)) :
    Calls Tryz.prog 8 #[.slice B 256 cB, .int .i64 0, .slice A n c] W fun e w' => ∃ D d, e = .returned (.tuple #[.slice D 256 d, .int .i64 0]) ∧ Hid (AT w w' p g 256 xs tp l) ∧ Hid (Sl w' w'.heap.size D 256 ((frLaid us).map wv)) := by
  have hl : us.length = n := by have := hs.1; simpa using this
  have h1 := ref_astore B A 256 cB n c frZ us 0 W hB ((hs.below s.out.bel).more s.out.bel.size) (by omega) (by omega) (by omega)
  refine Calls.mono h1 ?_
  rintro e w' ⟨D, d, rfl, ho, hb⟩
  have e256 : (aStore frZ 0 us).length = 256 := frLaid_length us (by omega)
  have hd := Sl.of_own ho
  rw [e256] at hd
  exact ⟨D, d, by rw [e256], hidb (s.out.step hb), hidb hd⟩
theorem a_frread {W : World} (s : Hid (AW w p g xs tp l D W)) (hl : ∀ x ∈ l, 0 ≤ x.1 ∧ x.1 ≤ 1000) (hx : Wd xs) (a : Int) (h0 : in64 a) (v : FrV) (no : Int) (hv : frRead xs l a = (v, no)) :
    Calls Tryz.prog 105 #[.pointer (some ⟨p, 0, none⟩), .pointer tp, .int .i64 a] W fun e w' => e = .returned (.tuple #[frC v, .int .i64 no]) ∧ Hid (AW w p g xs tp l D w') := by
  obtain ⟨lo, hi, h2, h3, _⟩ := s.out.1.tb
  have c := code_frread s.out.1.ar h2 h3 hl hx a h0
  rw [hv] at c
  exact c.mono fun e w' ⟨h1, h2⟩ => ⟨h1, hidb (s.out.step h2)⟩
theorem a_rread {A2 : Option Addr} {n2 c2 d : Nat} {ys : List FnV} (h : In13 w A2 n2 ys) {W : World} (s : Hid (AW w p g xs tp l D W)) (hl : ∀ x ∈ vals ys, 0 ≤ x.1 ∧ x.1 ≤ 1000) (hx : Wd xs) (a : Int) (h0 : in64 a) (v : FrV) (no : Int) (hv : frRead xs (vals ys) a = (v, no)) :
    Calls Tryz.prog 49 #[.slice D 256 d, .slice A2 n2 c2, .int .i64 a] W fun e w' => e = .returned (.tuple #[frC v, .int .i64 no]) ∧ Hid (AW w p g xs tp l D w') ∧ Hid (Below W.heap.size W w') := by
  have c := ref_frread (c := d) (c2 := c2) s.out.2 (by omega) hx (h.at_ s.out.1.bel) (Nat.le_refl _) (by have := h.few; omega) hl a h0
  rw [hv] at c
  exact c.mono fun e w' ⟨h1, h2⟩ => ⟨h1, hidb (s.out.step h2), hidb h2⟩
end

end Go.Proofs.YtlniakcoikhilaaGreatDoor

/- Layer 14's statement FrameSlots. -/
namespace Go.Proofs.YtlniakcoikhilaaGreatDoor
open Go.RowKit Go.ChangeShapes Go.WideShapes
set_option linter.unusedVariables false

section
variable {H : Type} {enc : TypeId × Value → H} {W : World} {sp : Nat → Bool} {hd : Bool}
theorem fx_cells : Tryz.prog.cellsOf 71 = 3 := by kernel_rfl
theorem fx_int : Tryz.prog.cellsOf 3 = 1 := by kernel_rfl
def FrCells (cs : List Value) (x : FrV) : Prop := cs = [.int .i64 x.at_, .int .i64 x.fn, .int .i64 x.link] ∧ in64 x.at_ ∧ in64 x.fn ∧ in64 x.link
theorem read_frameF (fuel : Nat) (cs : List Value) (x : DataW H × List MemPlace) (h : DataW.trod enc Tryz.prog W 0 sp hd fuel 71 cs = some x) : ∃ r, FrCells cs r := by
  obtain ⟨hl, hf⟩ := read_field Tryz.underlying71 h
  rw [fx_cells] at hl
  obtain ⟨c0, n0, y0, g0, t0⟩ := hf 0 _ rfl fx_int (by rw [hl]; decide)
  obtain ⟨c1, n1, y1, g1, t1⟩ := hf 1 _ rfl fx_int (by rw [hl]; decide)
  obtain ⟨c2, n2, y2, g2, t2⟩ := hf 2 _ rfl fx_int (by rw [hl]; decide)
  obtain ⟨z0, e0, _, w0⟩ := DataW.trod_int Tryz.underlying3 t0
  obtain ⟨z1, e1, _, w1⟩ := DataW.trod_int Tryz.underlying3 t1
  obtain ⟨z2, e2, _, w2⟩ := DataW.trod_int Tryz.underlying3 t2
  simp only [List.cons.injEq, and_true] at e0 e1 e2
  subst e0 e1 e2
  refine ⟨⟨z0, z1, z2⟩, ?_, wf_in64 w0, wf_in64 w1, wf_in64 w2⟩
  match cs, hl with
  | [a0, a1, a2], _ => simp_all
theorem read_frame {v : Value} {d : DataW H} {ps : List MemPlace} (h : DataW.Trod enc Tryz.prog W 0 sp hd 71 v d ps) : ∃ r : FrV, v.cells.toList = [.int .i64 r.at_, .int .i64 r.fn, .int .i64 r.link] ∧ in64 r.at_ ∧ in64 r.fn ∧ in64 r.link := by
  obtain ⟨fuel, hf⟩ := h
  obtain ⟨r, h1, h2⟩ := read_frameF fuel _ _ hf
  exact ⟨r, h1, h2⟩
end

/-- A frame that lies in a block. -/
def XAt (b : Nat) (x : FrV) (W : World) : Prop := W.cell? ⟨b, 0, none⟩ = some (.int .i64 x.at_) ∧ W.cell? ⟨b, 1, none⟩ = some (.int .i64 x.fn) ∧ W.cell? ⟨b, 2, none⟩ = some (.int .i64 x.link)
theorem XAt.step {b : Nat} {x : FrV} {W W' : World} (h : XAt b x W) (hb : Below W.heap.size W W') : XAt b x W' := by
  have hl : b < W.heap.size := lt_of_cell' h.1
  exact ⟨(hb.cell (p := ⟨b, 0, none⟩) hl).trans h.1, (hb.cell (p := ⟨b, 1, none⟩) hl).trans h.2.1, (hb.cell (p := ⟨b, 2, none⟩) hl).trans h.2.2⟩
/-- A law's world: a table, and a frame in a block. -/
def SX (w : World) (b : Nat) (x : FrV) (p : Option Addr) (l : Fns) (W : World) : Prop := S13 w W p l ∧ XAt b x W
theorem stab_x (w : World) (b : Nat) (x : FrV) (p : Option Addr) (l : Fns) : Stab w p l (SX w b x p l) := ⟨fun _ h => h.1, fun _ _ h hb => ⟨h.1.step hb, h.2.step hb⟩⟩
section
variable {w : World} {b : Nat} {x : FrV} {p : Option Addr} {l : Fns} {A : Option Addr} {n c : Nat} {ys : List FnV}
theorem x_new (h : In13 w A n ys) (ht : TabDB w) {W : World} (s : Hid (SX w b x p l W)) (hr : fTab (vals ys) = true) :
    Calls Tryz.prog 4 #[.slice A n c] W fun e w' => ∃ q, e = .returned (.tuple #[.pointer (some ⟨q, 0, none⟩), .int .i64 0]) ∧ Hid (SX w b x (some ⟨q, 0, none⟩) (fOwns (vals ys)) w') :=
  (code_fNew A n c ys 0 W (h.at_ s.out.1.bel) (by have := h.few; omega) h.s1 (TabDB.below ht s.out.1.bel) hr).mono fun e w' ⟨q, h1, h2, h3⟩ => ⟨q, h1, hidb ⟨⟨s.out.1.bel.trans (h3.mono s.out.1.bel.size), _, _, h2.o, Nat.le_refl _, s.out.1.bel.size⟩, s.out.2.step h3⟩⟩
theorem x_new_no (h : In13 w A n ys) {W : World} (s : Hid (SX w b x p l W)) (hr : fTab (vals ys) = false) :
    Calls Tryz.prog 4 #[.slice A n c] W fun e w' => e = .returned (.tuple #[.pointer none, .int .i64 1]) ∧ Hid (SX w b x none [] w') :=
  (code_fNew_no A n c ys 0 W (h.at_ s.out.1.bel) (by have := h.few; omega) h.s1 hr).mono fun e w' ⟨h1, h3⟩ => ⟨h1, hidb ⟨⟨s.out.1.bel.trans (h3.mono s.out.1.bel.size), _, _, TbO.nil_ w' w.heap.size w.heap.size, Nat.le_trans s.out.1.bel.size h3.size, Nat.le_refl _⟩, s.out.2.step h3⟩⟩
theorem x_slot {W : World} (s : Hid (SX w b x p l W)) (hl : ∀ y ∈ l, 0 ≤ y.1 ∧ y.1 ≤ 1000) (hx : frNear x) (i r no : Int) (hv : frSlot l x i = (r, no)) :
    Calls Tryz.prog 65 #[.pointer p, .agg #[.int .i64 x.at_, .int .i64 x.fn, .int .i64 x.link], .int .i64 i] W fun e w' => e = .returned (.tuple #[.int .i64 r, .int .i64 no]) ∧ Hid (SX w b x p l w') := by
  obtain ⟨lo, hi, h2, h3, _⟩ := s.out.1.2
  have c := code_frslot h2 h3 hl x hx i
  rw [hv] at c
  exact c.mono fun e w' ⟨h1, h2⟩ => ⟨h1, hidb ((stab_x w b x p l).step _ _ s.out h2)⟩
theorem x_end {W : World} (s : Hid (SX w b x p l W)) (hl : ∀ y ∈ l, 0 ≤ y.1 ∧ y.1 ≤ 1000) (hx : frNear x) (r : Int) (hv : frEnd l x = r) :
    Calls Tryz.prog 97 #[.pointer p, .agg #[.int .i64 x.at_, .int .i64 x.fn, .int .i64 x.link]] W fun e w' => e = .returned (.int .i64 r) ∧ Hid (SX w b x p l w') := by
  obtain ⟨lo, hi, h2, h3, _⟩ := s.out.1.2
  have c := code_frend h2 h3 hl x hx
  rw [hv] at c
  exact c.mono fun e w' ⟨h1, h2⟩ => ⟨h1, hidb ((stab_x w b x p l).step _ _ s.out h2)⟩
end
section
variable {w : World} {p : Option Addr} {l : Fns} {St : World → Prop} {A : Option Addr} {n c : Nat} {ys : List FnV}
theorem q_rwords (k : Stab w p l St) (h : In13 w A n ys) {W : World} (s : Hid (St W)) (q : Nat) (f r : Int) (h1 : fSize (vals ys) f ≤ 1000) (h2 : -9223372036854775808 ≤ fSize (vals ys) f) (hr : fWords (vals ys) f = r) :
    Calls Tryz.prog 50 #[.slice A n c, .int .i64 f] (W.drewN q) fun e w'' => e = .returned (.int .i64 r) ∧ ∃ m, w'' = W.drewN m := by
  rw [← hr]
  exact (ref_fwordsR A n c ys _ _ (W.drewN q) f ((h.at_ (k.get _ s.out).bel).drewN q) (by have := h.few; omega) h1 h2).mono fun e w' ⟨h1, h2⟩ => ⟨h1, q, h2.symm⟩
end

theorem fSize_nil (f : Int) : fSize [] f = -1 := by unfold fSize; rw [if_pos (by simp only [List.length_nil]; omega)]
theorem frSlot_none {l : Fns} {x : FrV} (h : fSize l x.fn < 0) (i : Int) : frSlot l x i = (0, 2) := by
  unfold frSlot; rw [if_pos (by omega)]
theorem frEnd_none {l : Fns} {x : FrV} (h : fSize l x.fn < 0) : frEnd l x = -1 := by
  unfold frEnd fWords; rw [if_pos h, if_pos (by omega)]

end Go.Proofs.YtlniakcoikhilaaGreatDoor

/- Layer 14's statement FrameWords. -/
namespace Go.Proofs.YtlniakcoikhilaaGreatDoor
open Go.RowKit Go.ChangeShapes Go.WideShapes
set_option linter.unusedVariables false

/-- A frame that is laid: where, and which words. -/
theorem frPush_ok {xs ys : List Nat} {l : Fns} {lo sp f link at' : Int} (hl : ∀ x ∈ l, 0 ≤ x.1 ∧ x.1 ≤ 1000) (h : frPush xs l lo sp f link = (ys, at', 0)) :
    ∃ n s u v : Nat, 2 ≤ n ∧ sp = (s : Int) + (n : Int) ∧ at' = (s : Int) ∧ s + n ≤ xs.length ∧ link = (u : Int) - 1 ∧ f = (v : Int) - 1 ∧ u ≤ xs.length ∧ v ≤ l.length ∧ ys = aStore xs s (u :: v :: List.replicate (n - 2) 0) := by
  unfold frPush at h
  have hr := fWords_cases l hl f
  generalize hw : fWords l f = m at h hr
  by_cases c1 : m < 0 ∨ link < -1 ∨ (xs.length : Int) ≤ link
  · rw [if_pos c1] at h; injection h with _ h; injection h with _ h; omega
  · rw [if_neg c1] at h
    by_cases c2 : lo < 0 ∨ (xs.length : Int) < sp ∨ sp < lo ∨ sp - lo < m
    · rw [if_pos c2] at h; injection h with _ h; injection h with _ h; omega
    · rw [if_neg c2] at h
      injection h with h1 h
      injection h with h2 _
      refine ⟨m.toNat, (sp - m).toNat, (link + 1).toNat, (f + 1).toNat, by omega, by omega, by omega, by omega, by omega, by omega, by omega, by omega, ?_⟩
      rw [← h1]; rfl
/-- What stands where. -/
def frWant (mark n s u v i : Nat) : Nat := if i = s + 1 then v else if i = s then u else if s ≤ i ∧ i < s + n then 0 else mark
theorem frWant_at (N mark n s u v i : Nat) (hn : 2 ≤ n) (hs : s + n ≤ N) (hi : i < N) : (aStore (List.replicate N mark) s (u :: v :: List.replicate (n - 2) 0))[i]? = some (frWant mark n s u v i) := by
  have hlen : (u :: v :: List.replicate (n - 2) 0).length = n := by simp; omega
  rw [aStore_get _ _ _ (by rw [hlen, List.length_replicate]; exact hs), hlen]
  unfold frWant
  have hr : (List.replicate N mark)[i]? = some mark := by rw [List.getElem?_replicate, if_pos hi]
  by_cases h1 : i < s
  · rw [if_pos h1, if_neg (by omega), if_neg (by omega), if_neg (by omega)]; exact hr
  · rw [if_neg h1]
    by_cases h2 : i < s + n
    · rw [if_pos h2]
      obtain ⟨j, rfl⟩ : ∃ j, i = s + j := ⟨i - s, by omega⟩
      rw [show s + j - s = j by omega]
      match j with
      | 0 => rw [if_neg (by omega), if_pos (by omega)]; rfl
      | 1 => rw [if_pos rfl]; rfl
      | j + 2 =>
        rw [if_neg (by omega), if_neg (by omega), if_pos (by omega)]
        simp only [List.getElem?_cons_succ]
        rw [List.getElem?_replicate, if_pos (by omega)]
    · rw [if_neg h2, if_neg (by omega), if_neg (by omega), if_neg (by omega)]; exact hr
theorem aStore_whole (xs ys : List Nat) (h : ys.length = xs.length) : aStore xs 0 ys = ys := by
  unfold aStore; rw [List.take_zero, List.drop_of_length_le (by omega)]; simp
theorem frLaid_all (mark : Nat) : frLaid (List.replicate 256 mark) = List.replicate 256 mark := by
  unfold frLaid; exact aStore_whole _ _ (by rw [frZ_length, List.length_replicate])
theorem In13.at_w {w W : World} {A : Option Addr} {n : Nat} {ys : List FnV} (h : In13 w A n ys) (hb : Below w.heap.size w W) : In13 W A n ys := ⟨h.at_ hb, h.few, h.small⟩

end Go.Proofs.YtlniakcoikhilaaGreatDoor
