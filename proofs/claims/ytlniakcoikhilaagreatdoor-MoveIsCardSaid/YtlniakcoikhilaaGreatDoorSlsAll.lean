/- Several texts in one: SltMath, SltRef, SltFind, SltGet, SltPut, SltAll, SltAll2, SltCode, SltMay, SltPutC. -/
import Derived.Test.YtlniakcoikhilaaGreatDoorWlkAll
import Derived.Laws.StructEq
/- Slots of frames (layer 16): plain functions. -/
namespace Go.Proofs.YtlniakcoikhilaaGreatDoor
open Go.RowKit
set_option linter.unusedVariables false

/-- What a slot has. -/
structure VlV where
  kind : Nat
  bits : Nat
  depth : Int
  slot : Int
deriving DecidableEq
def vlC (v : VlV) : Value := .agg #[.int .u8 v.kind, .int .u64 v.bits, .int .i64 v.depth, .int .i64 v.slot]
def vl0 : VlV := ⟨0, 0, 0, 0⟩
/-- May a value be? -/
def vMay (v : VlV) : Bool := decide (v.kind ≤ 2 ∧ (v.kind = 1 ∨ v.bits = 0)) && (if v.kind < 2 then decide (v.depth = 0 ∧ v.slot = 0) else decide (0 ≤ v.depth ∧ 0 ≤ v.slot))
/-- How many slots a frame has. -/
def slSize (l : Fns) (x : FrV) : Int := if fSize l x.fn < 0 ∨ x.at_ < 0 ∨ 1099511627776 < x.at_ then 0 else fSize l x.fn
/-- The address of a slot; -1. -/
def slAddr (l : Fns) (L : List FrV) (d i : Int) : Int := if d < 0 ∨ (L.length : Int) ≤ d ∨ i < 0 ∨ slSize l (L.getD d.toNat fr0) ≤ i then -1 else (L.getD d.toNat fr0).at_ + 2 + i
/-- The slot that has an address, from a depth on. -/
def slFind (l : Fns) : Nat → List FrV → Int → Option (Nat × Nat)
  | _, [], _ => none
  | d, x :: r, a => if x.at_ + 2 ≤ a ∧ a < x.at_ + 2 + slSize l x then some (d, (a - (x.at_ + 2)).toNat) else slFind l (d + 1) r a
theorem slSize_range (l : Fns) (hl : ∀ x ∈ l, 0 ≤ x.1 ∧ x.1 ≤ 1000) (x : FrV) : 0 ≤ slSize l x ∧ slSize l x ≤ 1000 ∧ (0 < slSize l x → 0 ≤ x.at_ ∧ x.at_ ≤ 1099511627776 ∧ slSize l x = fSize l x.fn) := by
  unfold slSize
  have := fSize_range hl x.fn
  split <;> omega
theorem slSize_owns (l : Fns) (x : FrV) : slSize (fOwns l) x = slSize l x := by unfold slSize; rw [fSize_owns]
theorem slAddr_owns (l : Fns) (L : List FrV) (d i : Int) : slAddr (fOwns l) L d i = slAddr l L d i := by unfold slAddr; rw [slSize_owns]
theorem slFind_owns (l : Fns) (a : Int) : ∀ (L : List FrV) (d : Nat), slFind (fOwns l) d L a = slFind l d L a
  | [], _ => rfl
  | x :: r, d => by unfold slFind; rw [slSize_owns, slFind_owns l a r (d + 1)]
theorem slFind_at {l : Fns} {a : Int} {L : List FrV} {j : Nat} {x : FrV} (h : L[j]? = some x) (d : Nat) : slFind l d (L.drop j) a = if x.at_ + 2 ≤ a ∧ a < x.at_ + 2 + slSize l x then some (d, (a - (x.at_ + 2)).toNat) else slFind l (d + 1) (L.drop (j + 1)) a := by
  obtain ⟨hj, rfl⟩ := List.getElem?_eq_some_iff.1 h
  rw [List.drop_eq_getElem_cons hj]; rfl
/-- What is found is an address. -/
theorem slFind_addr {l : Fns} {a : Int} : ∀ (L : List FrV) (d0 : Nat) (d i : Nat), slFind l d0 L a = some (d, i) → d0 ≤ d ∧ d < d0 + L.length ∧ (i : Int) < slSize l (L.getD (d - d0) fr0) ∧ (L.getD (d - d0) fr0).at_ + 2 + (i : Int) = a
  | [], d0, d, i, h => by cases h
  | x :: r, d0, d, i, h => by
    unfold slFind at h
    by_cases hc : x.at_ + 2 ≤ a ∧ a < x.at_ + 2 + slSize l x
    · rw [if_pos hc] at h
      injection h with h
      injection h with h1 h2
      subst h1 h2
      simp only [Nat.sub_self, List.getD_cons_zero, List.length_cons]
      omega
    · rw [if_neg hc] at h
      have := slFind_addr r (d0 + 1) d i h
      obtain ⟨k, hk⟩ : ∃ k, d - d0 = k + 1 := ⟨d - d0 - 1, by omega⟩
      rw [hk, List.getD_cons_succ]
      rw [show d - (d0 + 1) = k by omega] at this
      simp only [List.length_cons]
      omega
end Go.Proofs.YtlniakcoikhilaaGreatDoor

/- What the document's own functions of layer 16 (slots) return: Size, Address, Find, May. -/
namespace Go.Proofs.YtlniakcoikhilaaGreatDoor
open Go.RowKit
set_option linter.unusedVariables false

section
variable {w : World} {A2 : Option Addr} {n2 c2 lo' hi' : Nat} {ys : List FnV}
theorem ref_slsize (hr : FnRow w lo' hi' A2 n2 ys) (hhi : hi' ≤ w.heap.size) (hn2 : n2 ≤ 1000) (x : FrV) :
    Calls Tryz.prog 51 #[.slice A2 n2 c2, .agg #[.int .i64 x.at_, .int .i64 x.fn, .int .i64 x.link]] w fun e w' => e = .returned (.int .i64 (slSize (vals ys) x)) ∧ Below w.heap.size w w' := by
  obtain ⟨a, f, k⟩ := x
  have hb0 := belF_al (Below.refl w.heap.size w) (.cells #[.int .i64 a, .int .i64 f, .int .i64 k] 71)
  have cs := ref_fsize A2 n2 c2 ys lo' hi' (w.alloc (.cells #[.int .i64 a, .int .i64 f, .int .i64 k] 71)) f (hr.below (hb0.mono hhi)) hn2
  unfold slSize
  simp only
  generalize fSize (vals ys) f = z at *
  have HB := hidb hb0
  clear hr hb0
  by_cases h1 : z < 0
  · rw [if_pos (Or.inl h1)]
    --@1
    go_enter Tryz.func51, Tryz.ntmps51
    go_wp2_with (first | (go_at_call 76; (with_reducible refine cs.mono ?_); rintro e w1 ⟨rfl, rfl⟩))
    go_ret
    exact ⟨rfl, HB.out⟩
  · by_cases h2 : a < 0
    · rw [if_pos (Or.inr (Or.inl h2))]
      --@2
      go_enter Tryz.func51, Tryz.ntmps51
      go_wp2_with (first | (go_at_call 76; (with_reducible refine cs.mono ?_); rintro e w1 ⟨rfl, rfl⟩))
      go_ret
      exact ⟨rfl, HB.out⟩
    · by_cases h3 : 1099511627776 < a
      · rw [if_pos (Or.inr (Or.inr h3))]
        --@3
        go_enter Tryz.func51, Tryz.ntmps51
        go_wp2_with (first | (go_at_call 76; (with_reducible refine cs.mono ?_); rintro e w1 ⟨rfl, rfl⟩))
        go_ret
        exact ⟨rfl, HB.out⟩
      · rw [if_neg (by omega)]
        --@4
        go_enter Tryz.func51, Tryz.ntmps51
        go_wp2_with (first | (go_at_call 76; (with_reducible refine cs.mono ?_); rintro e w1 ⟨rfl, rfl⟩))
        go_ret
        exact ⟨rfl, HB.out⟩

theorem ref_sladdr {A : Option Addr} {m c : Nat} {L : List FrV} (hr : FnRow w lo' hi' A2 n2 ys) (hhi : hi' ≤ w.heap.size) (hn2 : n2 ≤ 1000) (hl : ∀ x ∈ vals ys, 0 ≤ x.1 ∧ x.1 ≤ 1000) (hs : FrRow w w.heap.size A m L) (hm : m ≤ 1000000) (d i : Int) :
    Calls Tryz.prog 55 #[.slice A2 n2 c2, .slice A m c, .int .i64 d, .int .i64 i] w fun e w' => e = .returned (.int .i64 (slAddr (vals ys) L d i)) ∧ Below w.heap.size w w' := by
  have hlen := hs.len
  by_cases h1 : d < 0
  · have E : slAddr (vals ys) L d i = -1 := by unfold slAddr; rw [if_pos (Or.inl h1)]
    rw [E]
    clear hr hs E
    --@5
    go_enter Tryz.func55, Tryz.ntmps55
    go_wp2
    go_ret
    exact ⟨rfl, Below.refl _ _⟩
  by_cases h2 : (m : Int) ≤ d
  · have E : slAddr (vals ys) L d i = -1 := by unfold slAddr; rw [if_pos (Or.inr (Or.inl (by omega)))]
    rw [E]
    clear hr hs E
    --@6
    go_enter Tryz.func55, Tryz.ntmps55
    go_wp2
    go_ret
    exact ⟨rfl, Below.refl _ _⟩
  by_cases h3 : i < 0
  · have E : slAddr (vals ys) L d i = -1 := by unfold slAddr; rw [if_pos (Or.inr (Or.inr (Or.inl h3)))]
    rw [E]
    clear hr hs E
    --@7
    go_enter Tryz.func55, Tryz.ntmps55
    go_wp2
    go_ret
    exact ⟨rfl, Below.refl _ _⟩
  obtain ⟨b, off, x, rfl, hbl, hx, hc0, hc1, hc2⟩ := hs.at_ (j := d.toNat) (by omega)
  have hg : L.getD d.toNat fr0 = x := by rw [List.getD_eq_getElem?_getD, hx]; rfl
  have cs := ref_slsize (c2 := c2) hr hhi hn2 x
  have hz := slSize_range (vals ys) hl x
  have E : slAddr (vals ys) L d i = if slSize (vals ys) x ≤ i then -1 else x.at_ + 2 + i := by
    unfold slAddr; rw [hg]
    by_cases h4 : slSize (vals ys) x ≤ i
    · rw [if_pos h4, if_pos (Or.inr (Or.inr (Or.inr h4)))]
    · rw [if_neg h4, if_neg (by omega)]
  rw [E]
  generalize slSize (vals ys) x = z at *
  obtain ⟨xa, xf, xl⟩ := x
  simp only at *
  have HC : Hid (∀ W, Below w.heap.size w W → W.cell? ⟨b, off + d.toNat * 3, none⟩ = some (.int .i64 xa)) := hidb (fun W hb => (hb.cell (p := ⟨b, off + d.toNat * 3, none⟩) hbl).trans hc0)
  have f1 : d < (m : Int) := by omega
  have f2 : 0 ≤ d := by omega
  clear hr hs E hg hx
  by_cases h4 : z ≤ i
  · rw [if_pos h4]
    --@8
    go_enter Tryz.func55, Tryz.ntmps55
    go_wp2_with (first | (go_at_call 51; (with_reducible refine cs.mono ?_); rintro e w1 ⟨rfl, hb1⟩))
    go_ret
    exact ⟨rfl, hb1⟩
  · rw [if_neg h4]
    have hw : wrap64 (xa + 2 + i) = xa + 2 + i := by unfold wrap64; omega
    have hw0 : wrap64 (xa + 2) = xa + 2 := by unfold wrap64; omega
    clear hz
    --@9
    go_enter Tryz.func55, Tryz.ntmps55
    go_wp2_with (first | (go_at_call 51; (with_reducible refine cs.mono ?_); rintro e w1 ⟨rfl, hb1⟩; have q0 := HC.out _ hb1))
    go_ret
    exact ⟨by (first | rfl | (rw [hw]; rfl)), hb1⟩
end

theorem ref_slmay (v : VlV) (hk : v.kind < 256) (hb : v.bits < 18446744073709551616) (w : World) (r : Bool) (hr : vMay v = r) :
    Calls Tryz.prog 56 #[vlC v] w fun e w' => e = .returned (.bool r) ∧ Below w.heap.size w w' := by
  obtain ⟨k, b, d, i⟩ := v
  have hb0 := belF_al (Below.refl w.heap.size w) (.cells #[.int .u8 (k : Int), .int .u64 (b : Int), .int .i64 d, .int .i64 i] 77)
  unfold vMay at hr
  simp only at hr hk hb
  unfold vlC
  simp only
  have HB := hidb hb0
  clear hb0
  by_cases h1 : 2 < k
  · rw [decide_eq_false (by omega), Bool.false_and] at hr
    subst hr
    --@10
    go_enter Tryz.func56, Tryz.ntmps56
    go_wp2
    go_ret
    exact ⟨rfl, HB.out⟩
  have hk3 : k = 0 ∨ k = 1 ∨ k = 2 := by omega
  rcases hk3 with rfl | rfl | rfl
  · by_cases h2 : b = 0
    · subst h2
      rw [decide_eq_true (by omega), Bool.true_and, if_pos (by omega)] at hr
      by_cases h3 : d = 0
      · by_cases h4 : i = 0
        · rw [decide_eq_true ⟨h3, h4⟩] at hr
          subst h3 h4 hr
          --@11
          go_enter Tryz.func56, Tryz.ntmps56
          go_wp2
          go_ret
          exact ⟨rfl, HB.out⟩
        · rw [decide_eq_false (fun h => h4 h.2)] at hr
          have h4b : (i == 0) = false := by simpa using h4
          subst h3 hr
          --@12
          go_enter Tryz.func56, Tryz.ntmps56
          go_wp2
          go_ret
          exact ⟨by (first | rfl | simp), HB.out⟩
      · rw [decide_eq_false (fun h => h3 h.1)] at hr
        have h3b : (d == 0) = false := by simpa using h3
        subst hr
        --@13
        go_enter Tryz.func56, Tryz.ntmps56
        go_wp2
        go_ret
        exact ⟨by (first | rfl | simp), HB.out⟩
    · rw [decide_eq_false (by omega), Bool.false_and] at hr
      have h2b : ((b : Int) != 0) = true := by simp; omega
      subst hr
      --@14
      go_enter Tryz.func56, Tryz.ntmps56
      go_wp2
      go_ret
      exact ⟨rfl, HB.out⟩
  · rw [decide_eq_true (by omega), Bool.true_and, if_pos (by omega)] at hr
    by_cases h3 : d = 0
    · by_cases h4 : i = 0
      · rw [decide_eq_true ⟨h3, h4⟩] at hr
        subst h3 h4 hr
        --@15
        go_enter Tryz.func56, Tryz.ntmps56
        go_wp2
        go_ret
        exact ⟨rfl, HB.out⟩
      · rw [decide_eq_false (fun h => h4 h.2)] at hr
        have h4b : (i == 0) = false := by simpa using h4
        subst h3 hr
        --@16
        go_enter Tryz.func56, Tryz.ntmps56
        go_wp2
        go_ret
        exact ⟨by (first | rfl | simp), HB.out⟩
    · rw [decide_eq_false (fun h => h3 h.1)] at hr
      have h3b : (d == 0) = false := by simpa using h3
      subst hr
      --@17
      go_enter Tryz.func56, Tryz.ntmps56
      go_wp2
      go_ret
      exact ⟨by (first | rfl | simp), HB.out⟩
  · by_cases h2 : b = 0
    · subst h2
      rw [decide_eq_true (by omega), Bool.true_and, if_neg (by omega)] at hr
      by_cases h3 : 0 ≤ d
      · have hr2 : decide (0 ≤ i) = r := by rw [← hr, decide_eq_decide]; omega
        clear hr
        --@18
        go_enter Tryz.func56, Tryz.ntmps56
        go_wp2
        go_ret
        exact ⟨by (first | exact congrArg Ending.returned (congrArg Value.bool hr2) | (rw [← hr2]; rfl)), HB.out⟩
      · rw [decide_eq_false (by omega)] at hr
        subst hr
        --@19
        go_enter Tryz.func56, Tryz.ntmps56
        go_wp2
        go_ret
        exact ⟨rfl, HB.out⟩
    · rw [decide_eq_false (by omega), Bool.false_and] at hr
      have h2b : ((b : Int) != 0) = true := by simp; omega
      subst hr
      --@20
      go_enter Tryz.func56, Tryz.ntmps56
      go_wp2
      go_ret
      exact ⟨rfl, HB.out⟩
end Go.Proofs.YtlniakcoikhilaaGreatDoor

/- What the document's own Find of layer 16 (slots) returns. -/
namespace Go.Proofs.YtlniakcoikhilaaGreatDoor
open Go.RowKit
set_option linter.unusedVariables false

/-- What Find answers. -/
def findC : Option (Nat × Nat) → Value
  | none => .tuple #[.int .i64 0, .int .i64 0, .bool false]
  | some (d, i) => .tuple #[.int .i64 d, .int .i64 i, .bool true]

set_option maxRecDepth 100000 in
set_option maxHeartbeats 2000000 in
theorem ref_slfind {w : World} {A2 : Option Addr} {n2 c2 lo' hi' : Nat} {ys : List FnV} {A : Option Addr} {m c : Nat} {L : List FrV} (hr : FnRow w lo' hi' A2 n2 ys) (hhi : hi' ≤ w.heap.size) (hn2 : n2 ≤ 1000) (hl : ∀ x ∈ vals ys, 0 ≤ x.1 ∧ x.1 ≤ 1000) (hs : FrRow w w.heap.size A m L) (hm : m ≤ 1000000) (a : Int) :
    Calls Tryz.prog 77 #[.slice A2 n2 c2, .slice A m c, .int .i64 a] w fun e w' => e = .returned (findC (slFind (vals ys) 0 L a)) ∧ Below w.heap.size w w' := by
  have HS := hidb hs
  have HL := hidb hl
  have KS : Hid (∀ W x, Below w.heap.size w W → Calls Tryz.prog 51 #[.slice A2 n2 c2, .agg #[.int .i64 x.at_, .int .i64 x.fn, .int .i64 x.link]] W fun e w' => e = .returned (.int .i64 (slSize (vals ys) x)) ∧ Below W.heap.size W w') := hidb (fun W x hb => ref_slsize (hr.below (hb.mono hhi)) (Nat.le_trans hhi hb.size) hn2 x)
  clear hr hl hs
  go_enter Tryz.func77, Tryz.ntmps77
  go_wp2
  go_loopw [13, 9, 10] (fun k _ _ wr => ∃ j : Nat, j ≤ m ∧ k = .int .i64 j ∧ Hid (slFind (vals ys) 0 L a = slFind (vals ys) j (L.drop j) a) ∧ Hid (Below w.heap.size w wr)) (fun k _ _ _ => (m - intOf k).toNat)
  case atStart => exact ⟨0, by omega, rfl, hidb rfl, hidb (Below.refl _ _)⟩
  case round =>
    obtain ⟨j, hj, rfl, HF, HB⟩ := hrel
    by_cases hlt : j < m
    · obtain ⟨b, off, x, rfl, hbl, hx, hc0, hc1, hc2⟩ := HS.out.at_ hlt
      have HX := hidb hx
      have HC : Hid (∀ W, Below w.heap.size w W → W.cell? ⟨b, off + j * 3, none⟩ = some (.int .i64 x.at_) ∧ W.cell? ⟨b, off + j * 3 + 1, none⟩ = some (.int .i64 x.fn) ∧ W.cell? ⟨b, off + j * 3 + 2, none⟩ = some (.int .i64 x.link)) := hidb (fun W hb => ⟨(hb.cell (p := ⟨b, off + j * 3, none⟩) hbl).trans hc0, (hb.cell (p := ⟨b, off + j * 3 + 1, none⟩) hbl).trans hc1, (hb.cell (p := ⟨b, off + j * 3 + 2, none⟩) hbl).trans hc2⟩)
      have ks := fun W hb => KS.out W x hb
      have hz := slSize_range (vals ys) HL.out x
      obtain ⟨z, hze⟩ : ∃ z, slSize (vals ys) x = z := ⟨_, rfl⟩
      rw [hze] at ks hz
      have HSt := hidb (slFind_at (l := vals ys) (a := a) hx j)
      rw [hze] at HSt
      obtain ⟨xa, xf, xl⟩ := x
      simp only at *
      have KSX := hidb ks
      have hi0 : (0 : Int) ≤ (j : Int) := by omega
      have hi1 : (j : Int) < (m : Int) := by omega
      have hz0 := hz.1
      have HZ := hidb hz
      clear hx hc0 hc1 hc2 ks hze hz
      go_wp2
      go_loopw [10] (fun v wq => ∃ i : Nat, (i : Int) ≤ z ∧ v = .int .i64 i ∧ Hid (∀ i2 : Nat, i2 < i → xa + 2 + (i2 : Int) ≠ a) ∧ Hid (Below w.heap.size w wq)) (fun v _ => (z - intOf v).toNat)
      case atStart => exact ⟨0, by omega, rfl, hidb (fun i2 h => absurd h (Nat.not_lt_zero _)), HB⟩
      case round =>
        obtain ⟨i, hiz, rfl, HN, HBQ⟩ := hrel
        obtain ⟨q0, q1, q2⟩ := HC.out _ HBQ.out
        by_cases hil : (i : Int) < z
        · have hzz := HZ.out.2.2 (by omega)
          have hw0 : wrap64 (xa + 2) = xa + 2 := by unfold wrap64; omega
          have hw1 : wrap64 (xa + 2 + (i : Int)) = xa + 2 + (i : Int) := by have := HZ.out; unfold wrap64; omega
          by_cases heq : xa + 2 + (i : Int) = a
          · have HR : Hid (slFind (vals ys) 0 L a = some (j, i)) := hidb (by
              rw [HF.out, HSt.out, if_pos (by omega)]
              congr 2; omega)
            have heqb : (xa + 2 + (i : Int) == a) = true := by simpa using heq
            have PR : Hid (∀ W, Below w.heap.size w W → Ending.returned (.tuple #[.int .i64 (j : Int), .int .i64 (i : Int), .bool true]) = Ending.returned (findC (slFind (vals ys) 0 L a)) ∧ Below w.heap.size w W) := hidb (fun W hb => ⟨by rw [HR.out]; rfl, hb⟩)
            clear heq hzz
            --@1
            go_wp2_with (first | (go_at_call 51; (with_reducible refine (KSX.out _ HBQ.out).mono ?_); rintro e w1 ⟨rfl, hb1⟩; obtain ⟨r0, r1, r2⟩ := HC.out _ (belF_tr HBQ.out hb1)))
            exact bodyPost_ret (v := .tuple #[.int .i64 (j : Int), .int .i64 (i : Int), .bool true]) (by simp [results, Tryz.results77, go_sem]) rfl (PR.out _ (belF_tr HBQ.out hb1))
          · have heqb : (xa + 2 + (i : Int) == a) = false := by simpa using heq
            have HN2 : Hid (∀ i2 : Nat, i2 < i + 1 → xa + 2 + (i2 : Int) ≠ a) := hidb (fun i2 h => by
              by_cases e : i2 = i
              · subst e; exact heq
              · exact HN.out i2 (by omega))
            have HIL := hidb hil
            have hz9 : z ≤ 1000 := HZ.out.2.1
            clear heq hzz
            --@2
            go_wp2_with (first | (go_at_call 51; (with_reducible refine (KSX.out _ HBQ.out).mono ?_); rintro e w1 ⟨rfl, hb1⟩; obtain ⟨r0, r1, r2⟩ := HC.out _ (belF_tr HBQ.out hb1)))
            go_roundw
            case rel => exact ⟨i + 1, by have := HIL.out; omega, by go_num, HN2, hidb (belF_tr HBQ.out hb1)⟩
            case measure => have := HIL.out; simp [intOf]; omega
        · have HNX : Hid (slFind (vals ys) 0 L a = slFind (vals ys) (j + 1) (L.drop (j + 1)) a) := hidb (by
            rw [HF.out, HSt.out, if_neg]
            rintro ⟨h1, h2⟩
            exact HN.out (a - (xa + 2)).toNat (by omega) (by omega))
          --@3
          go_wp2_with (first | (go_at_call 51; (with_reducible refine (KSX.out _ HBQ.out).mono ?_); rintro e w1 ⟨rfl, hb1⟩))
          go_roundw
          case rel => exact ⟨j + 1, by omega, by go_num, HNX, hidb (belF_tr HBQ.out hb1)⟩
          case measure => simp [intOf]; omega
    · have HR : Hid (slFind (vals ys) 0 L a = none) := hidb (by rw [HF.out, List.drop_of_length_le (by rw [HS.out.len]; omega)]; rfl)
      have PR : Hid (Ending.returned (.tuple #[.int .i64 0, .int .i64 0, .bool false]) = Ending.returned (findC (slFind (vals ys) 0 L a)) ∧ Below w.heap.size w wr) := hidb ⟨by rw [HR.out]; rfl, HB.out⟩
      --@4
      go_wp2
      exact bodyPost_ret (v := .tuple #[.int .i64 0, .int .i64 0, .bool false]) (by simp [results, Tryz.results77, go_sem]) rfl PR.out
end Go.Proofs.YtlniakcoikhilaaGreatDoor

/- What the document's own Get of layer 16 (slots) returns. -/
namespace Go.Proofs.YtlniakcoikhilaaGreatDoor
open Go.RowKit
set_option linter.unusedVariables false

/-- What a slot of frames in words has; the error's number. -/
def slGet (xs : List Nat) (l : Fns) (L : List FrV) (d i : Int) : VlV × Int :=
  if slAddr l L d i < 0 ∨ (xs.length : Int) ≤ slAddr l L d i then (vl0, 2)
  else if fPtr l (L.getD d.toNat fr0).fn i = false then (⟨1, xs.getD (slAddr l L d i).toNat 0, 0, 0⟩, 0)
  else if xs.getD (slAddr l L d i).toNat 0 = 0 then (vl0, 0)
  else if 4611686018427387904 < xs.getD (slAddr l L d i).toNat 0 then (vl0, 9)
  else match slFind l 0 L (xs.getD (slAddr l L d i).toNat 0 : Nat) with
    | none => (vl0, 9)
    | some (u, k) => if d < (u : Int) then (vl0, 9) else (⟨2, 0, u, k⟩, 0)
theorem four_cellsV (w : World) (b : Nat) (u0 u1 u2 u3 x0 x1 x2 x3 : Value) (h0 : w.cell? ⟨b, 0, none⟩ = some x0) (h1 : w.cell? ⟨b, 1, none⟩ = some x1) (h2 : w.cell? ⟨b, 2, none⟩ = some x2) (h3 : w.cell? ⟨b, 3, none⟩ = some x3) :
    ((((w.setCell ⟨b, 0, none⟩ u0).setCell ⟨b, 1, none⟩ u1).setCell ⟨b, 2, none⟩ u2).setCell ⟨b, 3, none⟩ u3).cell? ⟨b, 0, none⟩ = some u0 ∧ ((((w.setCell ⟨b, 0, none⟩ u0).setCell ⟨b, 1, none⟩ u1).setCell ⟨b, 2, none⟩ u2).setCell ⟨b, 3, none⟩ u3).cell? ⟨b, 1, none⟩ = some u1 ∧
    ((((w.setCell ⟨b, 0, none⟩ u0).setCell ⟨b, 1, none⟩ u1).setCell ⟨b, 2, none⟩ u2).setCell ⟨b, 3, none⟩ u3).cell? ⟨b, 2, none⟩ = some u2 ∧ ((((w.setCell ⟨b, 0, none⟩ u0).setCell ⟨b, 1, none⟩ u1).setCell ⟨b, 2, none⟩ u2).setCell ⟨b, 3, none⟩ u3).cell? ⟨b, 3, none⟩ = some u3 := by
  have o : ∀ (w : World) (i j : Nat) (v : Value), i ≠ j → (w.setCell ⟨b, i, none⟩ v).cell? ⟨b, j, none⟩ = w.cell? ⟨b, j, none⟩ := fun w i j v h => World.cell?_setCell_other w _ _ _ (fun e => h (by injection e))
  have s : ∀ (w : World) (i : Nat) (v x : Value), w.cell? ⟨b, i, none⟩ = some x → (w.setCell ⟨b, i, none⟩ v).cell? ⟨b, i, none⟩ = some v := fun w i v x h => World.cell?_setCell_same w _ _ h
  refine ⟨?_, ?_, ?_, ?_⟩
  · rw [o _ 3 0 _ (by decide), o _ 2 0 _ (by decide), o _ 1 0 _ (by decide), s _ 0 _ x0 h0]
  · rw [o _ 3 1 _ (by decide), o _ 2 1 _ (by decide), s _ 1 _ x1 (by rw [o _ 0 1 _ (by decide)]; exact h1)]
  · rw [o _ 3 2 _ (by decide), s _ 2 _ x2 (by rw [o _ 1 2 _ (by decide), o _ 0 2 _ (by decide)]; exact h2)]
  · rw [s _ 3 _ x3 (by rw [o _ 2 3 _ (by decide), o _ 1 3 _ (by decide), o _ 0 3 _ (by decide)]; exact h3)]
theorem bel_set4 {w W : World} {b : Nat} (h : Below w.heap.size w W) (hb : w.heap.size ≤ b) (u0 u1 u2 u3 : Value) : Below w.heap.size w ((((W.setCell ⟨b, 0, none⟩ u0).setCell ⟨b, 1, none⟩ u1).setCell ⟨b, 2, none⟩ u2).setCell ⟨b, 3, none⟩ u3) := (((h.setCell hb u0).setCell hb u1).setCell hb u2).setCell hb u3

set_option maxRecDepth 100000 in
set_option maxHeartbeats 4000000 in
theorem ref_slget {w : World} {A A2 A3 : Option Addr} {n c n2 c2 m c3 lo' hi' : Nat} {xs : List Nat} {ys : List FnV} {L : List FrV} (hs : Sl w w.heap.size A n (xs.map wv)) (hn : n ≤ 65536) (hx : Wd xs) (hr : FnRow w lo' hi' A2 n2 ys) (hhi : hi' ≤ w.heap.size) (hn2 : n2 ≤ 1000) (hl : ∀ x ∈ vals ys, 0 ≤ x.1 ∧ x.1 ≤ 1000) (hL : FrRow w w.heap.size A3 m L) (hm : m ≤ 1000000) (d i : Int) (hI : in64 i) :
    Calls Tryz.prog 52 #[.slice A n c, .slice A2 n2 c2, .slice A3 m c3, .int .i64 d, .int .i64 i] w fun e w' => e = .returned (.tuple #[vlC (slGet xs (vals ys) L d i).1, .int .i64 (slGet xs (vals ys) L d i).2]) ∧ Below w.heap.size w w' := by
  have hlen : xs.length = n := by have := hs.1; simpa using this
  have hlL := hL.len
  obtain ⟨W0, hW0⟩ : ∃ W0, W0 = w.alloc (.cells #[.int .u8 0, .int .u64 0, .int .i64 0, .int .i64 0] 77) := ⟨_, rfl⟩
  have hb0 : Below w.heap.size w W0 := by rw [hW0]; exact belF_al (Below.refl _ _) _
  have hz0 : W0.heap.size = w.heap.size + 1 := by rw [hW0]; simp
  have HQ : Hid (∀ W, Below W0.heap.size W0 W → (W.cell? ⟨w.heap.size, 0, none⟩ = some (.int .u8 0) ∧ W.cell? ⟨w.heap.size, 1, none⟩ = some (.int .u64 0) ∧ W.cell? ⟨w.heap.size, 2, none⟩ = some (.int .i64 0) ∧ W.cell? ⟨w.heap.size, 3, none⟩ = some (.int .i64 0)) ∧ W.frozen? ⟨w.heap.size, 0, none⟩ = false ∧ W.frozen? ⟨w.heap.size, 1, none⟩ = false ∧ W.frozen? ⟨w.heap.size, 2, none⟩ = false ∧ W.frozen? ⟨w.heap.size, 3, none⟩ = false) := hidb (fun W hb => by
    have hc : ∀ k, W.cell? ⟨w.heap.size, k, none⟩ = W0.cell? ⟨w.heap.size, k, none⟩ := fun k => hb.cell (by show w.heap.size < _; omega)
    have hf : ∀ k, W.frozen? ⟨w.heap.size, k, none⟩ = W0.frozen? ⟨w.heap.size, k, none⟩ := fun k => hb.frozen (by show w.heap.size < _; omega)
    refine ⟨⟨?_, ?_, ?_, ?_⟩, ?_, ?_, ?_, ?_⟩
    · rw [hc, hW0]; simp
    · rw [hc, hW0]; simp
    · rw [hc, hW0]; simp
    · rw [hc, hW0]; simp
    all_goals (rw [hf, hW0]; simp [go_sem]))
  have HE : Hid (∀ no k b u v, slGet xs (vals ys) L d i = (⟨k, b, u, v⟩, no) → ∀ W, Below w.heap.size w W → Ending.returned (.tuple #[.agg #[.int .u8 k, .int .u64 b, .int .i64 u, .int .i64 v], .int .i64 no]) = Ending.returned (.tuple #[vlC (slGet xs (vals ys) L d i).1, .int .i64 (slGet xs (vals ys) L d i).2]) ∧ Below w.heap.size w W) := hidb (fun no k b u v h W hb => ⟨by rw [h]; rfl, hb⟩)
  have HA : Hid (∀ W, Below w.heap.size w W → Calls Tryz.prog 55 #[.slice A2 n2 c2, .slice A3 m c3, .int .i64 d, .int .i64 i] W fun e w' => e = .returned (.int .i64 (slAddr (vals ys) L d i)) ∧ Below W.heap.size W w') := hidb (fun W hb => ref_sladdr (hr.below (hb.mono hhi)) (Nat.le_trans hhi hb.size) hn2 hl (hL.step hb) hm d i)
  have HF : Hid (∀ W a, Below w.heap.size w W → Calls Tryz.prog 77 #[.slice A2 n2 c2, .slice A3 m c3, .int .i64 a] W fun e w' => e = .returned (findC (slFind (vals ys) 0 L a)) ∧ Below W.heap.size W w') := hidb (fun W a hb => ref_slfind (hr.below (hb.mono hhi)) (Nat.le_trans hhi hb.size) hn2 hl (hL.step hb) hm a)
  have HP : Hid (∀ W f, Below w.heap.size w W → Calls Tryz.prog 57 #[.slice A2 n2 c2, .int .i64 f, .int .i64 i] W fun e w' => e = .returned (.bool (fPtr (vals ys) f i)) ∧ W = w') := hidb (fun W f hb => ref_fptrR A2 n2 c2 ys lo' _ W f i (hr.below (hb.mono hhi)) hn2 hI (fun x hx => (hl x hx).1))
  obtain ⟨a, ha⟩ : ∃ a, slAddr (vals ys) L d i = a := ⟨_, rfl⟩
  rw [ha] at HA
  have ca := HA.out W0 hb0
  rw [hW0] at ca
  have hadr : 0 ≤ a → 0 ≤ d ∧ d < (m : Int) ∧ a ≤ 1099511628000000 := fun h => by
    unfold slAddr at ha
    have hz := slSize_range (vals ys) hl (L.getD d.toNat fr0)
    split at ha <;> omega
  have HB := hidb hb0
  have HZ := hidb hz0
  rw [hW0] at HQ HB HZ
  by_cases h1 : a < 0 ∨ (n : Int) ≤ a
  · have PN := hidb (HE.out 2 0 0 0 0 (by unfold slGet; rw [ha, hlen, if_pos h1]; rfl))
    clear hs hx hr hl hL HA HF HP hW0 hb0 hz0 hadr HE
    by_cases h2 : a < 0
    · clear h1
      --@1
      go_enter Tryz.func52, Tryz.ntmps52
      go_wp2_with (first | (go_at_call 55; (with_reducible refine ca.mono ?_); rintro e w1 ⟨rfl, hb1⟩; obtain ⟨⟨r0, r1, r2, r3⟩, f0, f1, f2, f3⟩ := HQ.out _ hb1))
      obtain ⟨s0, s1, s2, s3⟩ := four_cellsV w1 w.heap.size (.int .u8 0) (.int .u64 0) (.int .i64 0) (.int .i64 0) _ _ _ _ r0 r1 r2 r3
      exact bodyPost_ret (v := .tuple #[.agg #[.int .u8 0, .int .u64 0, .int .i64 0, .int .i64 0], .int .i64 2]) (by simp [results, Tryz.results52, go_sem, s0, s1, s2, s3]) rfl (PN.out _ (bel_set4 (belF_tr HB.out hb1) (Nat.le_refl _) _ _ _ _))
    · have h3 : (n : Int) ≤ a := by omega
      clear h1
      --@2
      go_enter Tryz.func52, Tryz.ntmps52
      go_wp2_with (first | (go_at_call 55; (with_reducible refine ca.mono ?_); rintro e w1 ⟨rfl, hb1⟩; obtain ⟨⟨r0, r1, r2, r3⟩, f0, f1, f2, f3⟩ := HQ.out _ hb1))
      obtain ⟨s0, s1, s2, s3⟩ := four_cellsV w1 w.heap.size (.int .u8 0) (.int .u64 0) (.int .i64 0) (.int .i64 0) _ _ _ _ r0 r1 r2 r3
      exact bodyPost_ret (v := .tuple #[.agg #[.int .u8 0, .int .u64 0, .int .i64 0, .int .i64 0], .int .i64 2]) (by simp [results, Tryz.results52, go_sem, s0, s1, s2, s3]) rfl (PN.out _ (bel_set4 (belF_tr HB.out hb1) (Nat.le_refl _) _ _ _ _))
  obtain ⟨e0, e1, e2⟩ := hadr (by omega)
  obtain ⟨k, rfl⟩ : ∃ k : Nat, a = (k : Int) := ⟨a.toNat, by omega⟩
  have hkn : k < n := by omega
  obtain ⟨g, go, rfl, hgl, hgc⟩ := sl_getD hs hkn
  obtain ⟨b, off, x, rfl, hbl, hxx, hc0, hc1, hc2⟩ := hL.at_ (j := d.toNat) (by omega)
  have hgd : L.getD d.toNat fr0 = x := by rw [List.getD_eq_getElem?_getD, hxx]; rfl
  obtain ⟨xa, xf, xl⟩ := x
  simp only at hc0 hc1 hc2
  obtain ⟨u, hu⟩ : ∃ u, xs.getD k 0 = u := ⟨_, rfl⟩
  have hu2 : u < 18446744073709551616 := by
    rw [← hu, List.getD_eq_getElem?_getD, List.getElem?_eq_getElem (by omega)]; exact hx _ (List.getElem_mem _)
  rw [hu] at hgc
  have HG : Hid (∀ W, Below w.heap.size w W → W.cell? ⟨b, off + d.toNat * 3 + 1, none⟩ = some (.int .i64 xf) ∧ W.cell? ⟨g, go + k, none⟩ = some (.int .u64 (u : Int))) := hidb (fun W hb => ⟨(hb.cell (p := ⟨b, off + d.toNat * 3 + 1, none⟩) hbl).trans hc1, (hb.cell (p := ⟨g, go + k, none⟩) hgl).trans hgc⟩)
  obtain ⟨pt, hpt⟩ : ∃ pt, fPtr (vals ys) xf i = pt := ⟨_, rfl⟩
  have cp := fun W hb => HP.out W xf hb
  rw [hpt] at cp
  have CP := hidb cp
  have HGET : Hid (slGet xs (vals ys) L d i = if pt = false then ((⟨1, u, 0, 0⟩, 0) : VlV × Int) else if u = 0 then (vl0, 0) else if 4611686018427387904 < u then (vl0, 9) else match slFind (vals ys) 0 L (u : Nat) with | none => (vl0, 9) | some (y, z) => if d < (y : Int) then (vl0, 9) else (⟨2, 0, y, z⟩, 0)) := hidb (by
    unfold slGet
    rw [ha, hlen, if_neg h1, hgd, Int.toNat_natCast, hu]
    simp only
    rw [hpt])
  have HBW : Hid (∀ W, Below (w.alloc (.cells #[.int .u8 0, .int .u64 0, .int .i64 0, .int .i64 0] 77)).heap.size (w.alloc (.cells #[.int .u8 0, .int .u64 0, .int .i64 0, .int .i64 0] 77)) W → Below w.heap.size w W) := hidb (fun W hb => belF_tr HB.out hb)
  have b1 : (k : Int) < (n : Int) := by omega
  have b2 : ¬ ((n : Int) ≤ (k : Int)) := by omega
  have b3 : ¬ ((k : Int) < 0) := by omega
  clear hs hx hr hl hL HA HP hW0 hb0 hz0 hadr ha hgd hu hxx hpt hc0 hc1 hc2 hgc h1 cp
  cases pt with
  | false =>
    have PN := hidb (HE.out 0 1 u 0 0 (by rw [HGET.out, if_pos rfl]))
    clear HE HGET HF
    --@3
    go_enter Tryz.func52, Tryz.ntmps52
    go_wp2_with (first
      | (go_at_call 55; (with_reducible refine ca.mono ?_); rintro e w1 ⟨rfl, hb1⟩; obtain ⟨⟨r0, r1, r2, r3⟩, f0, f1, f2, f3⟩ := HQ.out _ hb1; have HW1 := hidb (HBW.out _ hb1); obtain ⟨t0, t1⟩ := HG.out _ HW1.out)
      | (go_at_call 57; (with_reducible refine (CP.out _ HW1.out).mono ?_); rintro e w2 ⟨rfl, rfl⟩))
    obtain ⟨s0, s1, s2, s3⟩ := four_cellsV w1 w.heap.size (.int .u8 1) (.int .u64 (u : Int)) (.int .i64 0) (.int .i64 0) _ _ _ _ r0 r1 r2 r3
    exact bodyPost_ret (v := .tuple #[.agg #[.int .u8 1, .int .u64 (u : Int), .int .i64 0, .int .i64 0], .int .i64 0]) (by simp [results, Tryz.results52, go_sem, s0, s1, s2, s3]) rfl (PN.out _ (bel_set4 HW1.out (Nat.le_refl _) _ _ _ _))
  | true =>
    by_cases h2 : u = 0
    · subst h2
      have PN := hidb (HE.out 0 0 0 0 0 (by rw [HGET.out, if_neg (by simp), if_pos rfl]; rfl))
      clear HE HGET HF
      --@4
      go_enter Tryz.func52, Tryz.ntmps52
      go_wp2_with (first
        | (go_at_call 55; (with_reducible refine ca.mono ?_); rintro e w1 ⟨rfl, hb1⟩; obtain ⟨⟨r0, r1, r2, r3⟩, f0, f1, f2, f3⟩ := HQ.out _ hb1; have HW1 := hidb (HBW.out _ hb1); obtain ⟨t0, t1⟩ := HG.out _ HW1.out)
        | (go_at_call 57; (with_reducible refine (CP.out _ HW1.out).mono ?_); rintro e w2 ⟨rfl, rfl⟩))
      obtain ⟨s0, s1, s2, s3⟩ := four_cellsV w1 w.heap.size (.int .u8 0) (.int .u64 0) (.int .i64 0) (.int .i64 0) _ _ _ _ r0 r1 r2 r3
      exact bodyPost_ret (v := .tuple #[.agg #[.int .u8 0, .int .u64 0, .int .i64 0, .int .i64 0], .int .i64 0]) (by simp [results, Tryz.results52, go_sem, s0, s1, s2, s3]) rfl (PN.out _ (bel_set4 HW1.out (Nat.le_refl _) _ _ _ _))
    by_cases h3 : 4611686018427387904 < u
    · have PN := hidb (HE.out 9 0 0 0 0 (by rw [HGET.out, if_neg (by simp), if_neg h2, if_pos h3]; rfl))
      clear HE HGET HF
      have h2b : ((u : Int) == 0) = false := by simpa using h2
      --@5
      go_enter Tryz.func52, Tryz.ntmps52
      go_wp2_with (first
        | (go_at_call 55; (with_reducible refine ca.mono ?_); rintro e w1 ⟨rfl, hb1⟩; obtain ⟨⟨r0, r1, r2, r3⟩, f0, f1, f2, f3⟩ := HQ.out _ hb1; have HW1 := hidb (HBW.out _ hb1); obtain ⟨t0, t1⟩ := HG.out _ HW1.out)
        | (go_at_call 57; (with_reducible refine (CP.out _ HW1.out).mono ?_); rintro e w2 ⟨rfl, rfl⟩))
      obtain ⟨s0, s1, s2, s3⟩ := four_cellsV w1 w.heap.size (.int .u8 0) (.int .u64 0) (.int .i64 0) (.int .i64 0) _ _ _ _ r0 r1 r2 r3
      exact bodyPost_ret (v := .tuple #[.agg #[.int .u8 0, .int .u64 0, .int .i64 0, .int .i64 0], .int .i64 9]) (by simp [results, Tryz.results52, go_sem, s0, s1, s2, s3]) rfl (PN.out _ (bel_set4 HW1.out (Nat.le_refl _) _ _ _ _))
    have cf := fun W hb => HF.out W (u : Int) hb
    have h3' : u ≤ 4611686018427387904 := by omega
    have h2b : ((u : Int) == 0) = false := by simpa using h2
    cases hf : slFind (vals ys) 0 L (u : Int) with
    | none =>
      rw [hf] at cf
      have PN := hidb (HE.out 9 0 0 0 0 (by rw [HGET.out, if_neg (by simp), if_neg h2, if_neg h3, hf]; rfl))
      unfold findC at cf
      have CF := hidb cf
      clear HE HGET HF hf cf
      --@6
      go_enter Tryz.func52, Tryz.ntmps52
      go_wp2_with (first
        | (go_at_call 55; (with_reducible refine ca.mono ?_); rintro e w1 ⟨rfl, hb1⟩; obtain ⟨t0, t1⟩ := HG.out _ (HBW.out _ hb1); have HB1 := hidb hb1)
        | (go_at_call 57; (with_reducible refine (CP.out _ (HBW.out _ hb1)).mono ?_); rintro e w2 ⟨rfl, rfl⟩)
        | (go_at_call 77; (with_reducible refine (CF.out _ (HBW.out _ HB1.out)).mono ?_); rintro e w3 ⟨rfl, hb3⟩; obtain ⟨⟨r0, r1, r2, r3⟩, f0, f1, f2, f3⟩ := HQ.out _ (belF_tr HB1.out hb3); have HW1 := hidb (HBW.out _ (belF_tr HB1.out hb3))))
      obtain ⟨s0, s1, s2, s3⟩ := four_cellsV w3 w.heap.size (.int .u8 0) (.int .u64 0) (.int .i64 0) (.int .i64 0) _ _ _ _ r0 r1 r2 r3
      exact bodyPost_ret (v := .tuple #[.agg #[.int .u8 0, .int .u64 0, .int .i64 0, .int .i64 0], .int .i64 9]) (by simp [results, Tryz.results52, go_sem, s0, s1, s2, s3]) rfl (PN.out _ (bel_set4 HW1.out (Nat.le_refl _) _ _ _ _))
    | some yz =>
      obtain ⟨y, z⟩ := yz
      rw [hf] at cf
      unfold findC at cf
      simp only at cf
      have CF := hidb cf
      by_cases h4 : d < (y : Int)
      · have PN := hidb (HE.out 9 0 0 0 0 (by rw [HGET.out, if_neg (by simp), if_neg h2, if_neg h3, hf]; simp only; rw [if_pos h4]; rfl))
        clear HE HGET HF hf cf
        --@7
        go_enter Tryz.func52, Tryz.ntmps52
        go_wp2_with (first
          | (go_at_call 55; (with_reducible refine ca.mono ?_); rintro e w1 ⟨rfl, hb1⟩; obtain ⟨t0, t1⟩ := HG.out _ (HBW.out _ hb1); have HB1 := hidb hb1)
          | (go_at_call 57; (with_reducible refine (CP.out _ (HBW.out _ hb1)).mono ?_); rintro e w2 ⟨rfl, rfl⟩)
          | (go_at_call 77; (with_reducible refine (CF.out _ (HBW.out _ HB1.out)).mono ?_); rintro e w3 ⟨rfl, hb3⟩; obtain ⟨⟨r0, r1, r2, r3⟩, f0, f1, f2, f3⟩ := HQ.out _ (belF_tr HB1.out hb3); have HW1 := hidb (HBW.out _ (belF_tr HB1.out hb3))))
        obtain ⟨s0, s1, s2, s3⟩ := four_cellsV w3 w.heap.size (.int .u8 0) (.int .u64 0) (.int .i64 0) (.int .i64 0) _ _ _ _ r0 r1 r2 r3
        exact bodyPost_ret (v := .tuple #[.agg #[.int .u8 0, .int .u64 0, .int .i64 0, .int .i64 0], .int .i64 9]) (by simp [results, Tryz.results52, go_sem, s0, s1, s2, s3]) rfl (PN.out _ (bel_set4 HW1.out (Nat.le_refl _) _ _ _ _))
      · have PN := hidb (HE.out 0 2 0 (y : Int) (z : Int) (by rw [HGET.out, if_neg (by simp), if_neg h2, if_neg h3, hf]; simp only; rw [if_neg h4]))
        clear HE HGET HF hf cf
        --@8
        go_enter Tryz.func52, Tryz.ntmps52
        go_wp2_with (first
          | (go_at_call 55; (with_reducible refine ca.mono ?_); rintro e w1 ⟨rfl, hb1⟩; obtain ⟨t0, t1⟩ := HG.out _ (HBW.out _ hb1); have HB1 := hidb hb1)
          | (go_at_call 57; (with_reducible refine (CP.out _ (HBW.out _ hb1)).mono ?_); rintro e w2 ⟨rfl, rfl⟩)
          | (go_at_call 77; (with_reducible refine (CF.out _ (HBW.out _ HB1.out)).mono ?_); rintro e w3 ⟨rfl, hb3⟩; obtain ⟨⟨r0, r1, r2, r3⟩, f0, f1, f2, f3⟩ := HQ.out _ (belF_tr HB1.out hb3); have HW1 := hidb (HBW.out _ (belF_tr HB1.out hb3))))
        obtain ⟨s0, s1, s2, s3⟩ := four_cellsV w3 w.heap.size (.int .u8 2) (.int .u64 0) (.int .i64 (y : Int)) (.int .i64 (z : Int)) _ _ _ _ r0 r1 r2 r3
        exact bodyPost_ret (v := .tuple #[.agg #[.int .u8 2, .int .u64 0, .int .i64 (y : Int), .int .i64 (z : Int)], .int .i64 0]) (by simp [results, Tryz.results52, go_sem, s0, s1, s2, s3]) rfl (PN.out _ (bel_set4 HW1.out (Nat.le_refl _) _ _ _ _))
end Go.Proofs.YtlniakcoikhilaaGreatDoor

/- What the document's own Put of layer 16 (slots) returns. -/
namespace Go.Proofs.YtlniakcoikhilaaGreatDoor
open Go.RowKit
set_option linter.unusedVariables false

/-- The words behind it; the error's number. -/
def slPut (xs : List Nat) (l : Fns) (L : List FrV) (d i : Int) (v : VlV) : List Nat × Int :=
  if slAddr l L d i < 0 ∨ (xs.length : Int) ≤ slAddr l L d i then (xs, 2)
  else if vMay v = false then (xs, 1)
  else if fPtr l (L.getD d.toNat fr0).fn i = decide (v.kind = 1) then (xs, 5)
  else if v.kind = 2 then
    if slAddr l L v.depth v.slot < 0 then (xs, 2)
    else if d < v.depth then (xs, 7)
    else (xs.set (slAddr l L d i).toNat (slAddr l L v.depth v.slot).toNat, 0)
  else (xs.set (slAddr l L d i).toNat v.bits, 0)
theorem slPut_length (xs : List Nat) (l : Fns) (L : List FrV) (d i : Int) (v : VlV) : (slPut xs l L d i v).1.length = xs.length := by
  unfold slPut; split; · rfl
  split; · rfl
  split; · rfl
  split
  · split; · rfl
    split; · rfl
    simp
  · simp
/-- Words that a call answers, and an error's number. -/
def ResW (w : World) (n : Nat) (r : List Nat × Int) (e : Ending) (w' : World) : Prop := ∃ B k, e = .returned (.tuple #[.slice B n k, .int .i64 r.2]) ∧ Sl w' w'.heap.size B n (r.1.map wv) ∧ (B = none → k = 0) ∧ Below w.heap.size w w'
theorem q_fptr {A : Option Addr} {n c : Nat} {ys : List FnV} {lo hi : Nat} {W : World} (q : Nat) (f i : Int) (hs : FnRow W lo hi A n ys) (hn : n ≤ 1000) (hI : in64 i) (h0 : ∀ x ∈ vals ys, 0 ≤ x.1) (b : Bool) (hb : fPtr (vals ys) f i = b) :
    Calls Tryz.prog 57 #[.slice A n c, .int .i64 f, .int .i64 i] (W.drewN q) fun e w'' => e = .returned (.bool b) ∧ ∃ m, w'' = W.drewN m := by
  rw [← hb]
  exact (ref_fptrR A n c ys lo hi (W.drewN q) f i (hs.drewN q) hn hI h0).mono fun e w' ⟨h1, h2⟩ => ⟨h1, q, h2.symm⟩

set_option maxRecDepth 100000 in
set_option maxHeartbeats 4000000 in
theorem ref_slput {w : World} {A A2 A3 : Option Addr} {n c n2 c2 m c3 lo' hi' : Nat} {xs : List Nat} {ys : List FnV} {L : List FrV} (hs : Sl w w.heap.size A n (xs.map wv)) (hA0 : A = none → c = 0) (hn : n ≤ 65536) (hr : FnRow w lo' hi' A2 n2 ys) (hhi : hi' ≤ w.heap.size) (hn2 : n2 ≤ 1000) (hl : ∀ x ∈ vals ys, 0 ≤ x.1 ∧ x.1 ≤ 1000) (hL : FrRow w w.heap.size A3 m L) (hm : m ≤ 1000000) (d i : Int) (hI : in64 i) (v : VlV) (hk : v.kind < 256) (hb : v.bits < 18446744073709551616) :
    Calls Tryz.prog 26 #[.slice A n c, .slice A2 n2 c2, .slice A3 m c3, .int .i64 d, .int .i64 i, vlC v] w (ResW w n (slPut xs (vals ys) L d i v)) := by
  have hlen : xs.length = n := by have := hs.1; simpa using this
  have hlL := hL.len
  obtain ⟨i0, hi, hz0, hz1, hz2⟩ := info_parts info_u64
  obtain ⟨vk, vb, vd, vi⟩ := v
  simp only at hk hb
  have hb0 : Below w.heap.size w (w.alloc (.cells #[.int .u8 (vk : Int), .int .u64 (vb : Int), .int .i64 vd, .int .i64 vi] 77)) := belF_al (Below.refl _ _) _
  have HQ : Hid (∀ W, Below (w.alloc (.cells #[.int .u8 (vk : Int), .int .u64 (vb : Int), .int .i64 vd, .int .i64 vi] 77)).heap.size (w.alloc (.cells #[.int .u8 (vk : Int), .int .u64 (vb : Int), .int .i64 vd, .int .i64 vi] 77)) W → W.cell? ⟨w.heap.size, 0, none⟩ = some (.int .u8 (vk : Int)) ∧ W.cell? ⟨w.heap.size, 1, none⟩ = some (.int .u64 (vb : Int)) ∧ W.cell? ⟨w.heap.size, 2, none⟩ = some (.int .i64 vd) ∧ W.cell? ⟨w.heap.size, 3, none⟩ = some (.int .i64 vi)) := hidb (fun W hb => ⟨(hb.cell (by simp)).trans (by simp), (hb.cell (by simp)).trans (by simp), (hb.cell (by simp)).trans (by simp), (hb.cell (by simp)).trans (by simp)⟩)
  have HA : Hid (∀ W d i, Below w.heap.size w W → Calls Tryz.prog 55 #[.slice A2 n2 c2, .slice A3 m c3, .int .i64 d, .int .i64 i] W fun e w' => e = .returned (.int .i64 (slAddr (vals ys) L d i)) ∧ Below W.heap.size W w') := hidb (fun W d i hb => ref_sladdr (hr.below (hb.mono hhi)) (Nat.le_trans hhi hb.size) hn2 hl (hL.step hb) hm d i)
  have HM : Hid (∀ W, Calls Tryz.prog 56 #[.agg #[.int .u8 (vk : Int), .int .u64 (vb : Int), .int .i64 vd, .int .i64 vi]] W fun e w' => e = .returned (.bool (vMay ⟨vk, vb, vd, vi⟩)) ∧ Below W.heap.size W w') := hidb (fun W => ref_slmay ⟨vk, vb, vd, vi⟩ hk hb W _ rfl)
  have HP : Hid (∀ W q f b, Below w.heap.size w W → fPtr (vals ys) f i = b → Calls Tryz.prog 57 #[.slice A2 n2 c2, .int .i64 f, .int .i64 i] (W.drewN q) fun e w'' => e = .returned (.bool b) ∧ ∃ m, w'' = W.drewN m) := hidb (fun W q f b hb h => q_fptr q f i (hr.below (hb.mono hhi)) hn2 hI (fun x hx => (hl x hx).1) b h)
  have HSL : Hid (∀ W, Below w.heap.size w W → Sl W W.heap.size A n (xs.map wv)) := hidb (fun W hb => (hs.below hb).more hb.size)
  have HSAME : Hid (∀ W no, Below w.heap.size w W → slPut xs (vals ys) L d i ⟨vk, vb, vd, vi⟩ = (xs, no) → ResW w n (slPut xs (vals ys) L d i ⟨vk, vb, vd, vi⟩) (.returned (.tuple #[.slice A n c, .int .i64 no])) W) := hidb (fun W no hb h => by rw [h]; exact ⟨A, c, rfl, HSL.out W hb, hA0, hb⟩)
  have HTB : Hid (∀ d i t, slAddr (vals ys) L d i = t → t ≤ 1099511628000000) := hidb (fun d i t ht => by
    unfold slAddr at ht
    have hz := slSize_range (vals ys) hl (L.getD d.toNat fr0)
    split at ht <;> omega)
  obtain ⟨a, ha⟩ : ∃ a, slAddr (vals ys) L d i = a := ⟨_, rfl⟩
  have ca := HA.out _ d i hb0
  rw [ha] at ca
  have hadr : 0 ≤ a → 0 ≤ d ∧ d < (m : Int) ∧ a ≤ 1099511628000000 := fun h => by
    unfold slAddr at ha
    have hz := slSize_range (vals ys) hl (L.getD d.toNat fr0)
    split at ha <;> omega
  have HB := hidb hb0
  unfold vlC
  simp only
  by_cases h1 : a < 0 ∨ (n : Int) ≤ a
  · have PN := hidb (fun W hb => HSAME.out W 2 hb (by unfold slPut; rw [ha, hlen, if_pos h1]))
    clear hs hr hl hL HA HP hb0 hadr HSAME HSL HM HTB
    by_cases h2 : a < 0
    · clear h1
      --@1
      go_enter Tryz.func26, Tryz.ntmps26
      go_wp2_with (first | (go_at_call 55; (with_reducible refine ca.mono ?_); rintro e w1 ⟨rfl, hb1⟩))
      go_ret2
      exact PN.out _ (belF_tr HB.out hb1)
    · have h3 : (n : Int) ≤ a := by omega
      clear h1
      --@2
      go_enter Tryz.func26, Tryz.ntmps26
      go_wp2_with (first | (go_at_call 55; (with_reducible refine ca.mono ?_); rintro e w1 ⟨rfl, hb1⟩))
      go_ret2
      exact PN.out _ (belF_tr HB.out hb1)
  obtain ⟨e0, e1, e2⟩ := hadr (by omega)
  obtain ⟨k, rfl⟩ : ∃ k : Nat, a = (k : Int) := ⟨a.toNat, by omega⟩
  have hkn : k < n := by omega
  have b2 : ¬ ((n : Int) ≤ (k : Int)) := by omega
  have b3 : ¬ ((k : Int) < 0) := by omega
  have HB1 : Hid (∀ W, Below (w.alloc (.cells #[.int .u8 (vk : Int), .int .u64 (vb : Int), .int .i64 vd, .int .i64 vi] 77)).heap.size (w.alloc (.cells #[.int .u8 (vk : Int), .int .u64 (vb : Int), .int .i64 vd, .int .i64 vi] 77)) W → Below w.heap.size w W) := hidb (fun W hb => belF_tr HB.out hb)
  have cm := HM.out
  cases hmay : vMay ⟨vk, vb, vd, vi⟩ with
  | false =>
    have PN := hidb (fun W hb => HSAME.out W 1 hb (by unfold slPut; rw [ha, hlen, if_neg h1, if_pos hmay]))
    rw [hmay] at cm
    clear hs hr hl hL HA HP hb0 hadr HSAME HSL HM hmay h1 HTB
    --@3
    go_enter Tryz.func26, Tryz.ntmps26
    go_wp2_with (first
      | (go_at_call 55; (with_reducible refine ca.mono ?_); rintro e w1 ⟨rfl, hb1⟩; obtain ⟨r0, r1, r2, r3⟩ := HQ.out _ hb1)
      | (go_at_call 56; (with_reducible refine (cm _).mono ?_); rintro e w2 ⟨rfl, hb2⟩))
    go_ret2
    exact PN.out _ (HB1.out _ (belF_tr hb1 hb2))
  | true =>
    rw [hmay] at cm
    obtain ⟨b, off, x, rfl, hbl, hxx, hc0, hc1, hc2⟩ := hL.at_ (j := d.toNat) (by omega)
    have hgd : L.getD d.toNat fr0 = x := by rw [List.getD_eq_getElem?_getD, hxx]; rfl
    obtain ⟨xa, xf, xl⟩ := x
    simp only at hc0 hc1 hc2
    have HG : Hid (∀ W, Below w.heap.size w W → W.cell? ⟨b, off + d.toNat * 3 + 1, none⟩ = some (.int .i64 xf)) := hidb (fun W hb => (hb.cell (p := ⟨b, off + d.toNat * 3 + 1, none⟩) hbl).trans hc1)
    obtain ⟨pt, hpt⟩ : ∃ pt, fPtr (vals ys) xf i = pt := ⟨_, rfl⟩
    have CP : Hid (∀ W q, Below w.heap.size w W → Calls Tryz.prog 57 #[.slice A2 n2 c2, .int .i64 xf, .int .i64 i] (W.drewN q) fun e w'' => e = .returned (.bool pt) ∧ ∃ m, w'' = W.drewN m) := hidb (fun W q hb => HP.out W q xf pt hb hpt)
    have HPUT : Hid (slPut xs (vals ys) L d i ⟨vk, vb, vd, vi⟩ = if pt = decide (vk = 1) then (xs, (5 : Int)) else if vk = 2 then (if slAddr (vals ys) L vd vi < 0 then (xs, 2) else if d < vd then (xs, 7) else (xs.set k (slAddr (vals ys) L vd vi).toNat, 0)) else (xs.set k vb, 0)) := hidb (by
      unfold slPut
      rw [ha, hlen, if_neg h1, if_neg (by rw [hmay]; simp), hgd]
      simp only
      rw [hpt, Int.toNat_natCast])
    have hkd : decide (vk = 1) = ((vk : Int) == 1) := by rw [Bool.eq_iff_iff]; simp; omega
    have f1 : d < (m : Int) := by omega
    have f2 : 0 ≤ d := by omega
    have HMV : vk = 0 ∨ vk = 1 ∨ vk = 2 := by unfold vMay at hmay; simp at hmay; omega
    clear hs hr hl hL HP hb0 hadr HM hmay h1 hgd hxx hpt hc0 hc1 hc2 ha
    by_cases g1 : pt = decide (vk = 1)
    · have PN := hidb (fun W hb => HSAME.out W 5 hb (by rw [HPUT.out, if_pos g1]))
      have g1b : (pt == ((vk : Int) == 1)) = true := by rw [← hkd, g1]; simp
      clear HSAME HPUT HSL HA HTB
      --@4
      go_enter Tryz.func26, Tryz.ntmps26
      go_wp2_with (first
        | (go_at_call 55; (with_reducible refine ca.mono ?_); rintro e w1 ⟨rfl, hb1⟩; obtain ⟨r0, r1, r2, r3⟩ := HQ.out _ hb1)
        | (go_at_call 56; (with_reducible refine (cm _).mono ?_); rintro e w2 ⟨rfl, hb2⟩; have HB2 := hidb (belF_tr hb1 hb2); have r4 := HG.out _ (HB1.out _ HB2.out); obtain ⟨r5, r6, r7, r8⟩ := HQ.out _ HB2.out))
      go_quiet (first | (go_at_call 57; (with_reducible exact CP.out _ _ (HB1.out _ HB2.out))))
      obtain ⟨wz, hwz⟩ : ∃ wz, wz = w2.drewN nq := ⟨_, rfl⟩
      have hbz : Below w2.heap.size w2 wz := by rw [hwz]; exact belowN (Below.refl _ _) _
      rw [← hwz]
      clear hwz r0 r1 r2 r3 r4 r5 r6 r7 r8
      obtain ⟨r0, r1, r2, r3⟩ := HQ.out _ (belF_tr HB2.out hbz)
      have HBZ := hidb (HB1.out _ (belF_tr HB2.out hbz))
      clear hbz
      go_wp2
      go_ret2
      exact PN.out _ HBZ.out
    · have g1b : (pt == ((vk : Int) == 1)) = false := by rw [← hkd]; simpa using g1
      have HON : Hid (∀ u ∈ xs.map wv, u.oneCell' = true) := hidb (fun u hu => by obtain ⟨x, _, rfl⟩ := List.mem_map.1 hu; rfl)
      have HXK : Hid ((xs.map wv)[k]? = some (.int .u64 (xs.getD k 0 : Nat))) := hidb (by rw [List.getElem?_map, List.getElem?_eq_getElem (by omega), List.getD_eq_getElem?_getD, List.getElem?_eq_getElem (by omega)]; rfl)
      have HFIN : Hid (∀ W W5 g kB (val : Nat), Below w.heap.size w W → W5.ownsRow W.heap.size 59 1 (.slice (some ⟨g, 0, none⟩) n kB) n (xs.map wv) → Below W.heap.size W W5 → slPut xs (vals ys) L d i ⟨vk, vb, vd, vi⟩ = (xs.set k val, 0) → ResW w n (slPut xs (vals ys) L d i ⟨vk, vb, vd, vi⟩) (.returned (.tuple #[.slice (some ⟨g, 0, none⟩) n kB, .int .i64 0])) (W5.setCell ⟨g, k, none⟩ (.int .u64 (val : Int)))) := hidb (fun W W5 g kB val hb ho hb5 h => by
        rw [h]
        have hst := (ho.stored k (wv val)).1
        have hg : W.heap.size ≤ g := (ho.lt g rfl).1
        refine ⟨_, kB, rfl, ?_, fun h => (by cases h), (hb.trans (hb5.mono hb.size)).setCell (p := ⟨g, k, none⟩) (Nat.le_trans hb.size hg) _⟩
        rw [List.map_set]
        exact Sl.of_own hst)
      by_cases g2 : vk = 2
      · have g2b : ((vk : Int) == 2) = true := by rw [g2]; rfl
        have G2 := hidb g2
        clear g2
        have cv := fun W hb => HA.out W vd vi hb
        obtain ⟨t, ht⟩ : ∃ t, slAddr (vals ys) L vd vi = t := ⟨_, rfl⟩
        rw [ht] at cv HPUT
        have CV := hidb cv
        have htb : t ≤ 1099511628000000 := HTB.out vd vi t ht
        by_cases g3 : t < 0
        · have PN := hidb (fun W hb => HSAME.out W 2 hb (by rw [HPUT.out, if_neg g1, if_pos G2.out, if_pos g3]))
          clear HSAME HPUT HSL HA cv ht HFIN HTB
          --@5
          go_enter Tryz.func26, Tryz.ntmps26
          go_wp2_with (first
            | (go_at_call 55; (with_reducible refine ca.mono ?_); rintro e w1 ⟨rfl, hb1⟩; obtain ⟨r0, r1, r2, r3⟩ := HQ.out _ hb1)
            | (go_at_call 56; (with_reducible refine (cm _).mono ?_); rintro e w2 ⟨rfl, hb2⟩; have HB2 := hidb (belF_tr hb1 hb2); have r4 := HG.out _ (HB1.out _ HB2.out); obtain ⟨r5, r6, r7, r8⟩ := HQ.out _ HB2.out))
          go_quiet (first | (go_at_call 57; (with_reducible exact CP.out _ _ (HB1.out _ HB2.out))))
          obtain ⟨wz, hwz⟩ : ∃ wz, wz = w2.drewN nq := ⟨_, rfl⟩
          have hbz : Below w2.heap.size w2 wz := by rw [hwz]; exact belowN (Below.refl _ _) _
          rw [← hwz]
          clear hwz r0 r1 r2 r3 r4 r5 r6 r7 r8
          obtain ⟨r0, r1, r2, r3⟩ := HQ.out _ (belF_tr HB2.out hbz)
          have HBZ := hidb (HB1.out _ (belF_tr HB2.out hbz))
          clear hbz
          go_wp2_with (first
            | (go_at_call 55; (with_reducible refine (CV.out _ HBZ.out).mono ?_); rintro e w3 ⟨rfl, hb3⟩))
          go_ret2
          exact PN.out _ (belF_tr HBZ.out hb3)
        · by_cases g4 : d < vd
          · have PN := hidb (fun W hb => HSAME.out W 7 hb (by rw [HPUT.out, if_neg g1, if_pos G2.out, if_neg g3, if_pos g4]))
            clear HSAME HPUT HSL HA cv ht HFIN HTB
            --@6
            go_enter Tryz.func26, Tryz.ntmps26
            go_wp2_with (first
              | (go_at_call 55; (with_reducible refine ca.mono ?_); rintro e w1 ⟨rfl, hb1⟩; obtain ⟨r0, r1, r2, r3⟩ := HQ.out _ hb1)
              | (go_at_call 56; (with_reducible refine (cm _).mono ?_); rintro e w2 ⟨rfl, hb2⟩; have HB2 := hidb (belF_tr hb1 hb2); have r4 := HG.out _ (HB1.out _ HB2.out); obtain ⟨r5, r6, r7, r8⟩ := HQ.out _ HB2.out))
            go_quiet (first | (go_at_call 57; (with_reducible exact CP.out _ _ (HB1.out _ HB2.out))))
            obtain ⟨wz, hwz⟩ : ∃ wz, wz = w2.drewN nq := ⟨_, rfl⟩
            have hbz : Below w2.heap.size w2 wz := by rw [hwz]; exact belowN (Below.refl _ _) _
            rw [← hwz]
            clear hwz r0 r1 r2 r3 r4 r5 r6 r7 r8
            obtain ⟨r0, r1, r2, r3⟩ := HQ.out _ (belF_tr HB2.out hbz)
            have HBZ := hidb (HB1.out _ (belF_tr HB2.out hbz)); have HBY := hidb (belF_tr HB2.out hbz)
            clear hbz
            go_wp2_with (first
              | (go_at_call 55; (with_reducible refine (CV.out _ HBZ.out).mono ?_); rintro e w3 ⟨rfl, hb3⟩; obtain ⟨r4, r5, r6, r7⟩ := HQ.out _ (belF_tr HBY.out hb3)))
            go_ret2
            exact PN.out _ (belF_tr HBZ.out hb3)
          · obtain ⟨t, rfl⟩ : ∃ t2 : Nat, t = (t2 : Int) := ⟨t.toNat, by omega⟩
            have HVAL : Hid (slPut xs (vals ys) L d i ⟨vk, vb, vd, vi⟩ = (xs.set k t, 0)) := hidb (by rw [HPUT.out, if_neg g1, if_pos G2.out, if_neg g3, if_neg g4, Int.toNat_natCast])
            clear HSAME HPUT HA cv ht HTB
            --@7
            go_enter Tryz.func26, Tryz.ntmps26
            go_wp2_with (first
              | (go_at_call 55; (with_reducible refine ca.mono ?_); rintro e w1 ⟨rfl, hb1⟩; obtain ⟨r0, r1, r2, r3⟩ := HQ.out _ hb1)
              | (go_at_call 56; (with_reducible refine (cm _).mono ?_); rintro e w2 ⟨rfl, hb2⟩; have HB2 := hidb (belF_tr hb1 hb2); have r4 := HG.out _ (HB1.out _ HB2.out); obtain ⟨r5, r6, r7, r8⟩ := HQ.out _ HB2.out))
            go_quiet (first | (go_at_call 57; (with_reducible exact CP.out _ _ (HB1.out _ HB2.out))))
            obtain ⟨wz, hwz⟩ : ∃ wz, wz = w2.drewN nq := ⟨_, rfl⟩
            have hbz : Below w2.heap.size w2 wz := by rw [hwz]; exact belowN (Below.refl _ _) _
            rw [← hwz]
            clear hwz r0 r1 r2 r3 r4 r5 r6 r7 r8
            obtain ⟨r0, r1, r2, r3⟩ := HQ.out _ (belF_tr HB2.out hbz)
            have HBZ := hidb (HB1.out _ (belF_tr HB2.out hbz)); have HBY := hidb (belF_tr HB2.out hbz)
            clear hbz
            go_wp2_with (first
              | (go_at_call 55; (with_reducible refine (CV.out _ HBZ.out).mono ?_); rintro e w3 ⟨rfl, hb3⟩; obtain ⟨r4, r5, r6, r7⟩ := HQ.out _ (belF_tr HBY.out hb3); have HB3 := hidb (belF_tr HBZ.out hb3))
              | (at_builtin; go_loud (refine wpList_copy _ rfl _ _ 22 rfl 59 i0 (.int .u64 0) 8 Tryz.underlying22 hi hz0 hz1 hz2 rfl A n c (xs.map wv) rfl rfl (HSL.out _ HB3.out) hA0 HON.out (by unfold maxLen; omega) (by omega) ?_); go_loud (intro B kB w5 hown5 hb5; obtain ⟨g, cap, hv5, _, _⟩ := hown5.form (by omega); obtain ⟨rfl, rfl⟩ : B = some ⟨g, 0, none⟩ ∧ kB = cap := (by injection hv5 with h1 _ h3; exact ⟨h1, h3⟩); have hc5 : w5.cell? ⟨g, k, none⟩ = (xs.map wv)[k]? := hown5.cellAt k (by omega); rw [HXK.out] at hc5; have hf5 := hown5.frozenAt k; have HFF := hidb (HFIN.out _ _ _ _ t HB3.out hown5 hb5 HVAL.out); clear hown5 hb5 hv5)))
            go_ret2
            exact HFF.out
      · have HVAL : Hid (slPut xs (vals ys) L d i ⟨vk, vb, vd, vi⟩ = (xs.set k vb, 0)) := hidb (by rw [HPUT.out, if_neg g1, if_neg g2])
        have g2b : ((vk : Int) == 2) = false := by simp; omega
        clear HSAME HPUT HA HTB
        --@8
        go_enter Tryz.func26, Tryz.ntmps26
        go_wp2_with (first
          | (go_at_call 55; (with_reducible refine ca.mono ?_); rintro e w1 ⟨rfl, hb1⟩; obtain ⟨r0, r1, r2, r3⟩ := HQ.out _ hb1)
          | (go_at_call 56; (with_reducible refine (cm _).mono ?_); rintro e w2 ⟨rfl, hb2⟩; have HB2 := hidb (belF_tr hb1 hb2); have r4 := HG.out _ (HB1.out _ HB2.out); obtain ⟨r5, r6, r7, r8⟩ := HQ.out _ HB2.out))
        go_quiet (first | (go_at_call 57; (with_reducible exact CP.out _ _ (HB1.out _ HB2.out))))
        obtain ⟨wz, hwz⟩ : ∃ wz, wz = w2.drewN nq := ⟨_, rfl⟩
        have hbz : Below w2.heap.size w2 wz := by rw [hwz]; exact belowN (Below.refl _ _) _
        rw [← hwz]
        clear hwz r0 r1 r2 r3 r4 r5 r6 r7 r8
        obtain ⟨r0, r1, r2, r3⟩ := HQ.out _ (belF_tr HB2.out hbz)
        have HBZ := hidb (HB1.out _ (belF_tr HB2.out hbz))
        clear hbz
        go_wp2_with (first
          | (at_builtin; go_loud (refine wpList_copy _ rfl _ _ 22 rfl 59 i0 (.int .u64 0) 8 Tryz.underlying22 hi hz0 hz1 hz2 rfl A n c (xs.map wv) rfl rfl (HSL.out _ HBZ.out) hA0 HON.out (by unfold maxLen; omega) (by omega) ?_); go_loud (intro B kB w5 hown5 hb5; obtain ⟨g, cap, hv5, _, _⟩ := hown5.form (by omega); obtain ⟨rfl, rfl⟩ : B = some ⟨g, 0, none⟩ ∧ kB = cap := (by injection hv5 with h1 _ h3; exact ⟨h1, h3⟩); have hc5 : w5.cell? ⟨g, k, none⟩ = (xs.map wv)[k]? := hown5.cellAt k (by omega); rw [HXK.out] at hc5; have hf5 := hown5.frozenAt k; have HFF := hidb (HFIN.out _ _ _ _ vb HBZ.out hown5 hb5 HVAL.out); clear hown5 hb5 hv5)))
        go_ret2
        exact HFF.out
end Go.Proofs.YtlniakcoikhilaaGreatDoor

/- What the document's own All of layer 16 (slots) returns: rows of values. -/
namespace Go.Proofs.YtlniakcoikhilaaGreatDoor
open Go.RowKit
set_option linter.unusedVariables false

/-- What the first slots of a frame have; the first error's number. -/
def slRow (xs : List Nat) (l : Fns) (L : List FrV) (d k : Nat) : List VlV := (List.range k).map fun (i : Nat) => (slGet xs l L d i).1
def slErr (xs : List Nat) (l : Fns) (L : List FrV) (d k : Nat) : Int := (((List.range k).map fun (i : Nat) => (slGet xs l L d i).2).find? (fun e => e != 0)).getD 0
def slAllAux (xs : List Nat) (l : Fns) (L : List FrV) : Nat → List FrV → List (List VlV) → List (List VlV) × Int
  | _, [], acc => (acc, 0)
  | d, x :: r, acc => if slErr xs l L d (slSize l x).toNat = 0 then slAllAux xs l L (d + 1) r (acc ++ [slRow xs l L d (slSize l x).toNat]) else ([], slErr xs l L d (slSize l x).toNat)
/-- What all slots have; the error's number. -/
def slAll (xs : List Nat) (l : Fns) (L : List FrV) : List (List VlV) × Int := slAllAux xs l L 0 L []
theorem slRow_succ (xs : List Nat) (l : Fns) (L : List FrV) (d k : Nat) : slRow xs l L d (k + 1) = slRow xs l L d k ++ [(slGet xs l L d k).1] := by
  unfold slRow; rw [List.range_succ, List.map_append]; rfl
theorem slRow_length (xs : List Nat) (l : Fns) (L : List FrV) (d k : Nat) : (slRow xs l L d k).length = k := by unfold slRow; simp
theorem slErr_stop {xs : List Nat} {l : Fns} {L : List FrV} {d : Nat} {e : Int} (he : e ≠ 0) : ∀ (k i : Nat), i < k → slErr xs l L d i = 0 → (slGet xs l L d i).2 = e → slErr xs l L d k = e := by
  intro k i hi h0 hg
  unfold slErr at *
  obtain ⟨r, rfl⟩ : ∃ r, k = i + 1 + r := ⟨k - (i + 1), by omega⟩
  rw [List.range_add, List.map_append, List.find?_append, List.range_succ, List.map_append, List.find?_append]
  have h1 : ((List.range i).map fun (i : Nat) => (slGet xs l L d i).2).find? (fun e => e != 0) = none := by
    cases h : ((List.range i).map fun (i : Nat) => (slGet xs l L d i).2).find? (fun e => e != 0) with
    | none => rfl
    | some y =>
      rw [h] at h0
      have := List.find?_some h
      simp only [Option.getD_some] at h0
      rw [h0] at this
      simp at this
  rw [h1]
  simp [hg, he]
theorem slErr_succ {xs : List Nat} {l : Fns} {L : List FrV} {d i : Nat} (h0 : slErr xs l L d i = 0) (hg : (slGet xs l L d i).2 = 0) : slErr xs l L d (i + 1) = 0 := by
  unfold slErr at *
  rw [List.range_succ, List.map_append, List.find?_append]
  cases h : ((List.range i).map fun (i : Nat) => (slGet xs l L d i).2).find? (fun e => e != 0) with
  | none => simp [hg]
  | some y => rw [h] at h0; simpa using h0

/-- Rows of values. -/
def vlcells (v : VlV) : List Value := [.int .u8 v.kind, .int .u64 v.bits, .int .i64 v.depth, .int .i64 v.slot]
theorem vlcells_len (v : VlV) : (vlcells v).length = 4 := rfl
def VlRow (w : World) (B : Nat) (A : Option Addr) (n : Nat) (vs : List VlV) : Prop := RowOf (fun cs v => cs = vlcells v) 4 w B A n vs
/-- A row of values, and where it lies. -/
structure VlS where
  A : Option Addr
  n : Nat
  c : Nat
  vs : List VlV
def vsC (z : VlS) : Value := .slice z.A z.n z.c
/-- The slice value '.slice A n c' has these rows. -/
structure VvRow (w : World) (B : Nat) (A : Option Addr) (n : Nat) (zs : List VlS) : Prop where
  row : Sl w B A n (zs.map vsC)
  each : ∀ z ∈ zs, VlRow w B z.A z.n z.vs
def vvals (zs : List VlS) : List (List VlV) := zs.map VlS.vs
section
variable {w w' : World} {B B' n : Nat} {A : Option Addr} {vs : List VlV} {zs : List VlS}
theorem VlRow.len (h : VlRow w B A n vs) : vs.length = n := h.1
theorem VlRow.below (h : VlRow w B A n vs) (hb : Below B w w') : VlRow w' B A n vs := RowOf.below h hb
theorem VlRow.more (h : VlRow w B A n vs) (hB : B ≤ B') : VlRow w B' A n vs := RowOf.more h hB
theorem VlRow.step (h : VlRow w w.heap.size A n vs) (hb : Below w.heap.size w w') : VlRow w' w'.heap.size A n vs := (h.below hb).more hb.size
theorem VlRow.at_ (h : VlRow w B A n vs) {j : Nat} (hj : j < n) : ∃ b off v, A = some ⟨b, off, none⟩ ∧ b < B ∧ vs[j]? = some v ∧ w.cell? ⟨b, off + j * 4, none⟩ = some (.int .u8 v.kind) ∧ w.cell? ⟨b, off + j * 4 + 1, none⟩ = some (.int .u64 v.bits) ∧ w.cell? ⟨b, off + j * 4 + 2, none⟩ = some (.int .i64 v.depth) ∧ w.cell? ⟨b, off + j * 4 + 3, none⟩ = some (.int .i64 v.slot) := by
  obtain ⟨b, off, x, cs, e, hb, hx, _, hc, rfl⟩ := RowOf.at_ h hj
  exact ⟨b, off, x, e, hb, hx, hc 0 (by omega), hc 1 (by omega), hc 2 (by omega), hc 3 (by omega)⟩
theorem VvRow.len (h : VvRow w B A n zs) : zs.length = n := by have := h.row.1; simpa using this
theorem VvRow.below (h : VvRow w B A n zs) (hb : Below B w w') : VvRow w' B A n zs := ⟨h.row.below hb, fun z hz => (h.each z hz).below hb⟩
theorem VvRow.more (h : VvRow w B A n zs) (hB : B ≤ B') : VvRow w B' A n zs := ⟨h.row.more hB, fun z hz => (h.each z hz).more hB⟩
theorem VvRow.step (h : VvRow w w.heap.size A n zs) (hb : Below w.heap.size w w') : VvRow w' w'.heap.size A n zs := (h.below hb).more hb.size
theorem VvRow.at_ (h : VvRow w B A n zs) {j : Nat} (hj : j < n) : ∃ b off z, A = some ⟨b, off, none⟩ ∧ b < B ∧ zs[j]? = some z ∧ w.cell? ⟨b, off + j, none⟩ = some (.slice z.A z.n z.c) ∧ VlRow w B z.A z.n z.vs := by
  obtain ⟨b, off, u, e, hb, hu, hc⟩ := h.row.at_ hj
  rw [List.getElem?_map] at hu
  cases hz : zs[j]? with
  | none => rw [hz] at hu; cases hu
  | some z =>
    rw [hz] at hu
    obtain rfl : u = vsC z := by simpa using hu.symm
    exact ⟨b, off, z, e, hb, rfl, hc, h.each z (List.mem_of_getElem? hz)⟩
end
end Go.Proofs.YtlniakcoikhilaaGreatDoor

/- The walk of the document's own All of layer 16 (slots). -/
namespace Go.Proofs.YtlniakcoikhilaaGreatDoor
open Go.RowKit
set_option linter.unusedVariables false

theorem info_val : (Tryz.prog.info? 77).map (fun i => (i.zero, i.size, i.bytes)) = some (some (.agg #[.int .u8 0, .int .u64 0, .int .i64 0, .int .i64 0]), 4, 32) := by kernel_rfl
theorem info_vals : (Tryz.prog.info? 74).map (fun i => (i.zero, i.size, i.bytes)) = some (some (.slice none 0 0), 1, 24) := by kernel_rfl
/-- A row of values that the call has made. -/
def OwnZ (base : Nat) (w : World) (z : VlS) : Prop := w.ownsRow base 77 4 (.slice z.A z.n z.c) z.n (cellsAll vlcells z.vs) ∧ z.vs.length = z.n
theorem OwnZ.below {base : Nat} {w w' : World} {z : VlS} (h : OwnZ base w z) (hb : Below w.heap.size w w') : OwnZ base w' z := ⟨own_same h.1 fun k hk => hb.block k (h.1.lt k hk).2, h.2⟩
theorem OwnZ.row {base : Nat} {w : World} {z : VlS} (h : OwnZ base w z) : VlRow w w.heap.size z.A z.n z.vs := RowOf.of_own vlcells_len h.1 h.2
theorem OwnZ.mono {b b' : Nat} {w : World} {z : VlS} (h : OwnZ b w z) (hb : b' ≤ b) : OwnZ b' w z := ⟨h.1.mono hb, h.2⟩
/-- Where the row of rows grows, the rows of values stay. -/
theorem OwnZ.grown {base base2 n : Nat} {w w' : World} {z : VlS} {v : Value} {xs : List Value} (h : OwnZ base w z) (ho : w.ownsRow base2 74 1 v n xs) (hg : w.grownBy w' v.ownBlock) : OwnZ base w' z :=
  ⟨own_grown h.1 hg fun k hk e => by
    obtain ⟨c1, h1⟩ := own_type ho k hk
    obtain ⟨c2, h2⟩ := own_type h.1 k e
    rw [h1] at h2
    injection h2 with h2
    injection h2 with _ h2 _
    revert h2; decide, h.2⟩
/-- Rows of values that a call answers, and an error's number. -/
def ResV (w : World) (r : List (List VlV) × Int) (e : Ending) (w' : World) : Prop := ∃ A c zs, e = .returned (.tuple #[.slice A r.1.length c, .int .i64 r.2]) ∧ VvRow w' w'.heap.size A r.1.length zs ∧ vvals zs = r.1 ∧ Below w.heap.size w w'
theorem vsC_one (zs : List VlS) : ∀ u ∈ zs.map vsC, u.oneCell' = true := fun u hu => by obtain ⟨z, _, rfl⟩ := List.mem_map.1 hu; rfl

set_option maxRecDepth 100000 in
set_option maxHeartbeats 4000000 in
theorem ref_slall {w : World} {A A2 A3 : Option Addr} {n c n2 c2 m c3 lo' hi' : Nat} {xs : List Nat} {ys : List FnV} {L : List FrV} (hs : Sl w w.heap.size A n (xs.map wv)) (hn : n ≤ 65536) (hx : Wd xs) (hr : FnRow w lo' hi' A2 n2 ys) (hhi : hi' ≤ w.heap.size) (hn2 : n2 ≤ 1000) (hl : ∀ x ∈ vals ys, 0 ≤ x.1 ∧ x.1 ≤ 1000) (hL : FrRow w w.heap.size A3 m L) (hm : m ≤ 1000000) :
    Calls Tryz.prog 23 #[.slice A n c, .slice A2 n2 c2, .slice A3 m c3] w (ResV w (slAll xs (vals ys) L)) := by
  obtain ⟨i0, hi, hz0, hz1, hz2⟩ := info_parts info_val
  obtain ⟨i1, hj, hy0, hy1, hy2⟩ := info_parts info_vals
  have HL := hidb hl
  have HLr := hidb hL
  have KS : Hid (∀ W x, Below w.heap.size w W → Calls Tryz.prog 51 #[.slice A2 n2 c2, .agg #[.int .i64 x.at_, .int .i64 x.fn, .int .i64 x.link]] W fun e w' => e = .returned (.int .i64 (slSize (vals ys) x)) ∧ Below W.heap.size W w') := hidb (fun W x hb => ref_slsize (hr.below (hb.mono hhi)) (Nat.le_trans hhi hb.size) hn2 x)
  have KG : Hid (∀ W (d i : Int), Below w.heap.size w W → in64 i → Calls Tryz.prog 52 #[.slice A n c, .slice A2 n2 c2, .slice A3 m c3, .int .i64 d, .int .i64 i] W fun e w' => e = .returned (.tuple #[vlC (slGet xs (vals ys) L d i).1, .int .i64 (slGet xs (vals ys) L d i).2]) ∧ Below W.heap.size W w') := hidb (fun W d i hb hi => ref_slget ((hs.below hb).more hb.size) hn hx (hr.below (hb.mono hhi)) (Nat.le_trans hhi hb.size) hn2 hl (hL.step hb) hm d i hi)
  have hb0 := belF_al (Below.refl w.heap.size w) (.cells #[] 74)
  have HB0 := hidb hb0
  have PE : Hid (∀ W q e, Below w.heap.size w W → slAll xs (vals ys) L = ([], e) → ResV w (slAll xs (vals ys) L) (.returned (.tuple #[.slice (some ⟨q, 0, none⟩) 0 0, .int .i64 e])) W) := hidb (fun W q e hb h => by rw [h]; exact ⟨_, _, [], rfl, ⟨Sl.nil_, fun z hz => by cases hz⟩, rfl, hb⟩)
  have PG : Hid (∀ W C k (zs : List VlS) j, zs.length = j → Below w.heap.size w W → W.ownsRow w.heap.size 74 1 (.slice C j k) j (zs.map vsC) → (∀ z ∈ zs, OwnZ w.heap.size W z) → slAll xs (vals ys) L = (vvals zs, 0) → ResV w (slAll xs (vals ys) L) (.returned (.tuple #[.slice C j k, .int .i64 0])) W) := hidb (fun W C k zs j hj hb ho hz h => by
    subst hj
    rw [h]
    have e : (vvals zs).length = zs.length := by unfold vvals; simp
    exact ⟨C, k, zs, by rw [e], ⟨by rw [e]; exact Sl.of_own ho, fun z hz' => (hz z hz').row⟩, rfl, hb⟩)
  clear hs hx hr hl hL hb0
  go_enter Tryz.func23, Tryz.ntmps23
  go_wp2
  go_loopw [17, 9, 8, 10, 11, 12, 13] (fun k _ v8 _ _ _ _ wr => ∃ (j : Nat) (zs : List VlS) (C : Option Addr) (kc : Nat), j ≤ m ∧ Hid (zs.length = j) ∧ k = .int .i64 j ∧ v8 = .slice C j kc ∧ Hid (wr.ownsRow w.heap.size 74 1 (.slice C j kc) j (zs.map vsC)) ∧ Hid (∀ z ∈ zs, OwnZ w.heap.size wr z) ∧ Hid (slAll xs (vals ys) L = slAllAux xs (vals ys) L j (L.drop j) (vvals zs)) ∧ Hid (Below w.heap.size w wr)) (fun k _ _ _ _ _ _ _ => (m - intOf k).toNat)
  case atStart => exact ⟨0, [], _, _, by omega, hidb rfl, rfl, rfl, hidb (own_empty w w.heap.size _ _ (Nat.le_refl _)), hidb (fun z hz => by cases hz), hidb rfl, HB0⟩
  case round =>
    obtain ⟨j, zs, C, kc, hjm, hzl, rfl, rfl, HO, HZ, HF, HB⟩ := hrel
    by_cases hlt : j < m
    · obtain ⟨b, off, x, rfl, hbl, hxx, hc0, hc1, hc2⟩ := HLr.out.at_ hlt
      have HC : Hid (∀ W, Below w.heap.size w W → W.cell? ⟨b, off + j * 3, none⟩ = some (.int .i64 x.at_) ∧ W.cell? ⟨b, off + j * 3 + 1, none⟩ = some (.int .i64 x.fn) ∧ W.cell? ⟨b, off + j * 3 + 2, none⟩ = some (.int .i64 x.link)) := hidb (fun W hb => ⟨(hb.cell (p := ⟨b, off + j * 3, none⟩) hbl).trans hc0, (hb.cell (p := ⟨b, off + j * 3 + 1, none⟩) hbl).trans hc1, (hb.cell (p := ⟨b, off + j * 3 + 2, none⟩) hbl).trans hc2⟩)
      have ks := fun W hb => KS.out W x hb
      have hz := slSize_range (vals ys) HL.out x
      obtain ⟨sz, hsz⟩ : ∃ sz : Nat, slSize (vals ys) x = (sz : Int) := ⟨(slSize (vals ys) x).toNat, by omega⟩
      rw [hsz] at ks hz
      have HSTEP : Hid (slAllAux xs (vals ys) L j (L.drop j) (vvals zs) = if slErr xs (vals ys) L j sz = 0 then slAllAux xs (vals ys) L (j + 1) (L.drop (j + 1)) (vvals zs ++ [slRow xs (vals ys) L j sz]) else ([], slErr xs (vals ys) L j sz)) := hidb (by
        obtain ⟨hj2, rfl⟩ := List.getElem?_eq_some_iff.1 hxx
        rw [List.drop_eq_getElem_cons hj2]
        show (if slErr xs (vals ys) L j (slSize (vals ys) L[j]).toNat = 0 then _ else _) = _
        rw [hsz, Int.toNat_natCast])
      have hsz9 : sz ≤ 1000 := by omega
      obtain ⟨xa, xf, xl⟩ := x
      simp only at *
      have KSX := hidb ks
      have hi0 : (0 : Int) ≤ (j : Int) := by omega
      have hi1 : (j : Int) < (m : Int) := by omega
      clear hxx hc0 hc1 hc2 ks hsz hz
      obtain ⟨wo, rfl⟩ : ∃ wo : World, wo = wr := ⟨_, rfl⟩
      have hbr := belF_al (Below.refl wo.heap.size wo) (.cells #[] 77)
      have HBR := hidb hbr
      clear hbr
      go_wp2
      go_loopw [10, 11, 12, 13] (fun v10 v11 _ _ wq => ∃ (i : Nat) (D : Option Addr) (kd : Nat), i ≤ sz ∧ v10 = .slice D i kd ∧ v11 = .int .i64 i ∧ Hid (wq.ownsRow wo.heap.size 77 4 (.slice D i kd) i (cellsAll vlcells (slRow xs (vals ys) L j i))) ∧ Hid (Below wo.heap.size wo wq) ∧ Hid (slErr xs (vals ys) L j i = 0)) (fun _ v11 _ _ _ => (sz - intOf v11).toNat)
      case atStart => exact ⟨0, _, _, by omega, rfl, rfl, hidb (own_empty wo wo.heap.size _ _ (Nat.le_refl _)), HBR, hidb rfl⟩
      case round =>
        obtain ⟨i, D, kd, hil, rfl, rfl, HOI, HBI, HER⟩ := hrel
        have HBQ := hidb (belF_tr HB.out HBI.out)
        obtain ⟨q0, q1, q2⟩ := HC.out _ HBQ.out
        by_cases hlti : i < sz
        · have hlti' : (i : Int) < (sz : Int) := by omega
          obtain ⟨⟨vk, vb, vd, vi⟩, hv⟩ : ∃ v, (slGet xs (vals ys) L j i).1 = v := ⟨_, rfl⟩
          obtain ⟨no, hno⟩ : ∃ no, (slGet xs (vals ys) L j i).2 = no := ⟨_, rfl⟩
          have kg := fun W hb => KG.out W j i hb (by unfold in64; omega)
          rw [hv, hno] at kg
          unfold vlC at kg
          simp only at kg
          have KGX := hidb kg
          clear kg
          by_cases h0 : no = 0
          · subst h0
            have HER2 := hidb (slErr_succ HER.out hno)
            have HROW : Hid (cellsAll vlcells (slRow xs (vals ys) L j (i + 1)) = cellsAll vlcells (slRow xs (vals ys) L j i) ++ [.int .u8 (vk : Int), .int .u64 (vb : Int), .int .i64 vd, .int .i64 vi]) := hidb (by rw [slRow_succ, cellsAll_append, hv, cellsAll_one]; rfl)
            clear hv hno
            --@1
            go_wp2_with (first
              | (go_at_call 51; (with_reducible refine (KSX.out _ HBQ.out).mono ?_); rintro e w1 ⟨rfl, hb1⟩; have HB1 := hidb (belF_tr HBQ.out hb1); have HBI1 := hidb (belF_tr HBI.out hb1); have HOI1 := hidb (own_same HOI.out fun q hq => hb1.block q (HOI.out.lt q hq).2); clear hb1)
              | (go_at_call 52; (with_reducible refine (KGX.out _ HB1.out).mono ?_); rintro e w2 ⟨rfl, hb2⟩; have HB2 := hidb (belF_al (belF_tr HB1.out hb2) (.cells #[.int .u8 (vk : Int), .int .u64 (vb : Int), .int .i64 vd, .int .i64 vi] 77)); have HBI2 := hidb (belF_al (belF_tr HBI1.out hb2) (.cells #[.int .u8 (vk : Int), .int .u64 (vb : Int), .int .i64 vd, .int .i64 vi] 77)); have HSZ : Hid (w2.heap.size + 1 = (w2.alloc (.cells #[.int .u8 (vk : Int), .int .u64 (vb : Int), .int .i64 vd, .int .i64 vi] 77)).heap.size) := hidb (by simp); have HOI2 := hidb (own_same HOI1.out fun q hq => (belF_al hb2 (.cells #[.int .u8 (vk : Int), .int .u64 (vb : Int), .int .i64 vd, .int .i64 vi] 77)).block q (HOI1.out.lt q hq).2); clear hb2)
              | (at_builtin; go_loud (refine wpList_append_struct _ rfl (.tmp 44) (.tmp 46) 74 rfl wo.heap.size 77 i0 (.agg #[.int .u8 0, .int .u64 0, .int .i64 0, .int .i64 0]) 4 32 Tryz.underlying74 hi hz0 hz1 hz2 rfl (by decide) (.slice D i kd) i _ rfl HOI2.out HBI2.out.size #[.int .u8 (vk : Int), .int .u64 (vb : Int), .int .i64 vd, .int .i64 vi] rfl (by simp [Value.oneCell']) _ (congrArg (fun q => Value.slice (some ⟨q, 0, none⟩) 1 1) HSZ.out) (by unfold maxLen; omega) (by omega) ?_); go_loud (intro v4 w4 hown4 hb4; have HO4 := hidb hown4; have HB4 := hidb (HBI2.out.trans hb4); clear hown4 hb4)))
            go_roundw
            case rel =>
              obtain ⟨D4, k4, rfl⟩ := own_form2 HO4.out
              exact ⟨i + 1, D4, k4, by omega, rfl, by go_num, by rw [HROW.out]; exact HO4, HB4, HER2⟩
            case measure => simp [intOf]; omega
          · have HRET : Hid (slAll xs (vals ys) L = ([], no)) := hidb (by
              have e := slErr_stop h0 sz i hlti HER.out hno
              rw [HF.out, HSTEP.out, e, if_neg h0])
            have h0b : (no != 0) = true := by simpa using h0
            clear hv hno
            --@2
            go_wp2_with (first
              | (go_at_call 51; (with_reducible refine (KSX.out _ HBQ.out).mono ?_); rintro e w1 ⟨rfl, hb1⟩; have HB1 := hidb (belF_tr HBQ.out hb1); clear hb1)
              | (go_at_call 52; (with_reducible refine (KGX.out _ HB1.out).mono ?_); rintro e w2 ⟨rfl, hb2⟩; have HB2 := hidb (belF_al (belF_al (belF_tr HB1.out hb2) (.cells #[.int .u8 (vk : Int), .int .u64 (vb : Int), .int .i64 vd, .int .i64 vi] 77)) (.cells #[] 74))))
            go_ret2
            exact PE.out _ _ _ HB2.out HRET.out
        · obtain rfl : i = sz := by omega
          have hge : ¬ ((i : Int) < (i : Int)) := by omega
          have HNEXT : Hid (slAll xs (vals ys) L = slAllAux xs (vals ys) L (j + 1) (L.drop (j + 1)) (vvals (zs ++ [⟨D, i, kd, slRow xs (vals ys) L j i⟩]))) := hidb (by
            rw [HF.out, HSTEP.out, if_pos HER.out]; unfold vvals; rw [List.map_append]; rfl)
          have HNZ : Hid (OwnZ wo.heap.size wr ⟨D, i, kd, slRow xs (vals ys) L j i⟩) := hidb ⟨HOI.out, slRow_length _ _ _ _ _⟩
          have HZ2 : Hid (∀ z ∈ zs ++ [⟨D, i, kd, slRow xs (vals ys) L j i⟩], OwnZ w.heap.size wr z) := hidb (fun z hz => by
            rcases List.mem_append.1 hz with hz | hz
            · exact (HZ.out z hz).below HBI.out
            · rw [List.mem_singleton.1 hz]; exact HNZ.out.mono HB.out.size)
          have HO2 := hidb (own_same HO.out fun q hq => HBI.out.block q (HO.out.lt q hq).2)
          --@3
          go_wp2_with (first
            | (go_at_call 51; (with_reducible refine (KSX.out _ HBQ.out).mono ?_); rintro e w1 ⟨rfl, hb1⟩; have HB1 := hidb (belF_tr HBQ.out hb1); have HO3 := hidb (own_same HO2.out fun q hq => hb1.block q (HO2.out.lt q hq).2); have HZ3 : Hid (∀ z ∈ zs ++ [⟨D, i, kd, slRow xs (vals ys) L j i⟩], OwnZ w.heap.size (w1.alloc (.cells #[.slice D i kd] 74)) z) := hidb (fun z hz => ((HZ2.out z hz).below hb1).below (belF_al (Below.refl _ _) _)); have HO5 := hidb (own_same HO3.out fun q hq => (belF_al (Below.refl w1.heap.size w1) (.cells #[.slice D i kd] 74)).block q (HO3.out.lt q hq).2); have HB5 := hidb (belF_al HB1.out (.cells #[.slice D i kd] 74)); clear hb1)
            | (at_builtin; go_loud (refine wpList_append_rowN _ rfl (.tmp 48) (.tmp 50) 65 rfl w.heap.size 74 i1 (.slice none 0 0) 1 24 Tryz.underlying65 hj hy0 hy1 hy2 rfl (by decide) (.slice C j kc) j (zs.map vsC) rfl HO5.out HB5.out.size (some ⟨w1.heap.size, 0, none⟩) 1 1 [.slice D i kd] rfl rfl (fun e => by cases e) (cells_new w1 [.slice D i kd] 74) (fun u hu => by obtain rfl := List.mem_singleton.1 hu; rfl) (by unfold maxLen; omega) (by omega) ?_); go_loud (intro C4 k4 w4 hown4 hg4; have HO4 := hidb hown4; have HG4 := hidb hg4; have HB4 := hidb (HB5.out.grown hg4 HB5.out.size (fun q hq => (HO5.out.lt q hq).1)); clear hown4 hg4)))
          have HZ4 : Hid (∀ z ∈ zs ++ [⟨D, i, kd, slRow xs (vals ys) L j i⟩], OwnZ w.heap.size w4 z) := hidb (fun z hz => (HZ3.out z hz).grown HO5.out HG4.out)
          go_roundw
          case rel =>
            exact ⟨j + 1, zs ++ [⟨D, i, kd, slRow xs (vals ys) L j i⟩], C4, k4, by omega, hidb (by rw [List.length_append, hzl.out]; rfl), by go_num, rfl, by rw [List.map_append]; exact HO4, HZ4, HNEXT, HB4⟩
          case measure => simp [intOf]; omega
    · obtain rfl : j = m := by omega
      have HRET : Hid (slAll xs (vals ys) L = (vvals zs, 0)) := hidb (by rw [HF.out, List.drop_of_length_le (by rw [HLr.out.len]; omega)]; rfl)
      --@4
      go_wp2
      go_ret2
      exact PG.out _ C kc zs _ hzl.out HB.out HO.out HZ.out HRET.out
end Go.Proofs.YtlniakcoikhilaaGreatDoor

/- What the code of layer 16 (slots) returns: place, Address, Find. -/
namespace Go.Proofs.YtlniakcoikhilaaGreatDoor
open Go.RowKit
set_option linter.unusedVariables false

/-- The words in which a frame's slots stand. -/
def slRun (l : Fns) (x : FrV) : Int × Int := if 0 < slSize l x then (x.at_ + 2, slSize l x) else (0, 0)
theorem two_cellsS (w : World) (b : Nat) (u0 u1 x0 x1 : Value) (h0 : w.cell? ⟨b, 0, none⟩ = some x0) (h1 : w.cell? ⟨b, 1, none⟩ = some x1) :
    ((w.setCell ⟨b, 0, none⟩ u0).setCell ⟨b, 1, none⟩ u1).cell? ⟨b, 0, none⟩ = some u0 ∧ ((w.setCell ⟨b, 0, none⟩ u0).setCell ⟨b, 1, none⟩ u1).cell? ⟨b, 1, none⟩ = some u1 := by
  have o : ∀ (w : World) (i j : Nat) (v : Value), i ≠ j → (w.setCell ⟨b, i, none⟩ v).cell? ⟨b, j, none⟩ = w.cell? ⟨b, j, none⟩ := fun w i j v h => World.cell?_setCell_other w _ _ _ (fun e => h (by injection e))
  have s : ∀ (w : World) (i : Nat) (v x : Value), w.cell? ⟨b, i, none⟩ = some x → (w.setCell ⟨b, i, none⟩ v).cell? ⟨b, i, none⟩ = some v := fun w i v x h => World.cell?_setCell_same w _ _ h
  refine ⟨?_, ?_⟩
  · rw [o _ 1 0 _ (by decide), s _ 0 _ x0 h0]
  · rw [s _ 1 _ x1 (by rw [o _ 0 1 _ (by decide)]; exact h1)]
theorem bel_set2 {w W : World} {b : Nat} (h : Below w.heap.size w W) (hb : w.heap.size ≤ b) (u0 u1 : Value) : Below w.heap.size w ((W.setCell ⟨b, 0, none⟩ u0).setCell ⟨b, 1, none⟩ u1) := (h.setCell hb u0).setCell hb u1

theorem code_place {w : World} {lo hi : Nat} {tp : Option Addr} {l : Fns} (ht : TbO w lo hi tp l) (hhi : hi ≤ w.heap.size) (hl : ∀ x ∈ l, 0 ≤ x.1 ∧ x.1 ≤ 1000) (x : FrV) (r : Int × Int) (hr : slRun l x = r) :
    Calls Tryz.prog 85 #[.pointer tp, .agg #[.int .i64 x.at_, .int .i64 x.fn, .int .i64 x.link]] w fun e w' => e = .returned (.agg #[.int .i64 r.1, .int .i64 r.2]) ∧ Below w.heap.size w w' := by
  obtain ⟨W0, hW0⟩ : ∃ W0, W0 = (w.alloc (.cells #[.int .i64 x.at_, .int .i64 x.fn, .int .i64 x.link] 71)).alloc (.cells #[.int .i64 0, .int .i64 0] 138) := ⟨_, rfl⟩
  have hb0 : Below w.heap.size w W0 := by rw [hW0]; exact belF_al (belF_al (Below.refl _ _) _) _
  have HB := hidb hb0
  have HC : Hid (∀ W, Below W0.heap.size W0 W → (W.cell? ⟨w.heap.size, 0, none⟩ = some (.int .i64 x.at_) ∧ W.cell? ⟨w.heap.size, 1, none⟩ = some (.int .i64 x.fn) ∧ W.cell? ⟨w.heap.size, 2, none⟩ = some (.int .i64 x.link)) ∧ W.cell? ⟨w.heap.size + 1, 0, none⟩ = some (.int .i64 0) ∧ W.cell? ⟨w.heap.size + 1, 1, none⟩ = some (.int .i64 0) ∧ W.frozen? ⟨w.heap.size + 1, 0, none⟩ = false ∧ W.frozen? ⟨w.heap.size + 1, 1, none⟩ = false) := hidb (fun W hb => by
    have hz : W0.heap.size = w.heap.size + 2 := by rw [hW0]; simp
    have hc : ∀ b k, b < w.heap.size + 2 → W.cell? ⟨b, k, none⟩ = W0.cell? ⟨b, k, none⟩ := fun b k h => hb.cell (by show b < _; omega)
    have hf : ∀ b k, b < w.heap.size + 2 → W.frozen? ⟨b, k, none⟩ = W0.frozen? ⟨b, k, none⟩ := fun b k h => hb.frozen (by show b < _; omega)
    have n1 : (w.alloc (.cells #[.int .i64 x.at_, .int .i64 x.fn, .int .i64 x.link] 71)).heap.size = w.heap.size + 1 := by simp
    refine ⟨⟨?_, ?_, ?_⟩, ?_, ?_, ?_, ?_⟩
    · rw [hc _ _ (by omega), hW0, World.cell?_alloc_lt _ _ _ (by show w.heap.size < _; omega)]; simp
    · rw [hc _ _ (by omega), hW0, World.cell?_alloc_lt _ _ _ (by show w.heap.size < _; omega)]; simp
    · rw [hc _ _ (by omega), hW0, World.cell?_alloc_lt _ _ _ (by show w.heap.size < _; omega)]; simp
    · rw [hc _ _ (by omega), hW0, ← n1]; simp
    · rw [hc _ _ (by omega), hW0, ← n1]; simp
    · rw [hf _ _ (by omega), hW0, ← n1]; simp [go_sem]
    · rw [hf _ _ (by omega), hW0, ← n1]; simp [go_sem])
  have HE : Hid (∀ W, Below W0.heap.size W0 W → frNear x → Calls Tryz.prog 97 #[.pointer tp, .agg #[.int .i64 x.at_, .int .i64 x.fn, .int .i64 x.link]] W fun e w' => e = .returned (.int .i64 (frEnd l x)) ∧ Below W.heap.size W w') := hidb (fun W hb hn => code_frend (ht.below ((belF_tr hb0 hb).mono hhi)) (Nat.le_trans hhi (belF_tr hb0 hb).size) hl x hn)
  have HS : Hid (∀ W, Below W0.heap.size W0 W → frNear x → Calls Tryz.prog 65 #[.pointer tp, .agg #[.int .i64 x.at_, .int .i64 x.fn, .int .i64 x.link], .int .i64 0] W fun e w' => e = .returned (.tuple #[.int .i64 (frSlot l x 0).1, .int .i64 (frSlot l x 0).2]) ∧ Below W.heap.size W w') := hidb (fun W hb hn => code_frslot (ht.below ((belF_tr hb0 hb).mono hhi)) (Nat.le_trans hhi (belF_tr hb0 hb).size) hl x hn 0)
  have hsz := slSize_range l hl x
  have hfs := fSize_range hl x.fn
  unfold slRun at hr
  by_cases h1 : x.at_ < 0
  · rw [if_neg (by unfold slSize; rw [if_pos (Or.inr (Or.inl h1))]; omega)] at hr
    subst hr
    clear HB hl ht hb0 HC HE HS hsz hfs hW0
    --@1
    go_enter Tryz.func85, Tryz.ntmps85
    go_wp2
    exact bodyPost_ret (v := .agg #[.int .i64 0, .int .i64 0]) (by simp [results, Tryz.results85, go_sem]) rfl ⟨rfl, belF_al (belF_al (Below.refl _ _) _) _⟩
  by_cases h2 : 1099511627776 < x.at_
  · rw [if_neg (by unfold slSize; rw [if_pos (Or.inr (Or.inr h2))]; omega)] at hr
    subst hr
    clear HB hl ht hb0 HC HE HS hsz hfs hW0
    --@2
    go_enter Tryz.func85, Tryz.ntmps85
    go_wp2
    exact bodyPost_ret (v := .agg #[.int .i64 0, .int .i64 0]) (by simp [results, Tryz.results85, go_sem]) rfl ⟨rfl, belF_al (belF_al (Below.refl _ _) _) _⟩
  have hne : frNear x := by unfold frNear; omega
  have cs := fun W hb => HS.out W hb hne
  have ce := fun W hb => HE.out W hb hne
  have hsl : slSize l x = if fSize l x.fn < 0 then 0 else fSize l x.fn := by
    unfold slSize
    by_cases h : fSize l x.fn < 0
    · rw [if_pos (Or.inl h), if_pos h]
    · rw [if_neg (by omega), if_neg h]
  by_cases h3 : fSize l x.fn ≤ 0
  · rw [if_neg (by rw [hsl]; split <;> omega)] at hr
    have e : frSlot l x 0 = (0, 2) := by unfold frSlot; rw [if_pos (Or.inr h3)]
    rw [e] at cs
    subst hr
    rw [hW0] at HB HC cs
    have CS := hidb cs
    obtain ⟨⟨c0, c1, c2⟩, z0, z1, f0, f1⟩ := HC.out _ (Below.refl _ _)
    clear hl ht hb0 HE HS hsz hfs ce cs hsl e hne hW0
    --@3
    go_enter Tryz.func85, Tryz.ntmps85
    go_wp2_with (first | (go_at_call 65; (with_reducible refine (CS.out _ (Below.refl _ _)).mono ?_); rintro e w1 ⟨rfl, hb1⟩; have HB1 := hidb hb1; obtain ⟨⟨c3, c4, c5⟩, z2, z3, f2, f3⟩ := HC.out _ hb1))
    obtain ⟨s0, s1⟩ := two_cellsS w1 (w.heap.size + 1) (.int .i64 0) (.int .i64 0) _ _ z2 z3
    exact bodyPost_ret (v := .agg #[.int .i64 0, .int .i64 0]) (by simp [results, Tryz.results85, go_sem, s0, s1]) rfl ⟨rfl, bel_set2 (belF_tr HB.out HB1.out) (by omega) _ _⟩
  · rw [if_pos (by rw [hsl, if_neg (by omega)]; omega), hsl, if_neg (by omega)] at hr
    have e : frSlot l x 0 = (x.at_ + 2, 0) := by unfold frSlot; rw [if_neg (by omega)]; simp
    have e2 : frEnd l x = x.at_ + 2 + fSize l x.fn := by unfold frEnd fWords; rw [if_neg (by omega), if_neg (by omega)]; omega
    rw [e] at cs
    rw [e2] at ce
    generalize fSize l x.fn = z at *
    subst hr
    rw [hW0] at HB HC cs ce
    have CS := hidb cs
    have CE := hidb ce
    have hw : wrap64 (x.at_ + 2 + z - (x.at_ + 2)) = z := by unfold wrap64; omega
    obtain ⟨⟨c0, c1, c2⟩, z0, z1, f0, f1⟩ := HC.out _ (Below.refl _ _)
    clear hl ht hb0 HE HS hsz hfs ce cs hsl e hne hW0 e2 h3
    --@4
    go_enter Tryz.func85, Tryz.ntmps85
    go_wp2_with (first
      | (go_at_call 65; (with_reducible refine (CS.out _ (Below.refl _ _)).mono ?_); rintro e w1 ⟨rfl, hb1⟩; have HB1 := hidb hb1; obtain ⟨⟨c3, c4, c5⟩, z2, z3, f2, f3⟩ := HC.out _ hb1)
      | (go_at_call 97; (with_reducible refine (CE.out _ HB1.out).mono ?_); rintro e w2 ⟨rfl, hb2⟩; have HB2 := hidb (belF_tr HB1.out hb2); obtain ⟨⟨c6, c7, c8⟩, z4, z5, f4, f5⟩ := HC.out _ HB2.out))
    obtain ⟨s0, s1⟩ := two_cellsS w2 (w.heap.size + 1) (.int .i64 (x.at_ + 2)) (.int .i64 z) _ _ z4 z5
    exact bodyPost_ret (v := .agg #[.int .i64 (x.at_ + 2), .int .i64 z]) (by simp [results, Tryz.results85, go_sem, s0, s1]) rfl ⟨rfl, bel_set2 (belF_tr HB.out HB2.out) (by omega) _ _⟩

/-- The address of a slot; the error's number. -/
def slAdr (l : Fns) (L : List FrV) (d i : Int) : Int × Int := if slAddr l L d i < 0 then (0, 2) else (slAddr l L d i, 0)
section
variable {w : World} {lo hi : Nat} {tp : Option Addr} {l : Fns} {A : Option Addr} {m c : Nat} {L : List FrV}
theorem code_sladdr (ht : TbO w lo hi tp l) (hhi : hi ≤ w.heap.size) (hl : ∀ x ∈ l, 0 ≤ x.1 ∧ x.1 ≤ 1000) (hs : FrRow w w.heap.size A m L) (hm : m ≤ 1000000) (d i : Int) (r : Int × Int) (hr : slAdr l L d i = r) :
    Calls Tryz.prog 98 #[.pointer tp, .slice A m c, .int .i64 d, .int .i64 i] w fun e w' => e = .returned (.tuple #[.int .i64 r.1, .int .i64 r.2]) ∧ Below w.heap.size w w' := by
  have hlen := hs.len
  unfold slAdr at hr
  by_cases h1 : d < 0
  · have E : slAddr l L d i = -1 := by unfold slAddr; rw [if_pos (Or.inl h1)]
    rw [E, if_pos (by omega)] at hr
    subst hr
    clear ht hs hl E
    --@5
    go_enter Tryz.func98, Tryz.ntmps98
    go_wp2
    go_ret2
    exact ⟨rfl, Below.refl _ _⟩
  by_cases h2 : (m : Int) ≤ d
  · have E : slAddr l L d i = -1 := by unfold slAddr; rw [if_pos (Or.inr (Or.inl (by omega)))]
    rw [E, if_pos (by omega)] at hr
    subst hr
    clear ht hs hl E
    --@6
    go_enter Tryz.func98, Tryz.ntmps98
    go_wp2
    go_ret2
    exact ⟨rfl, Below.refl _ _⟩
  obtain ⟨b, off, x, rfl, hbl, hx, hc0, hc1, hc2⟩ := hs.at_ (j := d.toNat) (by omega)
  have hg : L.getD d.toNat fr0 = x := by rw [List.getD_eq_getElem?_getD, hx]; rfl
  obtain ⟨q, hq⟩ : ∃ q, slRun l x = q := ⟨_, rfl⟩
  have cp := code_place ht hhi hl x q hq
  have hz := slSize_range l hl x
  have f1 : d < (m : Int) := by omega
  have f2 : 0 ≤ d := by omega
  have E : slAddr l L d i = if i < 0 ∨ q.2 ≤ i then -1 else q.1 + i := by
    unfold slAddr; rw [hg, ← hq]; unfold slRun
    by_cases h3 : i < 0
    · rw [if_pos (Or.inr (Or.inr (Or.inl h3))), if_pos (Or.inl h3)]
    · by_cases h4 : slSize l x ≤ i
      · rw [if_pos (Or.inr (Or.inr (Or.inr h4))), if_pos (Or.inr (by split <;> simp only <;> omega))]
      · have h5 : 0 < slSize l x := by omega
        rw [if_pos h5]
        simp only
        rw [if_neg (by omega), if_neg (by omega)]
  have hqr : 0 ≤ q.1 ∧ q.1 ≤ 1099511627778 ∧ 0 ≤ q.2 ∧ q.2 ≤ 1000 := by
    rw [← hq]; unfold slRun; split
    · have := hz.2.2 (by omega); simp only; omega
    · simp only; omega
  rw [E] at hr
  obtain ⟨q1, q2⟩ := q
  obtain ⟨xa, xf, xl⟩ := x
  simp only at *
  clear ht hs hl E hx hg hq hz
  have HR := hidb hr
  clear hr
  by_cases h3 : i < 0
  · have hr := HR.out
    rw [if_pos (Or.inl h3), if_pos (by omega)] at hr
    subst hr
    --@7
    go_enter Tryz.func98, Tryz.ntmps98
    go_wp2_with (first | (go_at_call 85; (with_reducible refine cp.mono ?_); rintro e w1 ⟨rfl, hb1⟩))
    go_ret2
    exact ⟨rfl, belF_al hb1 _⟩
  by_cases h4 : q2 ≤ i
  · have hr := HR.out
    rw [if_pos (Or.inr h4), if_pos (by omega)] at hr
    subst hr
    --@8
    go_enter Tryz.func98, Tryz.ntmps98
    go_wp2_with (first | (go_at_call 85; (with_reducible refine cp.mono ?_); rintro e w1 ⟨rfl, hb1⟩))
    go_ret2
    exact ⟨rfl, belF_al hb1 _⟩
  · have hr := HR.out
    rw [if_neg (by omega), if_neg (by omega)] at hr
    subst hr
    have hw : wrap64 (q1 + i) = q1 + i := by unfold wrap64; omega
    --@9
    go_enter Tryz.func98, Tryz.ntmps98
    go_wp2_with (first | (go_at_call 85; (with_reducible refine cp.mono ?_); rintro e w1 ⟨rfl, hb1⟩))
    go_ret2
    exact ⟨by (first | rfl | (rw [hw]; rfl)), belF_al hb1 _⟩

set_option maxRecDepth 100000 in
set_option maxHeartbeats 2000000 in
theorem code_slfind (ht : TbO w lo hi tp l) (hhi : hi ≤ w.heap.size) (hl : ∀ x ∈ l, 0 ≤ x.1 ∧ x.1 ≤ 1000) (hs : FrRow w w.heap.size A m L) (hm : m ≤ 1000000) (a : Int) (ha : in64 a) (r : Option (Nat × Nat)) (hr : slFind l 0 L a = r) :
    Calls Tryz.prog 109 #[.pointer tp, .slice A m c, .int .i64 a] w fun e w' => e = .returned (findC r) ∧ Below w.heap.size w w' := by
  have HS := hidb hs
  have HL := hidb hl
  have HR := hidb hr
  have HA := hidb ha
  have KP : Hid (∀ W x q, Below w.heap.size w W → slRun l x = q → Calls Tryz.prog 85 #[.pointer tp, .agg #[.int .i64 x.at_, .int .i64 x.fn, .int .i64 x.link]] W fun e w' => e = .returned (.agg #[.int .i64 q.1, .int .i64 q.2]) ∧ Below W.heap.size W w') := hidb (fun W x q hb hq => code_place (ht.below (hb.mono hhi)) (Nat.le_trans hhi hb.size) hl x q hq)
  clear ht hl hs hr ha
  go_enter Tryz.func109, Tryz.ntmps109
  go_wp2
  go_loopw [14] (fun k wr => ∃ j : Nat, j ≤ m ∧ k = .int .i64 j ∧ Hid (slFind l 0 L a = slFind l j (L.drop j) a) ∧ Hid (Below w.heap.size w wr)) (fun k _ => (m - intOf k).toNat)
  case atStart => exact ⟨0, by omega, rfl, hidb rfl, hidb (Below.refl _ _)⟩
  case round =>
    obtain ⟨j, hj, rfl, HF, HB⟩ := hrel
    by_cases hlt : j < m
    · obtain ⟨b, off, x, rfl, hbl, hx, hc0, hc1, hc2⟩ := HS.out.at_ hlt
      have d0 := (HB.out.cell (p := ⟨b, off + j * 3, none⟩) hbl).trans hc0
      have d1 := (HB.out.cell (p := ⟨b, off + j * 3 + 1, none⟩) hbl).trans hc1
      have d2 := (HB.out.cell (p := ⟨b, off + j * 3 + 2, none⟩) hbl).trans hc2
      obtain ⟨q, hq⟩ : ∃ q, slRun l x = q := ⟨_, rfl⟩
      have HBA : Hid (Below w.heap.size w (wr.alloc (.cells #[.int .i64 x.at_, .int .i64 x.fn, .int .i64 x.link] 71))) := hidb (belF_al HB.out _)
      have cp := KP.out _ x q HBA.out hq
      have hz := slSize_range l HL.out x
      have hst := slFind_at (l := l) (a := a) hx j
      have hqr : 0 ≤ q.1 ∧ q.1 ≤ 1099511627778 ∧ 0 ≤ q.2 ∧ q.2 ≤ 1000 := by
        rw [← hq]; unfold slRun; split
        · have := hz.2.2 (by omega); simp only; omega
        · simp only; omega
      have hst2 : slFind l j (L.drop j) a = if q.1 ≤ a ∧ a < q.1 + q.2 then some (j, (a - q.1).toNat) else slFind l (j + 1) (L.drop (j + 1)) a := by
        rw [hst, ← hq]; unfold slRun
        by_cases h0 : 0 < slSize l x
        · rw [if_pos h0]
        · rw [if_neg h0, if_neg (by omega), if_neg (by simp only; omega)]
      have HST := hidb hst2
      have g0 : (0 : Int) ≤ (j : Int) := by omega
      have g1 : (j : Int) < (m : Int) := by omega
      have hw : wrap64 (q.1 + q.2) = q.1 + q.2 := by unfold wrap64; omega
      obtain ⟨q1, q2⟩ := q
      obtain ⟨xa, xf, xl⟩ := x
      simp only at *
      clear hst hst2 hx hc0 hc1 hc2 hq hz
      by_cases h1 : a < q1
      · have HN : Hid (slFind l 0 L a = slFind l (j + 1) (L.drop (j + 1)) a) := hidb (by rw [HF.out, HST.out, if_neg (by omega)])
        have g3 : ¬ q1 ≤ a := by omega
        --@10
        go_wp2_with (first | (go_at_call 85; (with_reducible refine cp.mono ?_); rintro e w1 ⟨rfl, hb1⟩; have HB1 := hidb hb1; clear hb1))
        go_roundw
        case rel => exact ⟨j + 1, by omega, by go_num, HN, hidb (belF_al (belF_tr HBA.out HB1.out) _)⟩
        case measure => simp [intOf]; omega
      by_cases h2 : a < q1 + q2
      · have HE : Hid (r = some (j, (a - q1).toNat)) := hidb (by rw [← HR.out, HF.out, HST.out, if_pos (by omega)])
        have hsub : wrap64 (a - q1) = a - q1 := by have := HA.out; unfold in64 at this; unfold wrap64; omega
        have g4 : ((a - q1).toNat : Int) = a - q1 := by omega
        have g3 : q1 ≤ a := by omega
        --@11
        go_wp2_with (first | (go_at_call 85; (with_reducible refine cp.mono ?_); rintro e w1 ⟨rfl, hb1⟩; have HB1 := hidb hb1; clear hb1) | (go_quiet (fail)))
        exact bodyPost_ret (v := .tuple #[.int .i64 (j : Int), .int .i64 (a - q1), .bool true]) (by simp [results, Tryz.results109, go_sem]) rfl ⟨by rw [HE.out]; unfold findC; simp only; rw [g4], belowN (belF_al (belF_tr HBA.out HB1.out) _) _⟩
      · have HN : Hid (slFind l 0 L a = slFind l (j + 1) (L.drop (j + 1)) a) := hidb (by rw [HF.out, HST.out, if_neg (by omega)])
        have g3 : q1 ≤ a := by omega
        have g5 : ¬ a < q1 + q2 := by omega
        --@12
        go_wp2_with (first | (go_at_call 85; (with_reducible refine cp.mono ?_); rintro e w1 ⟨rfl, hb1⟩; have HB1 := hidb hb1; clear hb1))
        go_roundw
        case rel => exact ⟨j + 1, by omega, by go_num, HN, hidb (belF_al (belF_tr HBA.out HB1.out) _)⟩
        case measure => simp [intOf]; omega
    · have HE : Hid (r = none) := hidb (by rw [← HR.out, HF.out, List.drop_of_length_le (by rw [HS.out.len]; omega)]; rfl)
      --@13
      go_wp2
      exact bodyPost_ret (v := .tuple #[.int .i64 0, .int .i64 0, .bool false]) (by simp [results, Tryz.results109, go_sem]) rfl ⟨by rw [HE.out]; rfl, HB.out⟩
end
end Go.Proofs.YtlniakcoikhilaaGreatDoor

/- What the code of layer 16 (slots) returns: own, May. -/
namespace Go.Proofs.YtlniakcoikhilaaGreatDoor
open Go.RowKit
set_option linter.unusedVariables false

/-- A value with the fields of its Kind alone. -/
def vOwn (v : VlV) : VlV := if v.kind = 1 then ⟨1, v.bits, 0, 0⟩ else if v.kind = 2 then ⟨2, 0, v.depth, v.slot⟩ else vl0
theorem vMay_own (v : VlV) : vMay v = (decide (v = vOwn v) && decide (0 ≤ v.depth ∧ 0 ≤ v.slot)) := by
  obtain ⟨k, b, d, i⟩ := v
  unfold vMay vOwn vl0
  simp only
  by_cases h1 : k = 1
  · subst h1
    simp only [if_true, VlV.mk.injEq]
    by_cases hd : d = 0 <;> by_cases hi : i = 0 <;> simp [hd, hi]
  · by_cases h2 : k = 2
    · subst h2
      simp
    · rw [if_neg h1, if_neg h2]
      by_cases h0 : k = 0
      · subst h0
        simp
        by_cases hb : b = 0 <;> by_cases hd : d = 0 <;> by_cases hi : i = 0 <;> simp [hb, hd, hi]
      · simp [h0]
        intro h; omega
theorem neq_valS (x y : VlV) (W : World) : (binOp .neq 77 (.agg #[.int .u8 x.kind, .int .u64 x.bits, .int .i64 x.depth, .int .i64 x.slot]) (.agg #[.int .u8 y.kind, .int .u64 y.bits, .int .i64 y.depth, .int .i64 y.slot])).run Tryz.prog W = .ok (.bool (!(decide (x = y)))) W := by
  obtain ⟨a, b, c, d⟩ := x
  obtain ⟨a', b', c', d'⟩ := y
  simp [go_sem]
  by_cases h1 : a = a' <;> by_cases h2 : b = b' <;> by_cases h3 : c = c' <;> by_cases h4 : d = d' <;> simp [h1, h2, h3, h4] <;> omega

end Go.Proofs.YtlniakcoikhilaaGreatDoor

/- What the code of layer 16 (slots) returns: word, Put. -/
namespace Go.Proofs.YtlniakcoikhilaaGreatDoor
open Go.RowKit
set_option linter.unusedVariables false

/-- What stands in a slot of a frame of this depth that has a value; the error's number. -/
def slWord (l : Fns) (L : List FrV) (d : Int) (v : VlV) : Int × Int :=
  if v.kind = 2 then if slAddr l L v.depth v.slot < 0 then (0, 2) else if d < v.depth then (0, 7) else (slAddr l L v.depth v.slot, 0) else (v.bits, 0)
theorem slAddr_top (l : Fns) (hl : ∀ x ∈ l, 0 ≤ x.1 ∧ x.1 ≤ 1000) (L : List FrV) (d i : Int) : slAddr l L d i ≤ 1099511628778 := by
  have hz := slSize_range l hl (L.getD d.toNat fr0)
  unfold slAddr; split <;> omega
section
variable {w : World} {lo hi : Nat} {tp : Option Addr} {l : Fns} {A : Option Addr} {m c : Nat} {L : List FrV}
theorem aStore_one (xs : List Nat) (k u : Nat) (h : k < xs.length) : aStore xs k [u] = xs.set k u := by
  apply List.ext_getElem?
  intro j
  rw [aStore_get _ _ _ (by simp; omega), List.getElem?_set]
  simp only [List.length_cons, List.length_nil]
  by_cases h1 : k = j
  · subst h1
    rw [if_neg (by omega), if_pos (by omega), if_pos rfl, if_pos h]; simp
  · rw [if_neg h1]
    by_cases h2 : j < k
    · rw [if_pos h2]
    · rw [if_neg h2, if_neg (by omega)]
/-- A row of one value that a call lays. -/
theorem vlit_row (X : World) (v : VlV) : VlRow (X.alloc (.cells #[.int .u8 v.kind, .int .u64 v.bits, .int .i64 v.depth, .int .i64 v.slot] 77)) (X.heap.size + 1) (some ⟨X.heap.size, 0, none⟩) 1 [v] := by
  refine ⟨rfl, fun _ => ⟨X.heap.size, 0, rfl, by omega, fun j y hj => ?_⟩⟩
  match j, hj with
  | 0, hj =>
    obtain rfl := Option.some.inj hj
    refine ⟨_, rfl, fun k hk => ?_, rfl⟩
    match k, hk with
    | 0, _ => simp [vlcells]
    | 1, _ => simp [vlcells]
    | 2, _ => simp [vlcells]
    | 3, _ => simp [vlcells]
  | j + 1, hj => simp at hj

end
end Go.Proofs.YtlniakcoikhilaaGreatDoor
