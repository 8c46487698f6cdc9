/- Several texts in one: WlkMath, WlkPlain, LexTail, WlkSizes, WlkMay, WlkAsk, WlkFrame, WlkRef, WlkRef2, RowK, WlkRev, WlkFrames, WlkCode, WlkUsed. -/
import Derived.Test.YtlniakcoikhilaaGreatDoorFrmAll
import Derived.Test.YtlniakcoikhilaaGreatDoorNumMath
import Derived.Test.YtlniakcoikhilaaGreatDoorRows7
import Derived.Test.YtlniakcoikhilaaGreatDoorNumWalks
import Derived.Test.YtlniakcoikhilaaGreatDoorAppendRow
import Derived.Test.YtlniakcoikhilaaGreatDoorShelf
import Derived.Deep.QuietTactic
import Derived.RegionTactic
import Derived.Tactics2
import Derived.BigQuiet
import Derived.Defers
import Derived.Recover
import Derived.Laws.StructEq
import Derived.Shelf.SlicesQ.Reverse
import Derived.Lib.MinMax
/- Frames one behind the other (layer 15): plain functions. No program is named here but for the values. -/
namespace Go.Proofs.YtlniakcoikhilaaGreatDoor
open Go.RowKit
set_option linter.unusedVariables false

/-- A stack: its first address, its size, where its last frame stands. -/
structure StV where
  lo : Int
  size : Int
  sp : Int
deriving DecidableEq
def stC (s : StV) : Value := .agg #[.int .i64 s.lo, .int .i64 s.size, .int .i64 s.sp]
/-- Is there a stack of so many words? -/
def stkSz (n : Int) : Bool := decide (16 ≤ n) && isB n
/-- Is it a stack within so many words? -/
def stMay (s : StV) (words : Int) : Bool := stkSz s.size && decide (s.size ≤ words ∧ 0 ≤ s.lo ∧ s.lo ≤ words - s.size ∧ s.lo ≤ s.sp ∧ s.sp ≤ s.lo + s.size)
/-- One frame more, if one stands there that fits: its end. -/
def wkOne (xs : List Nat) (l : Fns) (hi a : Int) : Option (FrV × Int) :=
  if (frRead xs l a).2 ≠ 0 then none
  else
    let x := (frRead xs l a).1
    let e := a + fWords l x.fn
    if hi < e ∨ (e < hi ∧ x.link ≠ e) ∨ (e = hi ∧ x.link ≠ -1) then none else some (x, e)
/-- The frames from an address on, ahead of those that were met. -/
def wkGo (xs : List Nat) (l : Fns) (hi : Int) : Nat → Int → List FrV → Option (List FrV)
  | 0, a, acc => if a < hi then none else some acc
  | n + 1, a, acc => if a < hi then
      match wkOne xs l hi a with
      | none => none
      | some (x, e) => wkGo xs l hi n e (x :: acc)
    else some acc
/-- The frames of a stack, the bottom one first; the error's number. -/
def wkFrames (xs : List Nat) (l : Fns) (s : StV) : List FrV × Int :=
  if stMay s xs.length = false then ([], 1)
  else match wkGo xs l (s.lo + s.size) (s.lo + s.size - s.sp).toNat s.sp [] with
    | none => ([], 9)
    | some f => (f, 0)

theorem frRead_cases (xs : List Nat) (l : Fns) (a : Int) : ((frRead xs l a).2 ≠ 0 ∧ (frRead xs l a).1 = fr0) ∨ (∃ n : Nat, a = (n : Int) ∧ aIn xs.length a 2 = true ∧ frOk xs l n = true ∧ frRead xs l a = (⟨a, (xs.getD (n + 1) 0 : Nat) - 1, (xs.getD n 0 : Nat) - 1⟩, 0)) := by
  by_cases h : aIn xs.length a 2 = true
  · have hA := of_decide_eq_true h
    obtain ⟨n, rfl⟩ : ∃ n : Nat, a = (n : Int) := ⟨a.toNat, by omega⟩
    cases hk : frOk xs l n with
    | true => exact Or.inr ⟨n, rfl, h, hk, frRead_yes h hk⟩
    | false => exact Or.inl ⟨by rw [frRead_no h hk]; simp, by rw [frRead_no h hk]⟩
  · have h' : aIn xs.length a 2 = false := by simpa using h
    exact Or.inl ⟨by rw [frRead_out h']; simp, by rw [frRead_out h']⟩
/-- What is read is a frame whose words are there. -/
theorem frRead_good {xs : List Nat} {l : Fns} {a : Int} (hl : ∀ x ∈ l, 0 ≤ x.1 ∧ x.1 ≤ 1000) (h : (frRead xs l a).2 = 0) :
    0 ≤ a ∧ (frRead xs l a).1.at_ = a ∧ 0 ≤ (frRead xs l a).1.fn ∧ (frRead xs l a).1.fn < l.length ∧ 2 ≤ fWords l (frRead xs l a).1.fn ∧ fWords l (frRead xs l a).1.fn ≤ 1002 ∧ a + fWords l (frRead xs l a).1.fn ≤ xs.length ∧ -1 ≤ (frRead xs l a).1.link ∧ (frRead xs l a).1.link < xs.length := by
  rcases frRead_cases xs l a with h1 | ⟨n, rfl, h1, h2, h3⟩
  · exact absurd h h1.1
  · rw [h3]
    unfold frOk at h2
    have h2 := of_decide_eq_true h2
    have hc := fWords_cases l hl ((xs.getD (n + 1) 0 : Nat) - 1 : Int)
    refine ⟨by omega, rfl, ?_, ?_, ?_, ?_, ?_, ?_, ?_⟩ <;> simp only <;> omega
theorem wkOne_good {xs : List Nat} {l : Fns} {hi a e : Int} {x : FrV} (hl : ∀ x ∈ l, 0 ≤ x.1 ∧ x.1 ≤ 1000) (h : wkOne xs l hi a = some (x, e)) :
    (frRead xs l a).2 = 0 ∧ x = (frRead xs l a).1 ∧ e = a + fWords l x.fn ∧ a + 2 ≤ e ∧ e ≤ hi ∧ (e < hi → x.link = e) ∧ (e = hi → x.link = -1) ∧ 0 ≤ a ∧ x.at_ = a ∧ e ≤ xs.length := by
  unfold wkOne at h
  by_cases h0 : (frRead xs l a).2 = 0
  · rw [if_neg (by simpa using h0)] at h
    have hg := frRead_good hl h0
    simp only at h
    split at h
    · cases h
    · rename_i hn
      injection h with h
      injection h with h1 h2
      subst h1 h2
      refine ⟨h0, rfl, rfl, by omega, by omega, fun h => ?_, fun h => ?_, hg.1, hg.2.1, hg.2.2.2.2.2.2.1⟩
      · by_cases hh : (frRead xs l a).1.link = a + fWords l (frRead xs l a).1.fn
        · exact hh
        · exact absurd (Or.inr (Or.inl ⟨h, hh⟩)) hn
      · by_cases hh : (frRead xs l a).1.link = -1
        · exact hh
        · exact absurd (Or.inr (Or.inr ⟨h, hh⟩)) hn
  · rw [if_pos h0] at h; cases h
/-- More steps than there are words change nothing. -/
theorem wkGo_more {xs : List Nat} {l : Fns} (hl : ∀ x ∈ l, 0 ≤ x.1 ∧ x.1 ≤ 1000) (hi : Int) : ∀ (n m : Nat) (a : Int) (acc : List FrV), (hi - a).toNat ≤ n → n ≤ m → wkGo xs l hi n a acc = wkGo xs l hi m a acc
  | 0, m, a, acc, h, _ => by
    have ha : ¬ a < hi := by omega
    cases m with
    | zero => rfl
    | succ m => unfold wkGo; rw [if_neg ha, if_neg ha]
  | n + 1, 0, a, acc, h, hm => by omega
  | n + 1, m + 1, a, acc, h, hm => by
    unfold wkGo
    by_cases ha : a < hi
    · rw [if_pos ha, if_pos ha]
      cases hw : wkOne xs l hi a with
      | none => rfl
      | some xe =>
        obtain ⟨x, e⟩ := xe
        have hg := wkOne_good hl hw
        exact wkGo_more hl hi n m e (x :: acc) (by omega) (by omega)
    · rw [if_neg ha, if_neg ha]
/-- One step of the walk. -/
theorem wkGo_step {xs : List Nat} {l : Fns} (hl : ∀ x ∈ l, 0 ≤ x.1 ∧ x.1 ≤ 1000) {hi a e : Int} {x : FrV} {acc : List FrV} (ha : a < hi) (hw : wkOne xs l hi a = some (x, e)) :
    wkGo xs l hi (hi - a).toNat a acc = wkGo xs l hi (hi - e).toNat e (x :: acc) := by
  have hg := wkOne_good hl hw
  obtain ⟨n, hn⟩ : ∃ n, (hi - a).toNat = n + 1 := ⟨(hi - a).toNat - 1, by omega⟩
  rw [hn]
  rw [show wkGo xs l hi (n + 1) a acc = wkGo xs l hi n e (x :: acc) by rw [wkGo, if_pos ha, hw]]
  exact (wkGo_more hl hi _ _ _ _ (by omega) (by omega)).symm
theorem wkGo_none {xs : List Nat} {l : Fns} {hi a : Int} {acc : List FrV} (ha : a < hi) (hw : wkOne xs l hi a = none) : wkGo xs l hi (hi - a).toNat a acc = none := by
  obtain ⟨n, hn⟩ : ∃ n, (hi - a).toNat = n + 1 := ⟨(hi - a).toNat - 1, by omega⟩
  rw [hn, wkGo, if_pos ha, hw]
theorem wkGo_end {xs : List Nat} {l : Fns} {hi a : Int} {acc : List FrV} (ha : ¬ a < hi) : wkGo xs l hi (hi - a).toNat a acc = some acc := by
  rw [show (hi - a).toNat = 0 by omega, wkGo, if_neg ha]
end Go.Proofs.YtlniakcoikhilaaGreatDoor

/- Frames one behind the other (layer 15): plain facts: how they hang together; a frame that is pushed is met. -/
namespace Go.Proofs.YtlniakcoikhilaaGreatDoor
open Go.RowKit
set_option linter.unusedVariables false

/-- The address behind a frame, by a table. -/
def wkEnd (l : Fns) (x : FrV) : Int := x.at_ + fWords l x.fn
/-- Each frame's link, and its end, are the one ahead of it. -/
def Con (l : Fns) : List FrV → Prop
  | [] => True
  | [_] => True
  | x :: y :: r => y.link = x.at_ ∧ wkEnd l y = x.at_ ∧ Con l (y :: r)
theorem wkGo_top {xs : List Nat} {l : Fns} (hl : ∀ x ∈ l, 0 ≤ x.1 ∧ x.1 ≤ 1000) {hi : Int} : ∀ (n : Nat) (a : Int) (acc L : List FrV), wkGo xs l hi n a acc = some L → a ≤ hi → Con l acc →
    (∀ y, acc.head? = some y → wkEnd l y = a ∧ y.link = if a = hi then -1 else a) →
    Con l L ∧ (∀ y, L.head? = some y → wkEnd l y = hi ∧ y.link = -1) ∧ (acc ≠ [] → L.getLast? = acc.getLast?) ∧ (acc = [] → ∀ y, L.getLast? = some y → y.at_ = a) ∧ (∀ y ∈ L, y ∈ acc ∨ ((frRead xs l y.at_) = (y, 0) ∧ a ≤ y.at_))
  | 0, a, acc, L, h, ha, hc, hh => by
    unfold wkGo at h
    split at h
    · cases h
    · rename_i hn
      obtain rfl : acc = L := by injection h
      have e : a = hi := by omega
      refine ⟨hc, fun y hy => ?_, fun _ => rfl, fun h0 y hy => ?_, fun y hy => Or.inl hy⟩
      · have := hh y hy; rw [if_pos e] at this; rw [← e]; exact this
      · rw [h0] at hy; cases hy
  | n + 1, a, acc, L, h, ha, hc, hh => by
    unfold wkGo at h
    by_cases hlt : a < hi
    · rw [if_pos hlt] at h
      cases hw : wkOne xs l hi a with
      | none => rw [hw] at h; cases h
      | some xe =>
        obtain ⟨x, e⟩ := xe
        rw [hw] at h
        have hg := wkOne_good hl hw
        obtain ⟨g1, g2, g3, g4, g5, g6, g7, g8, g9, g10⟩ := hg
        have hc2 : Con l (x :: acc) := by
          cases acc with
          | nil => exact True.intro
          | cons y r =>
            have := hh y rfl
            rw [if_neg (by omega)] at this
            exact ⟨by rw [this.2, g9], by rw [this.1, g9], hc⟩
        have hr := wkGo_top hl n e (x :: acc) L h g5 hc2 (fun y hy => by
          obtain rfl : x = y := by simpa using hy
          refine ⟨by unfold wkEnd; rw [g9, ← g3], ?_⟩
          by_cases he : e = hi
          · rw [if_pos he]; exact g7 he
          · rw [if_neg he]; exact g6 (by omega))
        refine ⟨hr.1, hr.2.1, fun h0 => ?_, fun h0 y hy => ?_, fun y hy => ?_⟩
        · rw [hr.2.2.1 (by simp)]
          cases acc with
          | nil => exact absurd rfl h0
          | cons y r => simp
        · rw [hr.2.2.1 (by simp), h0] at hy
          obtain rfl : x = y := by simpa using hy
          exact g9
        · rcases hr.2.2.2.2 y hy with h1 | h1
          · rcases List.mem_cons.1 h1 with rfl | h1
            · exact Or.inr ⟨by rw [g9]; exact Prod.ext g2.symm g1, by omega⟩
            · exact Or.inl h1
          · exact Or.inr ⟨h1.1, by omega⟩
    · rw [if_neg hlt] at h
      obtain rfl : acc = L := by injection h
      have e : a = hi := by omega
      refine ⟨hc, fun y hy => ?_, fun _ => rfl, fun h0 y hy => ?_, fun y hy => Or.inl hy⟩
      · have := hh y hy; rw [if_pos e] at this; rw [← e]; exact this
      · rw [h0] at hy; cases hy

/-- What stands ahead plays no part. -/
theorem wkGo_acc {xs : List Nat} {l : Fns} {hi : Int} : ∀ (n : Nat) (a : Int) (acc : List FrV), wkGo xs l hi n a acc = (wkGo xs l hi n a []).map (· ++ acc)
  | 0, a, acc => by unfold wkGo; split <;> rfl
  | n + 1, a, acc => by
    unfold wkGo
    by_cases ha : a < hi
    · rw [if_pos ha, if_pos ha]
      cases hw : wkOne xs l hi a with
      | none => rfl
      | some xe =>
        simp only
        rw [wkGo_acc n xe.2 (xe.1 :: acc), wkGo_acc n xe.2 [xe.1], Option.map_map]
        congr 1
        funext z
        simp
    · rw [if_neg ha, if_neg ha]; rfl
theorem frRead_same {xs ys : List Nat} {l : Fns} {a : Int} (hn : xs.length = ys.length) (h0 : xs.getD a.toNat 0 = ys.getD a.toNat 0) (h1 : xs.getD (a.toNat + 1) 0 = ys.getD (a.toNat + 1) 0) : frRead xs l a = frRead ys l a := by
  unfold frRead frOk; rw [hn, h0, h1]
theorem wkOne_same {xs ys : List Nat} {l : Fns} (hl : ∀ x ∈ l, 0 ≤ x.1 ∧ x.1 ≤ 1000) {hi a : Int} (hn : xs.length = ys.length) (ha : 0 ≤ a) (h : ∀ i : Nat, a ≤ (i : Int) → (i : Int) < hi → xs.getD i 0 = ys.getD i 0) : wkOne xs l hi a = wkOne ys l hi a := by
  by_cases h2 : a + 2 ≤ hi
  · have e := frRead_same (l := l) hn (h a.toNat (by omega) (by omega)) (h (a.toNat + 1) (by omega) (by omega))
    unfold wkOne; rw [e]
  · have no : ∀ zs : List Nat, wkOne zs l hi a = none := fun zs => by
      cases hw : wkOne zs l hi a with
      | none => rfl
      | some xe =>
        have hg := wkOne_good hl (x := xe.1) (e := xe.2) hw
        omega
    rw [no, no]
theorem wkGo_same {xs ys : List Nat} {l : Fns} (hl : ∀ x ∈ l, 0 ≤ x.1 ∧ x.1 ≤ 1000) {hi : Int} (hn : xs.length = ys.length) : ∀ (n : Nat) (a : Int) (acc : List FrV), 0 ≤ a → (∀ i : Nat, a ≤ (i : Int) → (i : Int) < hi → xs.getD i 0 = ys.getD i 0) → wkGo xs l hi n a acc = wkGo ys l hi n a acc
  | 0, a, acc, _, _ => rfl
  | n + 1, a, acc, ha, h => by
    unfold wkGo
    rw [wkOne_same hl hn ha h]
    by_cases hlt : a < hi
    · rw [if_pos hlt, if_pos hlt]
      cases hw : wkOne ys l hi a with
      | none => rfl
      | some xe =>
        have hg := wkOne_good hl (x := xe.1) (e := xe.2) hw
        exact wkGo_same hl hn n xe.2 (xe.1 :: acc) (by omega) (fun i h1 h2 => h i (by omega) h2)
    · rw [if_neg hlt, if_neg hlt]
/-- A frame that is pushed in front of frames is met, and they are. -/
theorem wkGo_push {xs ys : List Nat} {l : Fns} (hl : ∀ x ∈ l, 0 ≤ x.1 ∧ x.1 ≤ 1000) {hi lo sp f link at' : Int} {L : List FrV} (hp : frPush xs l lo sp f link = (ys, at', 0)) (hhi : hi ≤ xs.length) (hsp : sp ≤ hi)
    (hlink : link = if sp = hi then -1 else sp) (hL : wkGo xs l hi (hi - sp).toNat sp [] = some L) :
    wkGo ys l hi (hi - at').toNat at' [] = some (L ++ [⟨at', f, link⟩]) ∧ lo ≤ at' ∧ at' < sp ∧ ys.length = xs.length := by
  unfold frPush at hp
  have hr := fWords_cases l hl f
  by_cases c1 : fWords l f < 0 ∨ link < -1 ∨ (xs.length : Int) ≤ link
  · rw [if_pos c1] at hp; injection hp with _ h; injection h with _ h; omega
  · rw [if_neg c1] at hp
    by_cases c2 : lo < 0 ∨ (xs.length : Int) < sp ∨ sp < lo ∨ sp - lo < fWords l f
    · rw [if_pos c2] at hp; injection hp with _ h; injection h with _ h; omega
    · rw [if_neg c2] at hp
      injection hp with h1 h
      injection h with h2 _
      generalize hm : fWords l f = m at *
      obtain ⟨k, rfl⟩ : ∃ k : Nat, m = (k : Int) + 2 := ⟨(m - 2).toNat, by omega⟩
      obtain ⟨s, rfl⟩ : ∃ s : Nat, sp = (s : Int) + ((k : Int) + 2) := ⟨(sp - (k + 2)).toNat, by omega⟩
      have e1 : ((s : Int) + ((k : Int) + 2) - ((k : Int) + 2)) = (s : Int) := by omega
      rw [e1] at h1 h2
      rw [show ((s : Int)).toNat = s from rfl, show ((k : Int) + 2).toNat = k + 2 from rfl] at h1
      subst h2
      have hrl : (frRow (k + 2) f link).length = k + 2 := frRow_length _ (by omega) _ _
      have hlen : ys.length = xs.length := by rw [← h1, aStore_length _ _ _ (by rw [hrl]; omega)]
      have hget : ∀ i, ys.getD i 0 = if i < s then xs.getD i 0 else if i < s + (k + 2) then (frRow (k + 2) f link).getD (i - s) 0 else xs.getD i 0 := fun i => by
        rw [← h1, List.getD_eq_getElem?_getD, aStore_get _ _ _ (by rw [hrl]; omega), hrl]
        split
        · rw [List.getD_eq_getElem?_getD]
        · split <;> rw [List.getD_eq_getElem?_getD]
      have y0 : ys.getD s 0 = (link + 1).toNat := by rw [hget, if_neg (by omega), if_pos (by omega), Nat.sub_self]; rfl
      have y1 : ys.getD (s + 1) 0 = (f + 1).toNat := by rw [hget, if_neg (by omega), if_pos (by omega), show s + 1 - s = 1 by omega]; rfl
      have hf : 0 ≤ f ∧ f < l.length := by omega
      have hin : aIn ys.length (s : Int) 2 = true := by unfold aIn; exact decide_eq_true (by omega)
      have ef : (((f + 1).toNat : Nat) : Int) - 1 = f := by omega
      have el : (((link + 1).toNat : Nat) : Int) - 1 = link := by omega
      have hok : frOk ys l s = true := by
        unfold frOk; rw [y0, y1, ef, hm]; exact decide_eq_true (by omega)
      have hread := frRead_yes hin hok
      rw [y0, y1, ef, el] at hread
      have hone : wkOne ys l hi (s : Int) = some (⟨s, f, link⟩, (s : Int) + ((k : Int) + 2)) := by
        unfold wkOne
        rw [hread]
        simp only
        rw [if_neg (by simp), hm, if_neg]
        rintro (h | ⟨h, h3⟩ | ⟨h, h3⟩)
        · omega
        · exact h3 (by rw [hlink, if_neg (by omega)])
        · exact h3 (by rw [hlink, if_pos h])
      refine ⟨?_, by omega, by omega, hlen⟩
      rw [wkGo_step hl (by omega) hone, wkGo_acc, wkGo_same hl hlen _ _ _ (by omega) (fun i h1 h2 => by rw [hget, if_neg (by omega), if_neg (by omega)]), hL]
      rfl
end Go.Proofs.YtlniakcoikhilaaGreatDoor

/- Regions that draw their order: whose first operations come up one by one, and whose others only read and call. No program is named here. -/
namespace Go.Proofs.YtlniakcoikhilaaGreatDoor
open Go.RowKit
set_option linter.unusedVariables false

section
variable {P : Program} {ops : Array Oper} {md : Region.Mode} {Q : Exit → Act → World → Prop}
theorem wp_begin {id : Nat} {a : Act} {w : World} (hm : P.follows .mixedOrders = true) (n : Nat) (hn : ops.size = n) (h : wpAny P .any ops Q n (Array.replicate n false) a w.drew) : (Code.region id ops true).wp P Q a w := by
  subst hn; exact wp_region_any hm h
/-- One operation alone may come up. -/
theorem wp_one {fuel i : Nat} {o : Oper} {listed : Array Bool} {a : Act} {w : World} (ho : ops[i]? = some o) (hr : Region.ready md ops listed = [i]) (hw : Region.wanted o (yielded ops a.tmps) = true)
    (h : ∀ K : Act → World → Prop, (∀ a w, wpAny P md ops Q fuel (listed.setIfInBounds i true) a w → K a w) → Oper.wp P o a w K Q) : wpAny P md ops Q (fuel + 1) listed a w :=
  wpAny_ready hr (by simp) (AllReady.cons ho (fun K hK => by rw [if_pos hw]; exact h K hK) AllReady.nil)
/-- From here on one walk in the text's order serves: in each world of a class. -/
theorem wp_tail {C : World → Prop} (k n : Nat) (l : List Oper) {listed : Array Bool} {a : Act} {w : World} (hs : Region.noSelect ops = true) (hl : ops.toList.drop k = l) (hn : l.length = n) (hB : Region.lexFrom md ops n k listed = true) (hC : C w)
    (h : wpQuiet P ops C (fun a' => ∀ w', C w' → Q .normal a' w') l a) : wpAny P md ops Q n listed a w := by
  subst hn
  refine wpAny_of_quiet (C := C) (Q := fun a' => ∀ w', C w' → Q .normal a' w') (fun _ w' hw' h => h w' hw') _ _ _ _ hC ?_
  exact wpAnyQ_lex hs l k listed a (fun j => by rw [← hl, List.getElem?_drop, Array.getElem?_toList]) hB h
theorem if_skip {b : Bool} {p q : Prop} (h : b = false) : (if b = true then p else q) = q := by rw [h]; simp
end
end Go.Proofs.YtlniakcoikhilaaGreatDoor

/- Whether there is a stack of so many words, as layer 15 (walk) asks layer 12 (stacks). -/
namespace Go.Proofs.YtlniakcoikhilaaGreatDoor
open Go.RowKit
set_option linter.unusedVariables false

theorem wk_sizes1 (z : Int) (hz : in64 z) (w : World) : Calls Tryz.prog 103 #[.int .i64 z] w fun e w' => e = .returned (.bool (!stkSz z)) ∧ Below w.heap.size w w' := by
  obtain ⟨h0, h1⟩ := hz
  unfold stkSz
  by_cases hl : z < 16
  · rw [decide_eq_false (by omega), Bool.false_and]
    go_enter Tryz.func103, Tryz.ntmps103
    go_wp2
    go_ret
    exact ⟨rfl, Below.refl _ _⟩
  · rw [decide_eq_true (by omega), Bool.true_and]
    have ci := fun W hc => num_is_one w.heap.size z W h0 h1 hc
    obtain ⟨b, hb⟩ : ∃ b, isB z = b := ⟨_, rfl⟩
    rw [hb] at ci ⊢
    clear hb
    go_enter Tryz.func103, Tryz.ntmps103
    cases b with
    | true =>
      go_wp2_with (first | (go_at_call 104; (with_reducible refine (ci _ (by simp)).mono ?_); rintro e w' ⟨rfl, rfl⟩))
      go_ret
      exact ⟨rfl, (Below.refl _ _).alloc (Nat.le_refl _) _⟩
    | false =>
      go_wp2_with (first | (go_at_call 104; (with_reducible refine (ci _ (by simp)).mono ?_); rintro e w' ⟨rfl, rfl⟩))
      go_ret
      exact ⟨rfl, (Below.refl _ _).alloc (Nat.le_refl _) _⟩
/-- slices.IndexFunc of one number. -/
theorem wk_szidx (z : Int) (hz : in64 z) (g : Nat) (w : World) (hc : w.cell? ⟨g, 0, none⟩ = some (.int .i64 z)) (b : Bool) (hb : stkSz z = b) :
    Calls Tryz.prog 92 #[.slice (some ⟨g, 0, none⟩) 1 1, .func (.func 103) #[] #[]] w fun e w' => e = .returned (.int .i64 (if b then -1 else 0)) ∧ Below w.heap.size w w' := by
  have c1 := fun W => wk_sizes1 z hz W
  rw [hb] at c1
  have hlt : g < w.heap.size := lt_of_cell' hc
  have HC : Hid (∀ W, Below w.heap.size w W → W.cell? ⟨g, 0, none⟩ = some (.int .i64 z)) := hidb (fun W hb => (hb.cell (p := ⟨g, 0, none⟩) hlt).trans hc)
  have C1 := hidb c1
  clear c1 hb hc hz hlt
  go_enter Tryz.func92, Tryz.ntmps92
  go_wp2
  go_loopw [8] (fun k wr => ∃ j : Nat, j ≤ 1 ∧ Hid (j = 1 → b = true) ∧ k = .int .i64 j ∧ Hid (Below w.heap.size w wr)) (fun k _ => (1 - intOf k).toNat)
  case atStart => exact ⟨0, by omega, hidb (fun h => absurd h (by decide)), rfl, hidb (Below.refl _ _)⟩
  case round =>
    obtain ⟨j, hj, HA, rfl, HB⟩ := hrel
    by_cases hlt : j < 1
    · obtain rfl : j = 0 := by omega
      have hc := HC.out wr HB.out
      have c1 := C1.out wr
      cases b with
      | false =>
        simp only [Bool.not_false] at c1
        go_wp2_with (first | (go_at_call 103; (with_reducible refine c1.mono ?_); rintro e w1 ⟨rfl, hi1⟩))
        go_ret
        exact ⟨rfl, HB.out.trans (hi1.mono HB.out.size)⟩
      | true =>
        simp only [Bool.not_true] at c1
        go_wp2_with (first | (go_at_call 103; (with_reducible refine c1.mono ?_); rintro e w1 ⟨rfl, hi1⟩))
        go_roundw
        case rel => exact ⟨1, by omega, hidb (by simp), by first | rfl | go_num, hidb (HB.out.trans (hi1.mono HB.out.size))⟩
        case measure => simp [intOf]
    · obtain rfl : j = 1 := by omega
      obtain rfl := HA.out rfl
      go_wp2
      go_ret
      exact ⟨rfl, HB.out⟩
theorem wk_szhas (z : Int) (hz : in64 z) (g : Nat) (w : World) (hc : w.cell? ⟨g, 0, none⟩ = some (.int .i64 z)) (b : Bool) (hb : stkSz z = b) :
    Calls Tryz.prog 73 #[.slice (some ⟨g, 0, none⟩) 1 1, .func (.func 103) #[] #[]] w fun e w' => e = .returned (.bool (!b)) ∧ Below w.heap.size w w' := by
  have c1 := wk_szidx z hz g w hc b hb
  clear hc hb
  go_enter Tryz.func73, Tryz.ntmps73
  cases b with
  | false =>
    simp only [Bool.false_eq_true, if_false] at c1
    go_wp2_with (first | (go_at_call 92; (with_reducible refine c1.mono ?_); rintro e w1 ⟨rfl, hj1⟩))
    go_ret
    exact ⟨rfl, hj1⟩
  | true =>
    simp only [if_true] at c1
    go_wp2_with (first | (go_at_call 92; (with_reducible refine c1.mono ?_); rintro e w1 ⟨rfl, hj1⟩))
    go_ret
    exact ⟨rfl, hj1⟩
/-- Sizes, of one number. -/
theorem wk_sizes (z : Int) (hz : in64 z) (g : Nat) (w : World) (hc : w.cell? ⟨g, 0, none⟩ = some (.int .i64 z)) (b : Bool) (hb : stkSz z = b) :
    Calls Tryz.prog 93 #[.slice (some ⟨g, 0, none⟩) 1 1] w fun e w' => e = .returned (.bool b) ∧ Below w.heap.size w w' := by
  have c1 := wk_szhas z hz g w hc b hb
  clear hc hb
  cases b with
  | true =>
    simp only [Bool.not_true] at c1
    go_enter Tryz.func93, Tryz.ntmps93
    go_wp2_with (first | (go_at_call 73; (with_reducible refine c1.mono ?_); rintro e w1 ⟨rfl, hb1⟩))
    go_ret
    exact ⟨rfl, hb1⟩
  | false =>
    simp only [Bool.not_false] at c1
    go_enter Tryz.func93, Tryz.ntmps93
    go_wp2_with (first | (go_at_call 73; (with_reducible refine c1.mono ?_); rintro e w1 ⟨rfl, hb1⟩))
    go_ret
    exact ⟨rfl, hb1⟩
end Go.Proofs.YtlniakcoikhilaaGreatDoor

/- Layer 15 (walk): whether there are stacks. -/
namespace Go.Proofs.YtlniakcoikhilaaGreatDoor
open Go.RowKit
set_option linter.unusedVariables false

/-- A walker: a stack, an arena, a table. -/
def wkC (s : StV) (ap tp : Option Addr) : Value := .agg #[.int .i64 s.lo, .int .i64 s.size, .int .i64 s.sp, .pointer ap, .pointer tp]
/-- A walker in a block. -/
def WkAt (b : Nat) (lo size sp : Int) (ap tp : Option Addr) (W : World) : Prop := (W.cell? ⟨b, 0, none⟩ = some (.int .i64 lo) ∧ W.cell? ⟨b, 1, none⟩ = some (.int .i64 size)) ∧ (W.cell? ⟨b, 2, none⟩ = some (.int .i64 sp) ∧ W.cell? ⟨b, 3, none⟩ = some (.pointer ap)) ∧ W.cell? ⟨b, 4, none⟩ = some (.pointer tp)
theorem WkAt.new (w : World) (lo size sp : Int) (ap tp : Option Addr) (W : World) (hb : Below (w.heap.size + 1) (w.alloc (.cells #[.int .i64 lo, .int .i64 size, .int .i64 sp, .pointer ap, .pointer tp] 134)) W) : WkAt w.heap.size lo size sp ap tp W := by
  refine ⟨⟨?_, ?_⟩, ⟨?_, ?_⟩, ?_⟩ <;> (rw [hb.cell (by show w.heap.size < _; omega)]; simp)

theorem c_wend (s : StV) (ap tp : Option Addr) (w : World) (hi : Int) (hw : wrap64 (s.lo + s.size) = hi) :
    Calls Tryz.prog 94 #[wkC s ap tp] w fun e w' => e = .returned (.int .i64 hi) ∧ Below w.heap.size w w' := by
  obtain ⟨lo, size, sp⟩ := s
  unfold wkC
  simp only at *
  go_enter Tryz.func94, Tryz.ntmps94
  go_wp2
  go_ret
  exact ⟨(by first | rfl | (rw [hw]; rfl)), (Below.refl _ _).alloc (Nat.le_refl _) _⟩

set_option maxRecDepth 100000 in
set_option maxHeartbeats 4000000 in
theorem c_wmay (s : StV) (p : Nat) (tp : Option Addr) (len : Nat) {w : World} {B g : Nat} {xs : List Nat} (ha : Ar w B p g len xs) (h0 : in64 s.lo) (h1 : in64 s.size) (h2 : in64 s.sp) (b : Bool) (hb : stMay s len = b) :
    Calls Tryz.prog 81 #[wkC s (some ⟨p, 0, none⟩) tp] w fun e w' => e = .returned (.bool b) ∧ Below w.heap.size w w' := by
  obtain ⟨lo, size, sp⟩ := s
  simp only at h0 h1 h2
  have hsm := ha.small
  obtain ⟨W0, hW0⟩ : ∃ W0, W0 = w.alloc (.cells #[.int .i64 lo, .int .i64 size, .int .i64 sp, .pointer (some ⟨p, 0, none⟩), .pointer tp] 134) := ⟨_, rfl⟩
  have hb0 : Below w.heap.size w W0 := by rw [hW0]; exact belF_al (Below.refl _ _) _
  have HC : Hid (∀ W, Below W0.heap.size W0 W → WkAt w.heap.size lo size sp (some ⟨p, 0, none⟩) tp W) := hidb (fun W hb => WkAt.new w lo size sp _ tp W (by rw [hW0] at hb; simpa using hb))
  unfold WkAt at HC
  have HBW : Hid (∀ W, Below W0.heap.size W0 W → Below w.heap.size w W) := hidb (fun W hb => belF_tr hb0 hb)
  have HS : Hid (∀ W (g : Nat) bb, stkSz size = bb → W.cell? ⟨g, 0, none⟩ = some (.int .i64 size) → Calls Tryz.prog 93 #[.slice (some ⟨g, 0, none⟩) 1 1] W fun e w' => e = .returned (.bool bb) ∧ Below W.heap.size W w') := hidb (fun W g bb hbb hc => wk_sizes size h1 g W hc bb hbb)
  have HI : Hid (∀ W bb, aIn len lo size = bb → Below W0.heap.size W0 W → Calls Tryz.prog 66 #[.pointer (some ⟨p, 0, none⟩), .int .i64 lo, .int .i64 size] W fun e w' => e = .returned (.bool bb) ∧ W = w') := hidb (fun W bb hbb hb => by rw [← hbb]; exact code_ain (ha.below (belF_tr hb0 hb) (Nat.le_refl _)) lo size h0 h1)
  have CE : Hid (∀ W hi, wrap64 (lo + size) = hi → Calls Tryz.prog 94 #[.agg #[.int .i64 lo, .int .i64 size, .int .i64 sp, .pointer (some ⟨p, 0, none⟩), .pointer tp]] W fun e w' => e = .returned (.int .i64 hi) ∧ Below W.heap.size W w') := hidb (fun W hi h => c_wend ⟨lo, size, sp⟩ _ tp W hi h)
  unfold stMay at hb
  simp only at hb
  unfold wkC
  simp only
  cases hz : stkSz size with
  | false =>
    rw [hz, Bool.false_and] at hb
    subst hb
    have hs := fun W g => HS.out W g false hz
    have HSS := hidb hs
    have HW0 := hidb hW0
    clear ha hW0 hb0 hz hs HS HI CE h0 h1 h2 hsm
    --@1
    go_enter Tryz.func81, Tryz.ntmps81
    go_wp2
    rw [← HW0.out]
    have hc0 := HC.out W0 (Below.refl _ _)
    refine wp_begin (by kernel_rfl) 34 rfl ?_
    refine wp_one (i := 0) rfl (by kernel_rfl) (by rfl) (fun K hK => ?_)
    go_simp
    refine hK _ _ ?_; clear hK K
    refine wp_one (i := 1) rfl (by kernel_rfl) (by rfl) (fun K hK => ?_)
    go_simp
    refine hK _ _ ?_; clear hK K
    refine wp_one (i := 2) rfl (by kernel_rfl) (by rfl) (fun K hK => ?_)
    go_simp
    refine hK _ _ ?_; clear hK K
    refine wp_one (i := 3) rfl (by kernel_rfl) (by rfl) (fun K hK => ?_)
    go_simp
    refine hK _ _ ?_; clear hK K
    refine wp_one (i := 4) rfl (by kernel_rfl) (by rfl) (fun K hK => ?_)
    go_simp
    refine (HSS.out _ _ (by simp)).mono ?_
    rintro e w1 ⟨rfl, hb1⟩
    go_simp
    have HB1 : Hid (Below W0.heap.size W0 w1) := hidb (belF_tr (by (repeat (first | with_reducible exact Below.refl _ _ | with_reducible exact Hid.out (by assumption) | with_reducible apply belF_al | with_reducible apply belF_dr))) hb1)
    refine hK _ _ ?_; clear hK K hb1 hc0
    have hc1 := HC.out w1 HB1.out
    refine wp_tail (C := fun w' => ∃ n, w' = w1.drewN n) 5 29 _ (by kernel_rfl) rfl (by kernel_rfl) (by kernel_rfl) ⟨0, rfl⟩ ?_
    simp only [List.drop_succ_cons, List.drop_zero]
    repeat (go_big_quiet_step (fail))
    refine wpQuiet_nil ?_
    intro wz hC
    obtain ⟨nq, rfl⟩ := hC
    have HB1 : Hid (Below W0.heap.size W0 (w1.drewN nq)) := hidb (belowN HB1.out nq)
    go_wp2
    go_ret
    exact ⟨rfl, HBW.out _ HB1.out⟩
  | true =>
    rw [hz, Bool.true_and] at hb
    have h16 : 16 ≤ size := by unfold stkSz at hz; simp at hz; exact hz.1
    have hs := fun W g => HS.out W g true hz
    have HSS := hidb hs
    clear hz hs HS
    cases hin : aIn len lo size with
    | false =>
      have hbf : b = false := by rw [← hb]; unfold aIn at hin; have := of_decide_eq_false hin; exact decide_eq_false (by omega)
      subst hbf
      have hi2 := fun W => HI.out W false hin
      have HII := hidb hi2
      have HW0 := hidb hW0
      clear ha hW0 hb0 hb hi2 HI hin CE h0 h1 h2 hsm h16
      --@2
      go_enter Tryz.func81, Tryz.ntmps81
      go_wp2
      rw [← HW0.out]
      have hc0 := HC.out W0 (Below.refl _ _)
      refine wp_begin (by kernel_rfl) 34 rfl ?_
      refine wp_one (i := 0) rfl (by kernel_rfl) (by rfl) (fun K hK => ?_)
      go_simp
      refine hK _ _ ?_; clear hK K
      refine wp_one (i := 1) rfl (by kernel_rfl) (by rfl) (fun K hK => ?_)
      go_simp
      refine hK _ _ ?_; clear hK K
      refine wp_one (i := 2) rfl (by kernel_rfl) (by rfl) (fun K hK => ?_)
      go_simp
      refine hK _ _ ?_; clear hK K
      refine wp_one (i := 3) rfl (by kernel_rfl) (by rfl) (fun K hK => ?_)
      go_simp
      refine hK _ _ ?_; clear hK K
      refine wp_one (i := 4) rfl (by kernel_rfl) (by rfl) (fun K hK => ?_)
      go_simp
      refine (HSS.out _ _ (by simp)).mono ?_
      rintro e w1 ⟨rfl, hb1⟩
      go_simp
      have HB1 : Hid (Below W0.heap.size W0 w1) := hidb (belF_tr (by (repeat (first | with_reducible exact Below.refl _ _ | with_reducible exact Hid.out (by assumption) | with_reducible apply belF_al | with_reducible apply belF_dr))) hb1)
      refine hK _ _ ?_; clear hK K hb1 hc0
      have hc1 := HC.out w1 HB1.out
      have qin := fun q => (HII.out (w1.drewN q) (belowN HB1.out q)).mono fun e w' h => (⟨h.1, q, h.2.symm⟩ : _ ∧ ∃ m, w' = w1.drewN m)
      refine wp_tail (C := fun w' => ∃ n, w' = w1.drewN n) 5 29 _ (by kernel_rfl) rfl (by kernel_rfl) (by kernel_rfl) ⟨0, rfl⟩ ?_
      simp only [List.drop_succ_cons, List.drop_zero]
      repeat (go_big_quiet_step (first | (go_at_call 66; (with_reducible exact qin _))))
      refine wpQuiet_nil ?_
      intro wz hC
      obtain ⟨nq, rfl⟩ := hC
      have HB1 : Hid (Below W0.heap.size W0 (w1.drewN nq)) := hidb (belowN HB1.out nq)
      go_wp2
      go_ret
      exact ⟨rfl, HBW.out _ HB1.out⟩
    | true =>
      have hin' := hin
      unfold aIn at hin'
      have hin' := of_decide_eq_true hin'
      have hi2 := fun W => HI.out W true hin
      have HII := hidb hi2
      have hw : wrap64 (lo + size) = lo + size := by unfold wrap64; omega
      have ce2 := fun W => CE.out W _ hw
      have CEE := hidb ce2
      by_cases hlo : sp < lo
      · have hbf : b = false := by rw [← hb]; exact decide_eq_false (by omega)
        subst hbf
        have HW0 := hidb hW0
        clear ha hW0 hb0 hb hi2 HI hin CE h0 h1 h2 hsm h16 hin' hw ce2
        have hd : decide (lo ≤ sp) = false := decide_eq_false (by omega)
        --@3
        go_enter Tryz.func81, Tryz.ntmps81
        go_wp2
        rw [← HW0.out]
        have hc0 := HC.out W0 (Below.refl _ _)
        refine wp_begin (by kernel_rfl) 34 rfl ?_
        refine wp_one (i := 0) rfl (by kernel_rfl) (by rfl) (fun K hK => ?_)
        go_simp
        refine hK _ _ ?_; clear hK K
        refine wp_one (i := 1) rfl (by kernel_rfl) (by rfl) (fun K hK => ?_)
        go_simp
        refine hK _ _ ?_; clear hK K
        refine wp_one (i := 2) rfl (by kernel_rfl) (by rfl) (fun K hK => ?_)
        go_simp
        refine hK _ _ ?_; clear hK K
        refine wp_one (i := 3) rfl (by kernel_rfl) (by rfl) (fun K hK => ?_)
        go_simp
        refine hK _ _ ?_; clear hK K
        refine wp_one (i := 4) rfl (by kernel_rfl) (by rfl) (fun K hK => ?_)
        go_simp
        refine (HSS.out _ _ (by simp)).mono ?_
        rintro e w1 ⟨rfl, hb1⟩
        go_simp
        have HB1 : Hid (Below W0.heap.size W0 w1) := hidb (belF_tr (by (repeat (first | with_reducible exact Below.refl _ _ | with_reducible exact Hid.out (by assumption) | with_reducible apply belF_al | with_reducible apply belF_dr))) hb1)
        refine hK _ _ ?_; clear hK K hb1 hc0
        have hc1 := HC.out w1 HB1.out
        have qin := fun q => (HII.out (w1.drewN q) (belowN HB1.out q)).mono fun e w' h => (⟨h.1, q, h.2.symm⟩ : _ ∧ ∃ m, w' = w1.drewN m)
        refine wp_tail (C := fun w' => ∃ n, w' = w1.drewN n) 5 29 _ (by kernel_rfl) rfl (by kernel_rfl) (by kernel_rfl) ⟨0, rfl⟩ ?_
        simp only [List.drop_succ_cons, List.drop_zero]
        repeat (go_big_quiet_step (first | (go_at_call 66; (with_reducible exact qin _))))
        refine wpQuiet_nil ?_
        intro wz hC
        obtain ⟨nq, rfl⟩ := hC
        have HB1 : Hid (Below W0.heap.size W0 (w1.drewN nq)) := hidb (belowN HB1.out nq)
        go_wp2
        go_ret
        exact ⟨rfl, HBW.out _ HB1.out⟩
      · have hbt : decide (sp ≤ lo + size) = b := by rw [← hb, decide_eq_decide]; omega
        have hd : decide (lo ≤ sp) = true := decide_eq_true (by omega)
        have HW0 := hidb hW0
        clear ha hW0 hb0 hb hi2 HI hin CE h0 h1 h2 hsm h16 hin' ce2
        --@4
        go_enter Tryz.func81, Tryz.ntmps81
        go_wp2
        rw [← HW0.out]
        (first | go_region_held3 (fun W => (W.cell? ⟨w.heap.size, 0, none⟩ = some (.int .i64 lo) ∧ W.cell? ⟨w.heap.size, 1, none⟩ = some (.int .i64 size)) ∧ (W.cell? ⟨w.heap.size, 2, none⟩ = some (.int .i64 sp) ∧ W.cell? ⟨w.heap.size, 3, none⟩ = some (.pointer (some ⟨p, 0, none⟩))) ∧ W.cell? ⟨w.heap.size, 4, none⟩ = some (.pointer tp))
        (first | ((with_reducible refine HC.out _ ?_); (repeat (first | with_reducible exact Below.refl _ _ | with_reducible exact Hid.out (by assumption) | with_reducible apply belF_al | with_reducible apply belF_dr)); done) | (go_keep; done))
        (first
          | (go_at_call 93; (refine (HSS.out _ _ (by simp)).mono ?_); rintro e w1 ⟨rfl, hb1⟩; have HB1 : Hid (Below W0.heap.size W0 w1) := hidb (belF_tr (by (repeat (first | with_reducible exact Below.refl _ _ | with_reducible exact Hid.out (by assumption) | with_reducible apply belF_al | with_reducible apply belF_dr))) hb1); have hc1 := HC.out w1 HB1.out; clear hb1)
          | (go_at_call 66; (refine (HII.out _ HB1.out).mono ?_); rintro e w2 ⟨rfl, rfl⟩)
          | (go_at_call 94; (refine (CEE.out _).mono ?_); rintro e w3 ⟨rfl, hb3⟩; have HB3 : Hid (Below W0.heap.size W0 w3) := hidb (belF_tr HB1.out hb3); have hc3 := HC.out w3 HB3.out; clear hb3)) | fail)
        go_wp2
        go_ret
        exact ⟨(by first | exact congrArg Ending.returned (congrArg Value.bool hbt) | (rw [← hbt]; rfl)), HBW.out _ HB3.out⟩
end Go.Proofs.YtlniakcoikhilaaGreatDoor

/- Layer 15 (walk): whether a stack is there, as it is asked at the face. -/
namespace Go.Proofs.YtlniakcoikhilaaGreatDoor
open Go.RowKit
set_option linter.unusedVariables false

section
variable {w : World} {B p g len : Nat} {xs : List Nat}
theorem c_wmay1 (s : StV) (t : Nat) (ha : Ar w B p g len xs) (ht : w.cell? ⟨t, 0, none⟩ = some (.pointer (some ⟨p, 0, none⟩))) (h0 : in64 s.lo) (h1 : in64 s.size) (h2 : in64 s.sp) (b : Bool) (hb : stMay s len = b) :
    Calls Tryz.prog 80 #[stC s, .pointer (some ⟨t, 0, none⟩)] w fun e w' => e = .returned (.bool (!b)) ∧ Below w.heap.size w w' := by
  have hb0 := belF_al (Below.refl w.heap.size w) (.cells #[.int .i64 s.lo, .int .i64 s.size, .int .i64 s.sp] 25)
  have cm := c_wmay s p none len (ha.below hb0 (Nat.le_refl _)) h0 h1 h2 b hb
  have hlt := lt_of_cell' ht
  have ht2 : (w.alloc (.cells #[.int .i64 s.lo, .int .i64 s.size, .int .i64 s.sp] 25)).cell? ⟨t, 0, none⟩ = some (.pointer (some ⟨p, 0, none⟩)) := (World.cell?_alloc_lt w _ _ hlt).trans ht
  have HB := hidb hb0
  obtain ⟨lo, size, sp⟩ := s
  unfold wkC at cm
  unfold stC
  simp only at *
  clear ha ht h0 h1 h2 hb hb0 hlt
  cases b with
  | true =>
    go_enter Tryz.func80, Tryz.ntmps80
    go_wp2_with (first | (go_at_call 81; (with_reducible refine cm.mono ?_); rintro e w1 ⟨rfl, hb1⟩))
    go_ret
    exact ⟨rfl, belF_tr HB.out hb1⟩
  | false =>
    go_enter Tryz.func80, Tryz.ntmps80
    go_wp2_with (first | (go_at_call 81; (with_reducible refine cm.mono ?_); rintro e w1 ⟨rfl, hb1⟩))
    go_ret
    exact ⟨rfl, belF_tr HB.out hb1⟩
/-- slices.IndexFunc of one stack. -/
theorem c_wstidx (s : StV) (t q : Nat) (ha : Ar w B p g len xs) (ht : w.cell? ⟨t, 0, none⟩ = some (.pointer (some ⟨p, 0, none⟩))) (hq : w.cell? ⟨q, 0, none⟩ = some (.int .i64 s.lo) ∧ w.cell? ⟨q, 1, none⟩ = some (.int .i64 s.size) ∧ w.cell? ⟨q, 2, none⟩ = some (.int .i64 s.sp)) (h0 : in64 s.lo) (h1 : in64 s.size) (h2 : in64 s.sp) (b : Bool) (hb : stMay s len = b) :
    Calls Tryz.prog 75 #[.slice (some ⟨q, 0, none⟩) 1 1, .func (.func 80) #[] #[.pointer (some ⟨t, 0, none⟩)]] w fun e w' => e = .returned (.int .i64 (if b then -1 else 0)) ∧ Below w.heap.size w w' := by
  have hlt := lt_of_cell' ht
  have hlq := lt_of_cell' hq.1
  have C1 : Hid (∀ W, Below w.heap.size w W → Calls Tryz.prog 80 #[stC s, .pointer (some ⟨t, 0, none⟩)] W fun e w' => e = .returned (.bool (!b)) ∧ Below W.heap.size W w') := hidb (fun W hb' => c_wmay1 s t (ha.below hb' (Nat.le_refl _)) ((hb'.cell (p := ⟨t, 0, none⟩) hlt).trans ht) h0 h1 h2 b hb)
  have HC : Hid (∀ W, Below w.heap.size w W → W.cell? ⟨q, 0, none⟩ = some (.int .i64 s.lo) ∧ W.cell? ⟨q, 1, none⟩ = some (.int .i64 s.size) ∧ W.cell? ⟨q, 2, none⟩ = some (.int .i64 s.sp)) := hidb (fun W hb => ⟨(hb.cell (p := ⟨q, 0, none⟩) hlq).trans hq.1, (hb.cell (p := ⟨q, 1, none⟩) hlq).trans hq.2.1, (hb.cell (p := ⟨q, 2, none⟩) hlq).trans hq.2.2⟩)
  obtain ⟨lo, size, sp⟩ := s
  unfold stC at C1
  simp only at *
  clear ha ht hq h0 h1 h2 hb hlt hlq
  go_enter Tryz.func75, Tryz.ntmps75
  go_wp2
  go_loopw [8] (fun k wr => ∃ j : Nat, j ≤ 1 ∧ Hid (j = 1 → b = true) ∧ k = .int .i64 j ∧ Hid (Below w.heap.size w wr)) (fun k _ => (1 - intOf k).toNat)
  case atStart => exact ⟨0, by omega, hidb (fun h => absurd h (by decide)), rfl, hidb (Below.refl _ _)⟩
  case round =>
    obtain ⟨j, hj, HA, rfl, HB⟩ := hrel
    by_cases hlt : j < 1
    · obtain rfl : j = 0 := by omega
      obtain ⟨hc0, hc1, hc2⟩ := HC.out wr HB.out
      have c1 := C1.out wr HB.out
      cases b with
      | false =>
        simp only [Bool.not_false] at c1
        go_wp2_with (first | (go_at_call 80; (with_reducible refine c1.mono ?_); rintro e w1 ⟨rfl, hi1⟩))
        go_ret
        exact ⟨rfl, HB.out.trans (hi1.mono HB.out.size)⟩
      | true =>
        simp only [Bool.not_true] at c1
        go_wp2_with (first | (go_at_call 80; (with_reducible refine c1.mono ?_); rintro e w1 ⟨rfl, hi1⟩))
        go_roundw
        case rel => exact ⟨1, by omega, hidb (by simp), by first | rfl | go_num, hidb (HB.out.trans (hi1.mono HB.out.size))⟩
        case measure => simp [intOf]
    · obtain rfl : j = 1 := by omega
      obtain rfl := HA.out rfl
      go_wp2
      go_ret
      exact ⟨rfl, HB.out⟩
theorem c_wsthas (s : StV) (t q : Nat) (ha : Ar w B p g len xs) (ht : w.cell? ⟨t, 0, none⟩ = some (.pointer (some ⟨p, 0, none⟩))) (hq : w.cell? ⟨q, 0, none⟩ = some (.int .i64 s.lo) ∧ w.cell? ⟨q, 1, none⟩ = some (.int .i64 s.size) ∧ w.cell? ⟨q, 2, none⟩ = some (.int .i64 s.sp)) (h0 : in64 s.lo) (h1 : in64 s.size) (h2 : in64 s.sp) (b : Bool) (hb : stMay s len = b) :
    Calls Tryz.prog 44 #[.slice (some ⟨q, 0, none⟩) 1 1, .func (.func 80) #[] #[.pointer (some ⟨t, 0, none⟩)]] w fun e w' => e = .returned (.bool (!b)) ∧ Below w.heap.size w w' := by
  have c1 := c_wstidx s t q ha ht hq h0 h1 h2 b hb
  clear ha ht hq h0 h1 h2 hb
  go_enter Tryz.func44, Tryz.ntmps44
  cases b with
  | false =>
    simp only [Bool.false_eq_true, if_false] at c1
    go_wp2_with (first | (go_at_call 75; (with_reducible refine c1.mono ?_); rintro e w1 ⟨rfl, hj1⟩))
    go_ret
    exact ⟨rfl, hj1⟩
  | true =>
    simp only [if_true] at c1
    go_wp2_with (first | (go_at_call 75; (with_reducible refine c1.mono ?_); rintro e w1 ⟨rfl, hj1⟩))
    go_ret
    exact ⟨rfl, hj1⟩
/-- May, of one stack. -/
theorem code_wmay (s : StV) (q : Nat) (ha : Ar w B p g len xs) (hq : w.cell? ⟨q, 0, none⟩ = some (.int .i64 s.lo) ∧ w.cell? ⟨q, 1, none⟩ = some (.int .i64 s.size) ∧ w.cell? ⟨q, 2, none⟩ = some (.int .i64 s.sp)) (h0 : in64 s.lo) (h1 : in64 s.size) (h2 : in64 s.sp) (b : Bool) (hb : stMay s len = b) :
    Calls Tryz.prog 58 #[.pointer (some ⟨p, 0, none⟩), .slice (some ⟨q, 0, none⟩) 1 1] w fun e w' => e = .returned (.bool b) ∧ Below w.heap.size w w' := by
  obtain ⟨X, hX⟩ : ∃ X, X = w.alloc (.cells #[.pointer (some ⟨p, 0, none⟩)] 32) := ⟨_, rfl⟩
  have hbX : Below w.heap.size w X := by rw [hX]; exact belF_al (Below.refl _ _) _
  have hlq := lt_of_cell' hq.1
  have c1 := c_wsthas s w.heap.size q (ha.below hbX (Nat.le_refl _)) (by rw [hX]; simp) ⟨(hbX.cell (p := ⟨q, 0, none⟩) hlq).trans hq.1, (hbX.cell (p := ⟨q, 1, none⟩) hlq).trans hq.2.1, (hbX.cell (p := ⟨q, 2, none⟩) hlq).trans hq.2.2⟩ h0 h1 h2 b hb
  have HB := hidb hbX
  have HX := hidb hX
  clear ha hq h0 h1 h2 hb hX hbX hlq
  cases b with
  | true =>
    simp only [Bool.not_true] at c1
    go_enter Tryz.func58, Tryz.ntmps58
    go_wp2_with (first | (go_at_call 44; rw [← HX.out]; (with_reducible refine c1.mono ?_); rintro e w1 ⟨rfl, hb1⟩))
    go_ret
    exact ⟨rfl, belF_tr HB.out hb1⟩
  | false =>
    simp only [Bool.not_false] at c1
    go_enter Tryz.func58, Tryz.ntmps58
    go_wp2_with (first | (go_at_call 44; rw [← HX.out]; (with_reducible refine c1.mono ?_); rintro e w1 ⟨rfl, hb1⟩))
    go_ret
    exact ⟨rfl, belF_tr HB.out hb1⟩
end
/-- slices.IndexFunc of no stack. -/
theorem c_wstidx0 (v : Value) (w : World) :
    Calls Tryz.prog 75 #[.slice none 0 0, v] w fun e w' => e = .returned (.int .i64 (-1)) ∧ w = w' := by
  go_enter Tryz.func75, Tryz.ntmps75
  go_wp2
  go_loop [8] (fun k => k = .int .i64 0) (fun _ => 0)
  case atStart => rfl
  case round =>
    obtain rfl := hrel
    go_wp2
    go_ret
    exact ⟨rfl, rfl⟩
/-- May, of none. -/
theorem code_wmay0 (ap : Option Addr) (w : World) :
    Calls Tryz.prog 58 #[.pointer ap, .slice none 0 0] w fun e w' => e = .returned (.bool true) ∧ Below w.heap.size w w' := by
  have c0 := fun v W => c_wstidx0 v W
  have c1 : ∀ v W, Calls Tryz.prog 44 #[.slice none 0 0, v] W fun e w' => e = .returned (.bool false) ∧ W = w' := fun v W => by
    go_enter Tryz.func44, Tryz.ntmps44
    go_wp2_with (first | (go_at_call 75; (with_reducible refine (c0 _ _).mono ?_); rintro e w1 ⟨rfl, rfl⟩))
    go_ret
    exact ⟨rfl, rfl⟩
  clear c0
  go_enter Tryz.func58, Tryz.ntmps58
  go_wp2_with (first | (go_at_call 44; (with_reducible refine (c1 _ _).mono ?_); rintro e w1 ⟨rfl, rfl⟩))
  go_ret
  exact ⟨rfl, belF_al (Below.refl _ _) _⟩
end Go.Proofs.YtlniakcoikhilaaGreatDoor

/- Layer 15 (walk): one frame of a stack, or what is thrown. -/
namespace Go.Proofs.YtlniakcoikhilaaGreatDoor
open Go.RowKit
set_option linter.unusedVariables false

/-- What is thrown where there is no stack, and no frame. -/
def noStack : PanicEntry := { v := .iface 135 (.agg #[]), recovered := false }
def noFrame : PanicEntry := { v := .iface 151 (.agg #[]), recovered := false }
theorem wstackless_yes (W : World) (v : Value) : (Instr.typeAssert (.iface 135 v) 20 135 true).run Tryz.prog W = .ok (.tuple #[v, .bool true]) W := by kernel_rfl
theorem wstackless_no (W : World) (v : Value) : (Instr.typeAssert (.iface 151 v) 20 135 true).run Tryz.prog W = .ok (.tuple #[.agg #[], .bool false]) W := by kernel_rfl
theorem wframeless_yes (W : World) (v : Value) : (Instr.typeAssert (.iface 151 v) 20 151 true).run Tryz.prog W = .ok (.tuple #[v, .bool true]) W := by kernel_rfl
theorem wnil_no (W : World) (T : TypeId) (v : Value) : (binOp .eql 20 (.iface T v) .nilIface).run Tryz.prog W = .ok (.bool false) W := by kernel_rfl
theorem wnil_yes (W : World) : (binOp .eql 20 .nilIface .nilIface).run Tryz.prog W = .ok (.bool true) W := by kernel_rfl
theorem c_wtold0 (w : World) : Calls Tryz.prog 83 #[.nilIface] w fun e w' => e = .returned (.int .i64 0) ∧ w = w' := by
  have q := fun W => wnil_yes W
  go_enter Tryz.func83, Tryz.ntmps83
  go_wp2
  go_ret
  exact ⟨rfl, rfl⟩
theorem c_wtold1 (w : World) : Calls Tryz.prog 83 #[.iface 135 (.agg #[])] w fun e w' => e = .returned (.int .i64 1) ∧ w' = w.alloc (.cells #[] 135) := by
  have q := fun W => wnil_no W 135 (.agg #[])
  have qa := fun W => wstackless_yes W (.agg #[])
  go_enter Tryz.func83, Tryz.ntmps83
  go_wp2
  go_ret
  exact ⟨rfl, rfl⟩
theorem c_wtold9 (w : World) : Calls Tryz.prog 83 #[.iface 151 (.agg #[])] w fun e w' => e = .returned (.int .i64 9) ∧ w' = w.alloc (.cells #[] 151) := by
  have q := fun W => wnil_no W 151 (.agg #[])
  have qa := fun W => wstackless_no W (.agg #[])
  have qb := fun W => wframeless_yes W (.agg #[])
  go_enter Tryz.func83, Tryz.ntmps83
  go_wp2
  go_ret
  exact ⟨rfl, rfl⟩

theorem c_wlink (s : StV) (ap tp : Option Addr) (next hi : Int) (w : World) (hw : wrap64 (s.lo + s.size) = hi) :
    Calls Tryz.prog 106 #[wkC s ap tp, .int .i64 next] w fun e w' => e = .returned (.int .i64 (if next = hi then -1 else next)) ∧ Below w.heap.size w w' := by
  have ce := fun W => c_wend s ap tp W hi hw
  obtain ⟨lo, size, sp⟩ := s
  have hb0 := hidb (belF_al (Below.refl w.heap.size w) (.cells #[.int .i64 lo, .int .i64 size, .int .i64 sp, .pointer ap, .pointer tp] 134))
  unfold wkC at *
  simp only at *
  clear hw
  by_cases h : next = hi
  · rw [if_pos h]
    have hd : (next == hi) = true := by simpa using h
    clear h
    go_enter Tryz.func106, Tryz.ntmps106
    go_wp2_with (first | (go_at_call 94; (with_reducible refine (ce _).mono ?_); rintro e w1 ⟨rfl, hb1⟩))
    go_ret
    exact ⟨rfl, belF_tr hb0.out hb1⟩
  · rw [if_neg h]
    have hd : (next == hi) = false := by simpa using h
    clear h
    go_enter Tryz.func106, Tryz.ntmps106
    go_wp2_with (first | (go_at_call 94; (with_reducible refine (ce _).mono ?_); rintro e w1 ⟨rfl, hb1⟩))
    go_ret
    exact ⟨rfl, belF_tr hb0.out hb1⟩
/-- What is asked of a frame's link. -/
def wkLk (e hi : Int) : Int := if e = hi then -1 else e
theorem wkOne_bad {xs : List Nat} {l : Fns} {hi a : Int} (h : wkOne xs l hi a = none) : (frRead xs l a).2 ≠ 0 ∨ ((frRead xs l a).2 = 0 ∧ hi < a + fWords l (frRead xs l a).1.fn) ∨ ((frRead xs l a).2 = 0 ∧ a + fWords l (frRead xs l a).1.fn ≤ hi ∧ (frRead xs l a).1.link ≠ wkLk (a + fWords l (frRead xs l a).1.fn) hi) := by
  unfold wkOne at h
  by_cases h0 : (frRead xs l a).2 = 0
  · rw [if_neg (by simpa using h0)] at h
    simp only at h
    split at h
    · rename_i hb
      by_cases h1 : hi < a + fWords l (frRead xs l a).1.fn
      · exact Or.inr (Or.inl ⟨h0, h1⟩)
      · refine Or.inr (Or.inr ⟨h0, by omega, ?_⟩)
        unfold wkLk
        rcases hb with hb | hb | hb
        · exact absurd hb h1
        · rw [if_neg (by omega)]; exact hb.2
        · rw [if_pos hb.1]; exact hb.2
    · cases h
  · exact Or.inl h0
theorem wkOne_okLk {xs : List Nat} {l : Fns} {hi a e : Int} {x : FrV} (hl : ∀ x ∈ l, 0 ≤ x.1 ∧ x.1 ≤ 1000) (h : wkOne xs l hi a = some (x, e)) : x.link = wkLk e hi := by
  have hg := wkOne_good hl h
  unfold wkLk
  by_cases h1 : e = hi
  · rw [if_pos h1]; exact hg.2.2.2.2.2.2.1 h1
  · rw [if_neg h1]; exact hg.2.2.2.2.2.1 (by omega)

section
variable {w : World} {B p g len : Nat} {xs : List Nat} {lo' hi' : Nat} {tp : Option Addr} {l : Fns}
/-- A walker's call of frame: its cells, and the result's. -/
def FW (w : World) (lo size sp : Int) (ap tp : Option Addr) : World := (w.alloc (.cells #[.int .i64 lo, .int .i64 size, .int .i64 sp, .pointer ap, .pointer tp] 134)).alloc (.cells #[.int .i64 0, .int .i64 0, .int .i64 0] 71)
theorem FW.bel (w : World) (lo size sp : Int) (ap tp : Option Addr) : Below w.heap.size w (FW w lo size sp ap tp) := belF_al (belF_al (Below.refl _ _) _) _
theorem FW.size (w : World) (lo size sp : Int) (ap tp : Option Addr) : (FW w lo size sp ap tp).heap.size = w.heap.size + 2 := by unfold FW; simp
theorem FW.cells (w : World) (lo size sp : Int) (ap tp : Option Addr) (W : World) (hb : Below (FW w lo size sp ap tp).heap.size (FW w lo size sp ap tp) W) : (W.cell? ⟨w.heap.size, 0, none⟩ = some (.int .i64 lo) ∧ W.cell? ⟨w.heap.size, 1, none⟩ = some (.int .i64 size)) ∧ (W.cell? ⟨w.heap.size, 2, none⟩ = some (.int .i64 sp) ∧ W.cell? ⟨w.heap.size, 3, none⟩ = some (.pointer ap)) ∧ W.cell? ⟨w.heap.size, 4, none⟩ = some (.pointer tp) := by
  have hz := FW.size w lo size sp ap tp
  refine ⟨⟨?_, ?_⟩, ⟨?_, ?_⟩, ?_⟩ <;> (rw [hb.cell (by show w.heap.size < _; omega)]; unfold FW; rw [World.cell?_alloc_lt _ _ _ (by simp)]; simp)
theorem FW.zeros (w : World) (lo size sp : Int) (ap tp : Option Addr) (W : World) (hb : Below (FW w lo size sp ap tp).heap.size (FW w lo size sp ap tp) W) : (W.cell? ⟨w.heap.size + 1, 0, none⟩ = some (.int .i64 0) ∧ W.cell? ⟨w.heap.size + 1, 1, none⟩ = some (.int .i64 0) ∧ W.cell? ⟨w.heap.size + 1, 2, none⟩ = some (.int .i64 0)) ∧ W.frozen? ⟨w.heap.size + 1, 0, none⟩ = false ∧ W.frozen? ⟨w.heap.size + 1, 1, none⟩ = false ∧ W.frozen? ⟨w.heap.size + 1, 2, none⟩ = false := by
  have hz := FW.size w lo size sp ap tp
  have e : w.heap.size + 1 = (w.alloc (.cells #[.int .i64 lo, .int .i64 size, .int .i64 sp, .pointer ap, .pointer tp] 134)).heap.size := by simp
  refine ⟨⟨?_, ?_, ?_⟩, ?_, ?_, ?_⟩
  · rw [hb.cell (by show w.heap.size + 1 < _; omega)]; unfold FW; rw [e]; exact World.cell?_alloc_at _ _ _ 0 (by simp)
  · rw [hb.cell (by show w.heap.size + 1 < _; omega)]; unfold FW; rw [e]; exact World.cell?_alloc_at _ _ _ 1 (by simp)
  · rw [hb.cell (by show w.heap.size + 1 < _; omega)]; unfold FW; rw [e]; exact World.cell?_alloc_at _ _ _ 2 (by simp)
  · rw [hb.frozen (by show w.heap.size + 1 < _; omega)]; unfold FW; simp [go_sem]
  · rw [hb.frozen (by show w.heap.size + 1 < _; omega)]; unfold FW; simp [go_sem]
  · rw [hb.frozen (by show w.heap.size + 1 < _; omega)]; unfold FW; simp [go_sem]

set_option maxRecDepth 100000 in
set_option maxHeartbeats 4000000 in
theorem c_wframe_no (s : StV) (hi a : Int) (ha : Ar w B p g len xs) (ht : TbO w lo' hi' tp l) (hhi : hi' ≤ w.heap.size) (hl : ∀ x ∈ l, 0 ≤ x.1 ∧ x.1 ≤ 1000) (hx : Wd xs) (h0 : in64 a) (hw : wrap64 (s.lo + s.size) = hi) (hbad : wkOne xs l hi a = none) :
    Calls Tryz.prog 95 #[wkC s (some ⟨p, 0, none⟩) tp, .int .i64 a] w fun e w' => e = .panicked [noFrame] ∧ Below w.heap.size w w' := by
  have hsm := ha.small
  have hxl := ha.hlen
  obtain ⟨lo, size, sp⟩ := s
  simp only at hw
  have HBX := hidb (FW.bel w lo size sp (some ⟨p, 0, none⟩) tp)
  have HC := hidb (FW.cells w lo size sp (some ⟨p, 0, none⟩) tp)
  have KR : Hid (Calls Tryz.prog 105 #[.pointer (some ⟨p, 0, none⟩), .pointer tp, .int .i64 a] (FW w lo size sp (some ⟨p, 0, none⟩) tp) fun e w' => e = .returned (.tuple #[frC (frRead xs l a).1, .int .i64 (frRead xs l a).2]) ∧ Below (FW w lo size sp (some ⟨p, 0, none⟩) tp).heap.size (FW w lo size sp (some ⟨p, 0, none⟩) tp) w') := hidb (code_frread (ha.below HBX.out (Nat.le_refl _)) (ht.below (HBX.out.mono hhi)) (Nat.le_trans hhi HBX.out.size) hl hx a h0)
  have KE : Hid (∀ W x, Below w.heap.size w W → frNear x → Calls Tryz.prog 97 #[.pointer tp, frC x] W fun e w' => e = .returned (.int .i64 (frEnd l x)) ∧ Below W.heap.size W w') := hidb (fun W x hb hn => code_frend (ht.below (hb.mono hhi)) (Nat.le_trans hhi hb.size) hl x hn)
  have CE := fun W => c_wend ⟨lo, size, sp⟩ (some ⟨p, 0, none⟩) tp W hi hw
  have CL := fun W next => c_wlink ⟨lo, size, sp⟩ (some ⟨p, 0, none⟩) tp next hi W hw
  obtain ⟨⟨va, vf, vl⟩, hv⟩ : ∃ v, (frRead xs l a).1 = v := ⟨_, rfl⟩
  obtain ⟨no, hno⟩ : ∃ no, (frRead xs l a).2 = no := ⟨_, rfl⟩
  have hbad := wkOne_bad hbad
  rw [hv, hno] at hbad
  have cr := KR.out
  rw [hv, hno] at cr
  have hgood := frRead_good hl (a := a) (xs := xs)
  rw [hv, hno] at hgood
  unfold wkC noFrame at *
  unfold frC at *
  simp only at *
  by_cases hn0 : no = 0
  · subst hn0
    have hgood := hgood rfl
    obtain ⟨q1, rfl, q3, q4, q5, q6, q7, q8, q9⟩ := hgood
    have HN : Hid (frNear ⟨va, vf, vl⟩) := hidb (by unfold frNear; simp only; omega)
    obtain ⟨z, hz⟩ : ∃ z, fWords l vf = z := ⟨_, rfl⟩
    rw [hz] at hbad q5 q6 q7
    have HE : Hid (frEnd l ⟨va, vf, vl⟩ = va + z) := hidb (by unfold frEnd; simp only; rw [hz, if_neg (by omega)])
    by_cases hg : hi < va + z
    · have hd : decide (hi < va + z) = true := decide_eq_true hg
      unfold FW at cr
      clear hbad ha ht hhi hl hx h0 hw hv hno hz q1 q3 q4 q5 q6 q7 q8 q9 hsm hxl KR
      --@1
      go_enter Tryz.func95, Tryz.ntmps95
      go_wp2_with (first
        | (go_at_call 105; (with_reducible refine cr.mono ?_); rintro e w1 ⟨rfl, hb1⟩; have HB1 := hidb (belF_al hb1 (.cells #[.int .i64 va, .int .i64 vf, .int .i64 vl] 71)); obtain ⟨⟨c0, c1⟩, ⟨c2, c3⟩, c4⟩ := HC.out _ HB1.out; have ke := KE.out (w1.alloc (.cells #[.int .i64 va, .int .i64 vf, .int .i64 vl] 71)) ⟨va, vf, vl⟩ (belF_tr HBX.out HB1.out) HN.out)
        | (go_at_call 97; (rw [HE.out] at ke); (with_reducible refine ke.mono ?_); rintro e w3 ⟨rfl, hb3⟩; have HB3 := hidb hb3; obtain ⟨⟨c5, c6⟩, ⟨c7, c8⟩, c9⟩ := HC.out w3 (belF_tr HB1.out hb3)))
      have HF3 : Hid (∀ W, Below w3.heap.size w3 W → (W.cell? ⟨w1.heap.size, 0, none⟩ = some (.int .i64 va) ∧ W.cell? ⟨w1.heap.size, 1, none⟩ = some (.int .i64 vf)) ∧ W.cell? ⟨w1.heap.size, 2, none⟩ = some (.int .i64 vl)) := hidb (fun W hb => by
        have hb2 := belF_tr HB3.out hb
        refine ⟨⟨?_, ?_⟩, ?_⟩ <;> (rw [hb2.cell (by simp)]; simp))
      have HS : Hid (∀ W, Below w3.heap.size w3 W → ((W.cell? ⟨w.heap.size, 0, none⟩ = some (.int .i64 lo) ∧ W.cell? ⟨w.heap.size, 1, none⟩ = some (.int .i64 size)) ∧ (W.cell? ⟨w.heap.size, 2, none⟩ = some (.int .i64 sp) ∧ W.cell? ⟨w.heap.size, 3, none⟩ = some (.pointer (some ⟨p, 0, none⟩))) ∧ W.cell? ⟨w.heap.size, 4, none⟩ = some (.pointer tp)) ∧ W.cell? ⟨w1.heap.size, 2, none⟩ = some (.int .i64 vl)) := hidb (fun W hb => ⟨HC.out W (belF_tr HB1.out (belF_tr HB3.out hb)), (HF3.out W hb).2⟩)
      clear ke c0 c1 c2 c3 c4 c5 c6 c7 c8 c9
      have CEE := hidb CE
      refine wp_begin (by kernel_rfl) 12 rfl ?_
      refine wp_tail (C := fun W => Below w3.heap.size w3 W) 0 12 _ (by kernel_rfl) rfl (by kernel_rfl) (by kernel_rfl) (belF_dr (Below.refl _ _)) ?_
      simp only [List.drop_zero]
      go_big_quiet_step (fail)
      go_big_quiet_want
      apply Exists.intro
      refine ⟨fun W hC => ?_, ?_⟩
      · obtain ⟨⟨⟨d0, d1⟩, ⟨d2, d3⟩, d4⟩, d5⟩ := HS.out W hC
        unfold Oper.quietAt
        go_simp
        rfl
      go_big_quiet_on
      simp only [Act.put, List.setIfInBounds_toArray, List.set_cons_zero, List.set_cons_succ]
      go_big_quiet_want
      apply Exists.intro
      refine ⟨fun W hC => ?_, ?_⟩
      · unfold Oper.quietAt
        go_simp
        exact (CEE.out W).mono fun e w' h => ⟨h.1, belF_tr hC h.2⟩
      go_big_quiet_on
      simp only [Act.put, List.setIfInBounds_toArray, List.set_cons_zero, List.set_cons_succ]
      repeat (first | go_big_quiet_skip | (go_big_quiet_want; (apply Exists.intro); refine ⟨fun W hC => ?_, ?_⟩; (unfold Oper.quietAt; go_simp; done); go_big_quiet_on; simp only [Act.put, List.setIfInBounds_toArray, List.set_cons_zero, List.set_cons_succ]) | (go_big_quiet_want; (apply Exists.intro); refine ⟨fun W hC => ?_, ?_⟩; (unfold Oper.quietAt; go_simp; rfl); go_big_quiet_on; simp only [Act.put, List.setIfInBounds_toArray, List.set_cons_zero, List.set_cons_succ]))
      refine wpQuiet_nil ?_
      intro w4 hC
      have HB4 := hidb hC
      go_wp2
      exact ⟨rfl, rfl, belF_tr HBX.out (belF_tr HB1.out (belF_tr HB3.out HB4.out))⟩
    · have hd : decide (hi < va + z) = false := decide_eq_false hg
      have hlk : vl ≠ wkLk (va + z) hi := hbad.elim (fun h => absurd rfl h) (fun h => h.elim (fun h => absurd h.2 hg) (fun h => h.2.2))
      obtain ⟨k, hk⟩ : ∃ k, wkLk (va + z) hi = k := ⟨_, rfl⟩
      rw [hk] at hlk
      have hdk : (vl != k) = true := by simpa using hlk
      have CL := fun W => CL W (va + z)
      rw [show (if va + z = hi then -1 else va + z) = k from hk] at CL
      unfold FW at cr
      clear hbad ha ht hhi hl hx h0 hw hv hno hz q1 q3 q4 q5 q6 q7 q8 q9 hsm hxl KR hlk hk
      --@2
      go_enter Tryz.func95, Tryz.ntmps95
      go_wp2_with (first
        | (go_at_call 105; (with_reducible refine cr.mono ?_); rintro e w1 ⟨rfl, hb1⟩; have HB1 := hidb (belF_al hb1 (.cells #[.int .i64 va, .int .i64 vf, .int .i64 vl] 71)); obtain ⟨⟨c0, c1⟩, ⟨c2, c3⟩, c4⟩ := HC.out _ HB1.out; have ke := KE.out (w1.alloc (.cells #[.int .i64 va, .int .i64 vf, .int .i64 vl] 71)) ⟨va, vf, vl⟩ (belF_tr HBX.out HB1.out) HN.out)
        | (go_at_call 97; (rw [HE.out] at ke); (with_reducible refine ke.mono ?_); rintro e w3 ⟨rfl, hb3⟩; have HB3 := hidb hb3; obtain ⟨⟨c5, c6⟩, ⟨c7, c8⟩, c9⟩ := HC.out w3 (belF_tr HB1.out hb3)))
      have HF3 : Hid (∀ W, Below w3.heap.size w3 W → (W.cell? ⟨w1.heap.size, 0, none⟩ = some (.int .i64 va) ∧ W.cell? ⟨w1.heap.size, 1, none⟩ = some (.int .i64 vf)) ∧ W.cell? ⟨w1.heap.size, 2, none⟩ = some (.int .i64 vl)) := hidb (fun W hb => by
        have hb2 := belF_tr HB3.out hb
        refine ⟨⟨?_, ?_⟩, ?_⟩ <;> (rw [hb2.cell (by simp)]; simp))
      have HS : Hid (∀ W, Below w3.heap.size w3 W → ((W.cell? ⟨w.heap.size, 0, none⟩ = some (.int .i64 lo) ∧ W.cell? ⟨w.heap.size, 1, none⟩ = some (.int .i64 size)) ∧ (W.cell? ⟨w.heap.size, 2, none⟩ = some (.int .i64 sp) ∧ W.cell? ⟨w.heap.size, 3, none⟩ = some (.pointer (some ⟨p, 0, none⟩))) ∧ W.cell? ⟨w.heap.size, 4, none⟩ = some (.pointer tp)) ∧ W.cell? ⟨w1.heap.size, 2, none⟩ = some (.int .i64 vl)) := hidb (fun W hb => ⟨HC.out W (belF_tr HB1.out (belF_tr HB3.out hb)), (HF3.out W hb).2⟩)
      clear ke c0 c1 c2 c3 c4 c5 c6 c7 c8 c9
      (first | go_region_held3 (fun W => ((W.cell? ⟨w.heap.size, 0, none⟩ = some (.int .i64 lo) ∧ W.cell? ⟨w.heap.size, 1, none⟩ = some (.int .i64 size)) ∧ (W.cell? ⟨w.heap.size, 2, none⟩ = some (.int .i64 sp) ∧ W.cell? ⟨w.heap.size, 3, none⟩ = some (.pointer (some ⟨p, 0, none⟩))) ∧ W.cell? ⟨w.heap.size, 4, none⟩ = some (.pointer tp)) ∧ W.cell? ⟨w1.heap.size, 2, none⟩ = some (.int .i64 vl))
        (first | ((with_reducible refine HS.out _ ?_); (repeat (first | with_reducible exact Below.refl _ _ | with_reducible exact Hid.out (by assumption) | with_reducible apply belF_al | with_reducible apply belF_dr)); done) | (go_keep; done))
        (first
          | (go_at_call 94; (with_reducible refine (CE _).mono ?_); rintro e w4 ⟨rfl, hb4⟩; have HB4 : Hid (Below w3.heap.size w3 w4) := hidb (belF_tr (by (repeat (first | with_reducible exact Below.refl _ _ | with_reducible exact Hid.out (by assumption) | with_reducible apply belF_al | with_reducible apply belF_dr))) hb4); have hc4 := HS.out w4 HB4.out; clear hb4)
          | (go_at_call 106; (with_reducible refine (CL _).mono ?_); rintro e w5 ⟨rfl, hb5⟩; have HB5 : Hid (Below w3.heap.size w3 w5) := hidb (belF_tr HB4.out hb5); have hc5 := HS.out w5 HB5.out; clear hb5)) | fail)
      all_goals go_wp2
      all_goals exact ⟨rfl, rfl, belF_tr HBX.out (belF_tr HB1.out (belF_tr HB3.out HB5.out))⟩
  · have hnb : (no != 0) = true := by simpa using hn0
    unfold FW at cr
    clear hbad ha ht hhi hl hx h0 hw hv hno hsm hxl KR hgood
    --@3
    go_enter Tryz.func95, Tryz.ntmps95
    go_wp2_with (first
      | (go_at_call 105; (with_reducible refine cr.mono ?_); rintro e w1 ⟨rfl, hb1⟩; have HB1 := hidb hb1))
    exact ⟨rfl, rfl, belF_al (belF_tr HBX.out HB1.out) _⟩

set_option maxRecDepth 100000 in
set_option maxHeartbeats 4000000 in
theorem c_wframe_yes (s : StV) (hi a : Int) (ha : Ar w B p g len xs) (ht : TbO w lo' hi' tp l) (hhi : hi' ≤ w.heap.size) (hl : ∀ x ∈ l, 0 ≤ x.1 ∧ x.1 ≤ 1000) (hx : Wd xs) (h0 : in64 a) (hw : wrap64 (s.lo + s.size) = hi) (x : FrV) (e' : Int) (hok : wkOne xs l hi a = some (x, e')) :
    Calls Tryz.prog 95 #[wkC s (some ⟨p, 0, none⟩) tp, .int .i64 a] w fun e w' => e = .returned (.tuple #[frC x, .int .i64 e']) ∧ Below w.heap.size w w' := by
  have hsm := ha.small
  have hxl := ha.hlen
  have hgd := wkOne_good hl hok
  have hlk := wkOne_okLk hl hok
  obtain ⟨lo, size, sp⟩ := s
  simp only at hw
  have HBX := hidb (FW.bel w lo size sp (some ⟨p, 0, none⟩) tp)
  have HC := hidb (FW.cells w lo size sp (some ⟨p, 0, none⟩) tp)
  have KR : Hid (Calls Tryz.prog 105 #[.pointer (some ⟨p, 0, none⟩), .pointer tp, .int .i64 a] (FW w lo size sp (some ⟨p, 0, none⟩) tp) fun e w' => e = .returned (.tuple #[frC (frRead xs l a).1, .int .i64 (frRead xs l a).2]) ∧ Below (FW w lo size sp (some ⟨p, 0, none⟩) tp).heap.size (FW w lo size sp (some ⟨p, 0, none⟩) tp) w') := hidb (code_frread (ha.below HBX.out (Nat.le_refl _)) (ht.below (HBX.out.mono hhi)) (Nat.le_trans hhi HBX.out.size) hl hx a h0)
  have KE : Hid (∀ W x, Below w.heap.size w W → frNear x → Calls Tryz.prog 97 #[.pointer tp, frC x] W fun e w' => e = .returned (.int .i64 (frEnd l x)) ∧ Below W.heap.size W w') := hidb (fun W x hb hn => code_frend (ht.below (hb.mono hhi)) (Nat.le_trans hhi hb.size) hl x hn)
  have CE := fun W => c_wend ⟨lo, size, sp⟩ (some ⟨p, 0, none⟩) tp W hi hw
  have CL := fun W next => c_wlink ⟨lo, size, sp⟩ (some ⟨p, 0, none⟩) tp next hi W hw
  obtain ⟨⟨va, vf, vl⟩, hv⟩ : ∃ v, (frRead xs l a).1 = v := ⟨_, rfl⟩
  obtain ⟨no, hno⟩ : ∃ no, (frRead xs l a).2 = no := ⟨_, rfl⟩
  have hz0 := hidb (FW.zeros w lo size sp (some ⟨p, 0, none⟩) tp)
  obtain ⟨g1, g2, g3, g4, g5, g6, g7, g8, g9, g10⟩ := hgd
  rw [hv] at g2
  rw [hno] at g1
  subst g1 g2
  have cr := KR.out
  rw [hv, hno] at cr
  simp only at g3 g4 g5 g9 hlk
  subst g9
  have HN : Hid (frNear ⟨va, vf, vl⟩) := hidb (by unfold frNear; simp only; omega)
  have HE : Hid (frEnd l ⟨va, vf, vl⟩ = e') := hidb (by unfold frEnd; simp only; rw [if_neg (by omega)]; omega)
  have hd : decide (hi < e') = false := decide_eq_false (by omega)
  have CL := fun W => CL W e'
  rw [show (if e' = hi then -1 else e') = vl from hlk.symm] at CL
  have hdk : (vl != vl) = false := by simp
  unfold wkC at *
  unfold frC at *
  simp only at *
  unfold FW at cr
  clear ha ht hhi hl hx h0 hw hv hno hsm hxl KR hlk g3 g4 g5 g6 g7 g8 g10 hok
  --@4
  go_enter Tryz.func95, Tryz.ntmps95
  go_wp2_with (first
    | (go_at_call 105; (with_reducible refine cr.mono ?_); rintro e w1 ⟨rfl, hb1⟩; have HB1 := hidb (belF_al hb1 (.cells #[.int .i64 va, .int .i64 vf, .int .i64 vl] 71)); obtain ⟨⟨c0, c1⟩, ⟨c2, c3⟩, c4⟩ := HC.out _ HB1.out; have ke := KE.out (w1.alloc (.cells #[.int .i64 va, .int .i64 vf, .int .i64 vl] 71)) ⟨va, vf, vl⟩ (belF_tr HBX.out HB1.out) HN.out)
    | (go_at_call 97; (rw [HE.out] at ke); (with_reducible refine ke.mono ?_); rintro e w3 ⟨rfl, hb3⟩; have HB3 := hidb hb3; obtain ⟨⟨c5, c6⟩, ⟨c7, c8⟩, c9⟩ := HC.out w3 (belF_tr HB1.out hb3)))
  have HF3 : Hid (∀ W, Below w3.heap.size w3 W → (W.cell? ⟨w1.heap.size, 0, none⟩ = some (.int .i64 va) ∧ W.cell? ⟨w1.heap.size, 1, none⟩ = some (.int .i64 vf)) ∧ W.cell? ⟨w1.heap.size, 2, none⟩ = some (.int .i64 vl)) := hidb (fun W hb => by
    have hb2 := belF_tr HB3.out hb
    refine ⟨⟨?_, ?_⟩, ?_⟩ <;> (rw [hb2.cell (by simp)]; simp))
  have HS : Hid (∀ W, Below w3.heap.size w3 W → ((W.cell? ⟨w.heap.size, 0, none⟩ = some (.int .i64 lo) ∧ W.cell? ⟨w.heap.size, 1, none⟩ = some (.int .i64 size)) ∧ (W.cell? ⟨w.heap.size, 2, none⟩ = some (.int .i64 sp) ∧ W.cell? ⟨w.heap.size, 3, none⟩ = some (.pointer (some ⟨p, 0, none⟩))) ∧ W.cell? ⟨w.heap.size, 4, none⟩ = some (.pointer tp)) ∧ W.cell? ⟨w1.heap.size, 2, none⟩ = some (.int .i64 vl)) := hidb (fun W hb => ⟨HC.out W (belF_tr HB1.out (belF_tr HB3.out hb)), (HF3.out W hb).2⟩)
  clear ke c0 c1 c2 c3 c4 c5 c6 c7 c8 c9
  (first | go_region_held3 (fun W => ((W.cell? ⟨w.heap.size, 0, none⟩ = some (.int .i64 lo) ∧ W.cell? ⟨w.heap.size, 1, none⟩ = some (.int .i64 size)) ∧ (W.cell? ⟨w.heap.size, 2, none⟩ = some (.int .i64 sp) ∧ W.cell? ⟨w.heap.size, 3, none⟩ = some (.pointer (some ⟨p, 0, none⟩))) ∧ W.cell? ⟨w.heap.size, 4, none⟩ = some (.pointer tp)) ∧ W.cell? ⟨w1.heap.size, 2, none⟩ = some (.int .i64 vl))
    (first | ((with_reducible refine HS.out _ ?_); (repeat (first | with_reducible exact Below.refl _ _ | with_reducible exact Hid.out (by assumption) | with_reducible apply belF_al | with_reducible apply belF_dr)); done) | (go_keep; done))
    (first
      | (go_at_call 94; (with_reducible refine (CE _).mono ?_); rintro e w4 ⟨rfl, hb4⟩; have HB4 : Hid (Below w3.heap.size w3 w4) := hidb (belF_tr (by (repeat (first | with_reducible exact Below.refl _ _ | with_reducible exact Hid.out (by assumption) | with_reducible apply belF_al | with_reducible apply belF_dr))) hb4); have hc4 := HS.out w4 HB4.out; clear hb4)
      | (go_at_call 106; (with_reducible refine (CL _).mono ?_); rintro e w5 ⟨rfl, hb5⟩; have HB5 : Hid (Below w3.heap.size w3 w5) := hidb (belF_tr HB4.out hb5); have hc5 := HS.out w5 HB5.out; clear hb5)) | fail)
  obtain ⟨⟨f0, f1⟩, f2⟩ := HF3.out w5 HB5.out
  obtain ⟨⟨r0, r1, r2⟩, z0, z1, z2⟩ := hz0.out w5 (belF_tr HB1.out (belF_tr HB3.out HB5.out))
  have HP := hidb (bel_set3 (belF_tr HBX.out (belF_tr HB1.out (belF_tr HB3.out HB5.out))) (Nat.le_succ w.heap.size) (.int .i64 va) (.int .i64 vf) (.int .i64 vl))
  go_wp2
  obtain ⟨s0, s1, s2⟩ := three_cells w5 (w.heap.size + 1) (.int .i64 va) (.int .i64 vf) (.int .i64 vl) _ _ _ r0 r1 r2
  exact bodyPost_ret (v := .tuple #[.agg #[.int .i64 va, .int .i64 vf, .int .i64 vl], .int .i64 e']) (by simp [results, Tryz.results95, go_sem, s0, s1, s2]) rfl ⟨rfl, HP.out⟩
end
end Go.Proofs.YtlniakcoikhilaaGreatDoor

/- What the document's own functions of layer 15 (walk) return. -/
namespace Go.Proofs.YtlniakcoikhilaaGreatDoor
open Go.RowKit
set_option linter.unusedVariables false

theorem ref_stsize (n : Int) (w : World) (hn : in64 n) (b : Bool) (hb : stkSz n = b) : Calls Tryz.prog 21 #[.int .i64 n] w fun e w' => e = .returned (.bool b) ∧ w = w' := by
  have ci := ref_is n w hn.1 hn.2
  unfold stkSz at hb
  by_cases hl : n < 16
  · rw [decide_eq_false (by omega), Bool.false_and] at hb
    subst hb
    clear ci
    --@1
    go_enter Tryz.func21, Tryz.ntmps21
    go_wp2
    go_ret
    exact ⟨rfl, rfl⟩
  · rw [decide_eq_true (by omega), Bool.true_and] at hb
    rw [hb] at ci
    clear hb
    have hl2 : 16 ≤ n := by omega
    cases b with
    | true =>
      --@2
      go_enter Tryz.func21, Tryz.ntmps21
      go_wp2_with (first | (go_at_call 48; (with_reducible refine ci.mono ?_); rintro e w1 ⟨rfl, rfl⟩))
      go_ret
      exact ⟨rfl, rfl⟩
    | false =>
      --@3
      go_enter Tryz.func21, Tryz.ntmps21
      go_wp2_with (first | (go_at_call 48; (with_reducible refine ci.mono ?_); rintro e w1 ⟨rfl, rfl⟩))
      go_ret
      exact ⟨rfl, rfl⟩

/-- May a stack be: the document's. -/
theorem ref_stmay (s : StV) (n : Int) (w : World) (h0 : in64 s.lo) (h1 : in64 s.size) (h2 : in64 s.sp) (hn : 0 ≤ n ∧ n ≤ 1000000) (b : Bool) (hb : stMay s n = b) :
    Calls Tryz.prog 20 #[stC s, .int .i64 n] w fun e w' => e = .returned (.bool b) ∧ Below w.heap.size w w' := by
  obtain ⟨lo, size, sp⟩ := s
  have hbW := belF_al (Below.refl w.heap.size w) (.cells #[.int .i64 lo, .int .i64 size, .int .i64 sp] 25)
  simp only at h0 h1 h2
  unfold stMay at hb
  simp only at hb
  unfold stC
  simp only
  obtain ⟨l0, l1⟩ := h0
  obtain ⟨p0, p1⟩ := h2
  cases hz : stkSz size with
  | false =>
    have cs := fun W => ref_stsize size W h1 false hz
    rw [hz, Bool.false_and] at hb
    subst hb
    clear hz
    --@4
    go_enter Tryz.func20, Tryz.ntmps20
    go_wp2_with (first | (go_at_call 21; (with_reducible refine (cs _).mono ?_); rintro e w1 ⟨rfl, rfl⟩))
    go_ret
    exact ⟨rfl, hbW⟩
  | true =>
    have cs := fun W => ref_stsize size W h1 true hz
    have h16 : 16 ≤ size := by unfold stkSz at hz; simp at hz; exact hz.1
    rw [hz, Bool.true_and] at hb
    obtain ⟨z0, z1⟩ := h1
    clear hz
    by_cases c1 : size ≤ n
    · by_cases c2 : 0 ≤ lo
      · by_cases c3 : lo ≤ n - size
        · by_cases c4 : lo ≤ sp
          · have hb2 : decide (sp ≤ lo + size) = b := by rw [← hb, decide_eq_decide]; omega
            clear hb
            --@5
            go_enter Tryz.func20, Tryz.ntmps20
            go_wp2_with (first | (go_at_call 21; (with_reducible refine (cs _).mono ?_); rintro e w1 ⟨rfl, rfl⟩))
            go_ret
            exact ⟨by (first | exact congrArg Ending.returned (congrArg Value.bool hb2) | (rw [← hb2]; rfl)), hbW⟩
          · rw [decide_eq_false (by omega)] at hb
            subst hb
            --@6
            go_enter Tryz.func20, Tryz.ntmps20
            go_wp2_with (first | (go_at_call 21; (with_reducible refine (cs _).mono ?_); rintro e w1 ⟨rfl, rfl⟩))
            go_ret
            exact ⟨rfl, hbW⟩
        · rw [decide_eq_false (by omega)] at hb
          subst hb
          --@7
          go_enter Tryz.func20, Tryz.ntmps20
          go_wp2_with (first | (go_at_call 21; (with_reducible refine (cs _).mono ?_); rintro e w1 ⟨rfl, rfl⟩))
          go_ret
          exact ⟨rfl, hbW⟩
      · rw [decide_eq_false (by omega)] at hb
        subst hb
        --@8
        go_enter Tryz.func20, Tryz.ntmps20
        go_wp2_with (first | (go_at_call 21; (with_reducible refine (cs _).mono ?_); rintro e w1 ⟨rfl, rfl⟩))
        go_ret
        exact ⟨rfl, hbW⟩
    · rw [decide_eq_false (by omega)] at hb
      subst hb
      --@9
      go_enter Tryz.func20, Tryz.ntmps20
      go_wp2_with (first | (go_at_call 21; (with_reducible refine (cs _).mono ?_); rintro e w1 ⟨rfl, rfl⟩))
      go_ret
      exact ⟨rfl, hbW⟩

/-- Rows of frames. -/
def frcells (x : FrV) : List Value := [.int .i64 x.at_, .int .i64 x.fn, .int .i64 x.link]
theorem frcells_len (x : FrV) : (frcells x).length = 3 := rfl
theorem frcells_one (l : List FrV) : ∀ u ∈ cellsAll frcells l, u.oneCell' = true := fun u hu => by
  obtain ⟨y, _, h⟩ := List.mem_flatMap.1 hu
  unfold frcells at h
  rcases List.mem_cons.1 h with rfl | h
  · rfl
  · rcases List.mem_cons.1 h with rfl | h
    · rfl
    · obtain rfl := List.mem_singleton.1 h; rfl
def FrRow (w : World) (B : Nat) (A : Option Addr) (n : Nat) (L : List FrV) : Prop := RowOf (fun cs x => cs = frcells x) 3 w B A n L
section
variable {w w' : World} {B B' n : Nat} {A : Option Addr} {L : List FrV}
theorem FrRow.at_ (h : FrRow w B A n L) {j : Nat} (hj : j < n) : ∃ b off x, A = some ⟨b, off, none⟩ ∧ b < B ∧ L[j]? = some x ∧ w.cell? ⟨b, off + j * 3, none⟩ = some (.int .i64 x.at_) ∧ w.cell? ⟨b, off + j * 3 + 1, none⟩ = some (.int .i64 x.fn) ∧ w.cell? ⟨b, off + j * 3 + 2, none⟩ = some (.int .i64 x.link) := by
  obtain ⟨b, off, x, cs, e, hb, hx, _, hc, rfl⟩ := RowOf.at_ h hj
  exact ⟨b, off, x, e, hb, hx, hc 0 (by omega), hc 1 (by omega), hc 2 (by omega)⟩
theorem FrRow.len (h : FrRow w B A n L) : L.length = n := h.1
theorem FrRow.below (h : FrRow w B A n L) (hb : Below B w w') : FrRow w' B A n L := RowOf.below h hb
theorem FrRow.more (h : FrRow w B A n L) (hB : B ≤ B') : FrRow w B' A n L := RowOf.more h hB
theorem FrRow.drewN (h : FrRow w B A n L) (q : Nat) : FrRow (w.drewN q) B A n L := RowOf.drewN h q
theorem FrRow.step (h : FrRow w w.heap.size A n L) (hb : Below w.heap.size w w') : FrRow w' w'.heap.size A n L := (h.below hb).more hb.size
theorem FrRow.of_own {base : Nat} {e : TypeId} {c : Nat} (h : w.ownsRow base e 3 (.slice A n c) n (cellsAll frcells L)) (hl : L.length = n) : FrRow w w.heap.size A n L := RowOf.of_own frcells_len h hl
end
theorem neq_frame (x y : FrV) (W : World) : (binOp .neq 71 (.agg #[.int .i64 x.at_, .int .i64 x.fn, .int .i64 x.link]) (.agg #[.int .i64 y.at_, .int .i64 y.fn, .int .i64 y.link])).run Tryz.prog W = .ok (.bool (!(decide (x = y)))) W := by
  obtain ⟨a, b, c⟩ := x
  obtain ⟨a', b', c'⟩ := y
  simp [go_sem]
  by_cases h1 : a = a' <;> by_cases h2 : b = b' <;> by_cases h3 : c = c' <;> simp [h1, h2, h3]

end Go.Proofs.YtlniakcoikhilaaGreatDoor

/- What the document's own Frames of layer 15 (walk) returns. -/
namespace Go.Proofs.YtlniakcoikhilaaGreatDoor
open Go.RowKit
set_option linter.unusedVariables false

theorem info_frame : (Tryz.prog.info? 71).map (fun i => (i.zero, i.size, i.bytes)) = some (some (.agg #[.int .i64 0, .int .i64 0, .int .i64 0]), 3, 24) := by kernel_rfl
/-- The cells of a row of the call's own. -/
theorem own_cellsAt {w : World} {base size n c : Nat} {e : TypeId} {A : Option Addr} {xs : List Value} (h : w.ownsRow base e size (.slice A n c) n xs) : CellsAt w A xs := fun ad ha j u hj => by
  subst ha
  rcases h.2 with ⟨h1, _⟩ | ⟨g, cap, cur, h1, _⟩
  · cases h1
  · injection h1 with h1 h2 h3
    injection h1 with h1
    subst h1 h3
    have hl : xs.length = n * size := h.1
    rw [Go.WideShapes.add_plain, Nat.zero_add, h.cellAt j (by rw [← hl]; exact (List.getElem?_eq_some_iff.1 hj).1), hj]
theorem own_none {w : World} {base size n c : Nat} {e : TypeId} {A : Option Addr} {xs : List Value} (h : w.ownsRow base e size (.slice A n c) n xs) : A = none → n = 0 := fun ha => by
  subst ha
  rcases h.2 with ⟨_, h1⟩ | ⟨g, cap, cur, h1, _⟩
  · exact h1
  · cases h1
theorem alloc_oldW {w : World} {a : Addr} {v : Value} (o : Obj) (h : w.cell? a = some v) : (w.alloc o).cell? a = some v := (World.cell?_alloc_lt w o a (lt_of_cell' h)).trans h
theorem frlit_own (X : World) (x : FrV) (base g : Nat) (hg : g = X.heap.size) (hb : base ≤ X.heap.size) : (X.alloc (.cells #[.int .i64 x.at_, .int .i64 x.fn, .int .i64 x.link] 71)).ownsRow base 71 3 (.slice (some ⟨g, 0, none⟩) 1 1) 1 (frcells x) := by
  subst hg
  exact World.ownsRow_lit (base := base) (e := 71) (size := 3) X #[.int .i64 x.at_, .int .i64 x.fn, .int .i64 x.link] 1 hb (by unfold maxLen; omega) (by simp)
/-- A row of frames that a call answers, and an error's number. -/
def ResFr (w : World) (r : List FrV × Int) (e : Ending) (w' : World) : Prop := ∃ A c, e = .returned (.tuple #[.slice A r.1.length c, .int .i64 r.2]) ∧ FrRow w' w'.heap.size A r.1.length r.1 ∧ Below w.heap.size w w'
theorem wkGo_few {xs : List Nat} {l : Fns} {s : StV} (hm : stMay s xs.length = true) : 16 ≤ s.size ∧ 0 ≤ s.lo ∧ s.lo ≤ s.sp ∧ s.sp ≤ s.lo + s.size ∧ s.lo + s.size ≤ xs.length := by
  unfold stMay stkSz at hm
  simp at hm
  omega

set_option maxRecDepth 100000 in
set_option maxHeartbeats 4000000 in
theorem ref_frames {w : World} {A A2 : Option Addr} {n c n2 c2 lo' hi' : Nat} {xs : List Nat} {ys : List FnV} (hs : Sl w w.heap.size A n (xs.map wv)) (hn : n ≤ 65536) (hx : Wd xs) (hr : FnRow w lo' hi' A2 n2 ys) (hhi : hi' ≤ w.heap.size) (hn2 : n2 ≤ 1000) (hl : ∀ x ∈ vals ys, 0 ≤ x.1 ∧ x.1 ≤ 1000) (s : StV) (h0 : in64 s.lo) (h1 : in64 s.size) (h2 : in64 s.sp) :
    Calls Tryz.prog 22 #[.slice A n c, .slice A2 n2 c2, stC s] w (ResFr w (wkFrames xs (vals ys) s)) := by
  obtain ⟨i0, hi, hz0, hz1, hz2⟩ := info_parts info_frame
  have hlen : xs.length = n := by have := hs.1; simpa using this
  obtain ⟨lo, size, sp⟩ := s
  simp only at h0 h1 h2
  have hbW := belF_al (Below.refl w.heap.size w) (.cells #[.int .i64 lo, .int .i64 size, .int .i64 sp] 25)
  have HB0 := hidb (belF_al hbW (.cells #[] 71))
  have HX0 : Hid (∀ W, Below (w.alloc (.cells #[.int .i64 lo, .int .i64 size, .int .i64 sp] 25)).heap.size (w.alloc (.cells #[.int .i64 lo, .int .i64 size, .int .i64 sp] 25)) W → W.cell? ⟨w.heap.size, 0, none⟩ = some (.int .i64 lo) ∧ W.cell? ⟨w.heap.size, 1, none⟩ = some (.int .i64 size) ∧ W.cell? ⟨w.heap.size, 2, none⟩ = some (.int .i64 sp)) := hidb (fun W hb => ⟨(hb.cell (by simp)).trans (by simp), (hb.cell (by simp)).trans (by simp), (hb.cell (by simp)).trans (by simp)⟩)
  cases hm : stMay ⟨lo, size, sp⟩ n with
  | false =>
    have cm := fun W => ref_stmay ⟨lo, size, sp⟩ (n : Int) W h0 h1 h2 (by omega) false hm
    have E : wkFrames xs (vals ys) ⟨lo, size, sp⟩ = ([], 1) := by unfold wkFrames; rw [hlen, hm, if_pos rfl]
    rw [E]
    unfold stC at *
    simp only at *
    clear hs hx hr hl hm E hlen h0 h1 h2 HX0
    --@1
    go_enter Tryz.func22, Tryz.ntmps22
    go_wp2_with (first | (go_at_call 20; (with_reducible refine (cm _).mono ?_); rintro e w1 ⟨rfl, hb1⟩))
    go_ret2
    exact ⟨some ⟨w.heap.size + 1, 0, none⟩, 0, rfl, RowOf.nil_, belF_tr HB0.out hb1⟩
  | true =>
    have cm := fun W => ref_stmay ⟨lo, size, sp⟩ (n : Int) W h0 h1 h2 (by omega) true hm
    obtain ⟨g1, g2, g3, g4, g5⟩ := wkGo_few (l := vals ys) (by rw [hlen]; exact hm)
    simp only at g1 g2 g3 g4 g5
    rw [hlen] at g5
    have E : Hid (wkFrames xs (vals ys) ⟨lo, size, sp⟩ = match wkGo xs (vals ys) (lo + size) (lo + size - sp).toNat sp [] with | none => ([], 9) | some f => (f, 0)) := hidb (by unfold wkFrames; rw [hlen, hm, if_neg (by simp)] <;> rfl)
    have HS := hidb hs
    have HR := hidb hr
    have HL := hidb hl
    have HX := hidb hx
    have HLN := hidb hlen
    have KR : Hid (∀ W a, Below w.heap.size w W → in64 a → Calls Tryz.prog 49 #[.slice A n c, .slice A2 n2 c2, .int .i64 a] W fun e w' => e = .returned (.tuple #[frC (frRead xs (vals ys) a).1, .int .i64 (frRead xs (vals ys) a).2]) ∧ Below W.heap.size W w') := hidb (fun W a hb ha =>
      ref_frread ((HS.out.below hb).more hb.size) hn HX.out (HR.out.below (hb.mono hhi)) (Nat.le_trans hhi hb.size) hn2 HL.out a ha)
    have KW : Hid (∀ W f, Below w.heap.size w W → Calls Tryz.prog 50 #[.slice A2 n2 c2, .int .i64 f] W fun e w' => e = .returned (.int .i64 (fWords (vals ys) f)) ∧ W = w') := hidb (fun W f hb =>
      ref_fwordsR A2 n2 c2 ys lo' hi' W f (HR.out.below (hb.mono hhi)) hn2 (by have := fSize_range HL.out f; omega) (by have := fSize_range HL.out f; omega))
    obtain ⟨hi9, hhi9⟩ : ∃ hi9, lo + size = hi9 := ⟨_, rfl⟩
    rw [hhi9] at g4 g5 E
    have PF : Hid (∀ W, Below w.heap.size w W → wkGo xs (vals ys) hi9 (hi9 - sp).toNat sp [] = none → ResFr w (wkFrames xs (vals ys) ⟨lo, size, sp⟩) (.returned (.tuple #[.slice (some ⟨w.heap.size + 1, 0, none⟩) 0 0, .int .i64 9])) W) := hidb (fun W hb h => by
      rw [E.out, h]; exact ⟨_, _, rfl, RowOf.nil_, hb⟩)
    have PG : Hid (∀ W (acc : List FrV) C k, Below w.heap.size w W → W.ownsRow w.heap.size 71 3 (.slice C acc.length k) acc.length (cellsAll frcells acc) → wkGo xs (vals ys) hi9 (hi9 - sp).toNat sp [] = some acc → ResFr w (wkFrames xs (vals ys) ⟨lo, size, sp⟩) (.returned (.tuple #[.slice C acc.length k, .int .i64 0])) W) := hidb (fun W acc C k hb ho h => by
      rw [E.out, h]; exact ⟨C, k, rfl, FrRow.of_own ho rfl, hb⟩)
    have hw1 : wrap64 (lo + size) = hi9 := by unfold wrap64; omega
    have HSP : Hid (0 ≤ sp) := hidb (by omega)
    unfold stC at *
    simp only at *
    clear hs hr hl hx hlen hm h0 h1 h2 g2 hhi9
    go_enter Tryz.func22, Tryz.ntmps22
    go_wp2_with (first | (go_at_call 20; (with_reducible refine (cm _).mono ?_); rintro e w1 ⟨rfl, hb1⟩; obtain ⟨x0, x1, x2⟩ := HX0.out w1 (belF_tr (belF_al (Below.refl _ _) _) hb1); have y0 := alloc_oldW (.cells #[] 71) x0; have y1 := alloc_oldW (.cells #[] 71) x1; have y2 := alloc_oldW (.cells #[] 71) x2))
    rw [hw1]
    clear hw1 x0 x1 x2 y0 y1 y2
    go_loopw [9, 11, 12, 13, 14] (fun v9 v11 _ _ _ wr => ∃ (a : Int) (acc : List FrV) (C : Option Addr) (k : Nat), v9 = .slice C acc.length k ∧ v11 = .int .i64 a ∧ sp ≤ a ∧ a ≤ hi9 ∧ ((acc.length : Int) ≤ a - sp) ∧ Hid (wr.ownsRow w.heap.size 71 3 (.slice C acc.length k) acc.length (cellsAll frcells acc)) ∧ Hid (Below w.heap.size w wr) ∧ Hid (wkGo xs (vals ys) hi9 (hi9 - a).toNat a acc = wkGo xs (vals ys) hi9 (hi9 - sp).toNat sp [])) (fun _ v11 _ _ _ _ => (hi9 - intOf v11).toNat)
    case atStart => exact ⟨sp, [], _, _, rfl, rfl, by omega, by omega, by simp, hidb (own_empty _ _ _ _ (by have := HB0.out.size; have := hb1.size; simp at *; omega)), hidb (belF_al (belF_tr HB0.out hb1) _), hidb rfl⟩
    case round =>
      obtain ⟨a, acc, C, k, rfl, rfl, ha0, ha1, hk, HO, HB, HG⟩ := hrel
      have hsp := HSP.out
      by_cases hlt : a < hi9
      · have cr := KR.out wr a HB.out (by unfold in64; omega)
        obtain ⟨⟨va, vf, vl⟩, hv⟩ : ∃ v, (frRead xs (vals ys) a).1 = v := ⟨_, rfl⟩
        obtain ⟨no, hno⟩ : ∃ no, (frRead xs (vals ys) a).2 = no := ⟨_, rfl⟩
        rw [hv, hno] at cr
        unfold frC at cr
        simp only at cr
        by_cases h0 : no = 0
        · subst h0
          have hgood := frRead_good HL.out hno
          rw [hv] at hgood
          simp only at hgood
          obtain ⟨z, hz⟩ : ∃ z, fWords (vals ys) vf = z := ⟨_, rfl⟩
          rw [hz] at hgood
          obtain ⟨q1, rfl, q3, q4, q5, q6, q7, q8, q9⟩ := hgood
          have kw := fun W hb => KW.out W vf hb
          rw [hz] at kw
          have KWZ := hidb kw
          have hwz : wrap64 (va + z) = va + z := by unfold wrap64; have := HLN.out; omega
          by_cases bad : hi9 < va + z ∨ (va + z < hi9 ∧ vl ≠ va + z) ∨ (va + z = hi9 ∧ vl ≠ -1)
          · have HN : Hid (wkGo xs (vals ys) hi9 (hi9 - sp).toNat sp [] = none) := hidb (by rw [← HG.out]; exact wkGo_none hlt (by unfold wkOne; rw [hno, if_neg (by simp), hv]; simp only; rw [hz, if_pos bad]))
            clear kw q3 q4 q8 q9 hv hno hz
            by_cases b1 : hi9 < va + z
            · skip
              clear bad
              --@3
              go_wp2_with (first
                | (go_at_call 49; (with_reducible refine cr.mono ?_); rintro e w2 ⟨rfl, hb2⟩; have HB2 := hidb (belF_al (belF_tr HB.out hb2) (.cells #[.int .i64 va, .int .i64 vf, .int .i64 vl] 71)))
                | (go_at_call 50; (with_reducible refine (KWZ.out _ HB2.out).mono ?_); rintro e w3 ⟨rfl, rfl⟩))
              go_ret2
              exact PF.out _ HB2.out HN.out
            · by_cases b2 : va + z < hi9
              · have b3 : vl ≠ va + z := fun h => bad.elim (fun h1 => b1 h1) (fun h1 => h1.elim (fun h2 => h2.2 h) (fun h2 => absurd h2.1 (by omega)))
                have b3b : (vl != va + z) = true := by simpa using b3
                clear bad
                --@7
                go_wp2_with (first
                  | (go_at_call 49; (with_reducible refine cr.mono ?_); rintro e w2 ⟨rfl, hb2⟩; have HB2 := hidb (belF_al (belF_tr HB.out hb2) (.cells #[.int .i64 va, .int .i64 vf, .int .i64 vl] 71)))
                  | (go_at_call 50; (with_reducible refine (KWZ.out _ HB2.out).mono ?_); rintro e w3 ⟨rfl, rfl⟩))
                go_ret2
                exact PF.out _ HB2.out HN.out
              · have b2e : va + z = hi9 := by omega
                have b3 : vl ≠ -1 := fun h => bad.elim (fun h1 => b1 h1) (fun h1 => h1.elim (fun h2 => b2 h2.1) (fun h2 => h2.2 h))
                have b3b : (vl != -1) = true := by simpa using b3
                have b2b : (va + z == hi9) = true := by simpa using b2e
                clear bad
                --@8
                go_wp2_with (first
                  | (go_at_call 49; (with_reducible refine cr.mono ?_); rintro e w2 ⟨rfl, hb2⟩; have HB2 := hidb (belF_al (belF_tr HB.out hb2) (.cells #[.int .i64 va, .int .i64 vf, .int .i64 vl] 71)))
                  | (go_at_call 50; (with_reducible refine (KWZ.out _ HB2.out).mono ?_); rintro e w3 ⟨rfl, rfl⟩))
                go_ret2
                exact PF.out _ HB2.out HN.out
          · have HST := hidb (wkGo_step (acc := acc) HL.out (x := ⟨va, vf, vl⟩) (e := va + z) hlt (by unfold wkOne; rw [hno, if_neg (by simp), hv]; simp only; rw [hz, if_neg bad]))
            clear kw q3 q4 q8 q9 hv hno hz
            have b1 : ¬ (hi9 < va + z) := fun h => bad (Or.inl h)
            by_cases b2 : va + z < hi9
            · obtain rfl : vl = va + z := Decidable.byContradiction fun h => bad (Or.inr (Or.inl ⟨b2, h⟩))
              clear bad
              --@4
              go_wp2_with (first
                | (go_at_call 49; (with_reducible refine cr.mono ?_); rintro e w2 ⟨rfl, hb2⟩; have HB2 := hidb (belF_al (belF_tr HB.out hb2) (.cells #[.int .i64 va, .int .i64 vf, .int .i64 (va + z)] 71)); have HLIT := hidb (frlit_own (w2.alloc (.cells #[.int .i64 va, .int .i64 vf, .int .i64 (va + z)] 71)) ⟨va, vf, va + z⟩ w.heap.size (w2.heap.size + 1) (by simp) HB2.out.size); have HLE := hidb (belF_al HB2.out (.cells #[.int .i64 va, .int .i64 vf, .int .i64 (va + z)] 71)); have HACC := hidb (own_same HO.out fun q hq => (belF_al (belF_al hb2 (.cells #[.int .i64 va, .int .i64 vf, .int .i64 (va + z)] 71)) (.cells #[.int .i64 va, .int .i64 vf, .int .i64 (va + z)] 71)).block q (HO.out.lt q hq).2))
                | (go_at_call 50; (with_reducible refine (KWZ.out _ HB2.out).mono ?_); rintro e w3 ⟨rfl, rfl⟩)
                | (at_builtin; refine wpList_append_rowN _ rfl (.tmp 75) (.tmp 76) 62 rfl w.heap.size 71 i0 (.agg #[.int .i64 0, .int .i64 0, .int .i64 0]) 3 24 Tryz.underlying62 hi hz0 hz1 hz2 rfl (by decide) (.slice (some ⟨w2.heap.size + 1, 0, none⟩) 1 1) 1 (frcells ⟨va, vf, va + z⟩) rfl HLIT.out HLE.out.size C acc.length k (cellsAll frcells acc) rfl (cellsAll_length frcells_len acc) (own_none HACC.out) (own_cellsAt HACC.out) (frcells_one acc) (by have := HLN.out; unfold maxLen; omega) (by have := HLN.out; omega) ?_; go_loud (intro A4 c4 w4 hown4 hg4; have HN4 := hidb hown4; have HB4 : Hid (Below w.heap.size w w4) := hidb (HLE.out.grown hg4 HLE.out.size (fun q hq => (by have e : w2.heap.size + 1 = q := (by simpa [Value.ownBlock] using hq); have := HB2.out.size; simp at this; omega))); clear hown4 hg4)))
              go_roundw
              case rel => exact ⟨va + z, ⟨va, vf, va + z⟩ :: acc, A4, c4, by rw [List.length_cons, Nat.add_comm], rfl, by omega, by omega, by rw [List.length_cons]; omega, by rw [List.length_cons, Nat.add_comm]; exact HN4, HB4, hidb (HST.out.symm.trans HG.out)⟩
              case measure => simp [intOf]; omega
            · have b2e : va + z = hi9 := by omega
              obtain rfl : vl = -1 := Decidable.byContradiction fun h => bad (Or.inr (Or.inr ⟨b2e, h⟩))
              have b2b : (va + z == hi9) = true := by simpa using b2e
              have b2f : ¬ (va + z < hi9) := b2
              clear b2e
              clear bad
              --@9
              go_wp2_with (first
                | (go_at_call 49; (with_reducible refine cr.mono ?_); rintro e w2 ⟨rfl, hb2⟩; have HB2 := hidb (belF_al (belF_tr HB.out hb2) (.cells #[.int .i64 va, .int .i64 vf, .int .i64 (-1)] 71)); have HLIT := hidb (frlit_own (w2.alloc (.cells #[.int .i64 va, .int .i64 vf, .int .i64 (-1)] 71)) ⟨va, vf, -1⟩ w.heap.size (w2.heap.size + 1) (by simp) HB2.out.size); have HLE := hidb (belF_al HB2.out (.cells #[.int .i64 va, .int .i64 vf, .int .i64 (-1)] 71)); have HACC := hidb (own_same HO.out fun q hq => (belF_al (belF_al hb2 (.cells #[.int .i64 va, .int .i64 vf, .int .i64 (-1)] 71)) (.cells #[.int .i64 va, .int .i64 vf, .int .i64 (-1)] 71)).block q (HO.out.lt q hq).2))
                | (go_at_call 50; (with_reducible refine (KWZ.out _ HB2.out).mono ?_); rintro e w3 ⟨rfl, rfl⟩)
                | (at_builtin; refine wpList_append_rowN _ rfl (.tmp 75) (.tmp 76) 62 rfl w.heap.size 71 i0 (.agg #[.int .i64 0, .int .i64 0, .int .i64 0]) 3 24 Tryz.underlying62 hi hz0 hz1 hz2 rfl (by decide) (.slice (some ⟨w2.heap.size + 1, 0, none⟩) 1 1) 1 (frcells ⟨va, vf, -1⟩) rfl HLIT.out HLE.out.size C acc.length k (cellsAll frcells acc) rfl (cellsAll_length frcells_len acc) (own_none HACC.out) (own_cellsAt HACC.out) (frcells_one acc) (by have := HLN.out; unfold maxLen; omega) (by have := HLN.out; omega) ?_; go_loud (intro A4 c4 w4 hown4 hg4; have HN4 := hidb hown4; have HB4 : Hid (Below w.heap.size w w4) := hidb (HLE.out.grown hg4 HLE.out.size (fun q hq => (by have e : w2.heap.size + 1 = q := (by simpa [Value.ownBlock] using hq); have := HB2.out.size; simp at this; omega))); clear hown4 hg4)))
              go_roundw
              case rel => exact ⟨va + z, ⟨va, vf, -1⟩ :: acc, A4, c4, by rw [List.length_cons, Nat.add_comm], rfl, by omega, by omega, by rw [List.length_cons]; omega, by rw [List.length_cons, Nat.add_comm]; exact HN4, HB4, hidb (HST.out.symm.trans HG.out)⟩
              case measure => simp [intOf]; omega
        · have HN : Hid (wkGo xs (vals ys) hi9 (hi9 - sp).toNat sp [] = none) := hidb (by rw [← HG.out]; exact wkGo_none hlt (by unfold wkOne; rw [hno, if_pos h0]))
          have h0b : (no != 0) = true := by simpa using h0
          clear hv hno
          --@5
          go_wp2_with (first
            | (go_at_call 49; (with_reducible refine cr.mono ?_); rintro e w2 ⟨rfl, hb2⟩))
          go_ret2
          exact PF.out _ (belF_al (belF_tr HB.out hb2) _) HN.out
      · have hge : ¬ (a < hi9) := hlt
        have HN : Hid (wkGo xs (vals ys) hi9 (hi9 - sp).toNat sp [] = some acc) := hidb (by rw [← HG.out]; exact wkGo_end hlt)
        --@6
        go_wp2
        go_ret2
        exact PG.out _ acc C k HB.out HO.out HN.out
end Go.Proofs.YtlniakcoikhilaaGreatDoor

/- Rows of structs of any size, as the library's sort and Reverse have them. -/
namespace Go.Proofs.YtlniakcoikhilaaGreatDoor
open Go.RowKit Go.Shelf Go.Lib Go.Sort
set_option linter.unusedVariables false

/-- Cells of structs of any size, as the sort has them. -/
theorem flat_cellsK {E : Type} [Inhabited E] (f : E → List Value) (s : Nat) (hs : 0 < s) (hf : ∀ y, (f y).length = s) (d : Array E) : flatK f s d = (cellsAll f d.toList).toArray := by
  apply Array.ext_getElem?
  intro t
  have hlen := cellsAll_length hf d.toList
  simp only [Array.length_toList] at hlen
  by_cases ht : t < d.size * s
  · have hj : t / s < d.size := Nat.div_lt_of_lt_mul (by rw [Nat.mul_comm]; exact ht)
    have hm : t % s < s := Nat.mod_lt _ hs
    have h := cellsAll_at hf d.toList (t / s) d[t / s]! (by rw [getElem!_pos d _ hj]; simp [hj]) (t % s) hm
    have e0 : t / s * s + t % s = t := by rw [Nat.mul_comm]; exact Nat.div_add_mod t s
    rw [e0] at h
    have e1 : (flatK f s d)[t]? = some ((f d[t / s]!)[t % s]!) := by
      rw [Array.getElem?_eq_getElem (by simp; omega)]
      simp [flatK]
    rw [e1, List.getElem?_toArray, h, List.getElem?_eq_getElem (by rw [hf]; exact hm), getElem!_pos _ _ (by rw [hf]; exact hm)]
  · rw [Array.getElem?_eq_none (by simp; omega), Array.getElem?_eq_none (by rw [List.size_toArray]; omega)]
section
variable {E : Type} [Inhabited E] (f : E → List Value) (s : Nat) (hs : 0 < s) (hf : ∀ y, (f y).length = s)
include hs hf
theorem holds_rwK {w : World} {g : Nat} {e : TypeId} {L : List Value} (h : Rw w g e L) (d : Array E) (hd : L.take (d.size * s) = cellsAll f d.toList) : HoldsK f s w g 0 d := by
  unfold HoldsK Holds
  rw [flat_cellsK f s hs hf]
  have hlen := cellsAll_length hf d.toList
  simp only [Array.length_toList] at hlen
  intro j hj
  have hj' : j < (cellsAll f d.toList).length := by simpa using hj
  have hl : j < d.size * s := by omega
  refine ⟨?_, h.free _⟩
  rw [Nat.zero_add, h.cell, getElem!_pos _ _ (by simpa using hj'), List.getElem_toArray]
  have h2 : (L.take (d.size * s))[j]? = L[j]? := by rw [List.getElem?_take, if_pos hl]
  rw [← h2, hd, List.getElem?_eq_getElem hj']; rfl
theorem put_rwK {w : World} {g : Nat} {e : TypeId} {L : List Value} (h : Rw w g e L) (m : Nat) (d : Array E) (hd : d.size * s ≤ L.length) :
    Rw (putRowK f s (Sort.ahead w m) g 0 d) g e (cellsAll f d.toList ++ L.drop (d.size * s)) ∧ w.grownBy (putRowK f s (Sort.ahead w m) g 0 d) (some g) := by
  have hlt := h.lt
  have hrl := cellsAll_length hf d.toList
  simp only [Array.length_toList] at hrl
  unfold Rw at h
  unfold putRowK putRow
  rw [flat_cellsK f s hs hf]
  obtain ⟨C, hC⟩ : ∃ C, cellsAll f d.toList = C := ⟨_, rfl⟩
  rw [hC] at hrl ⊢
  constructor
  · unfold Rw
    show ((w.heap.modify g (onCells (putCells id 0 C.toArray))))[g]? = _
    rw [Array.getElem?_modify, if_pos rfl, h]
    show some (Obj.cells _ e (0, 0)) = _
    congr 2
    unfold putCells
    apply Array.ext_getElem?
    intro k
    rw [Array.getElem?_mapIdx]
    by_cases hk : k < d.size * s
    · rw [List.getElem?_toArray, List.getElem?_toArray, List.getElem?_append_left (by omega), List.getElem?_eq_getElem (by omega), List.getElem?_eq_getElem (by omega)]
      simp only [Option.map_some, Nat.sub_zero]
      rw [if_pos (by simp; omega), getElem!_pos _ _ (by simp; omega), List.getElem_toArray]; rfl
    · rw [List.getElem?_toArray, List.getElem?_toArray, List.getElem?_append_right (by omega), List.getElem?_drop, hrl, show d.size * s + (k - d.size * s) = k by omega]
      cases L[k]? with
      | none => rfl
      | some u =>
        simp only [Option.map_some]
        rw [if_neg (by simp; omega)]
  · refine ⟨rfl, rfl, rfl, ?_, fun k hk hr => ?_⟩
    · show _ ≤ (w.heap.modify g _).size
      simp
    · show (w.heap.modify g _)[k]? = _
      rw [Array.getElem?_modify, if_neg (fun e => hr (by rw [e]))]
end
end Go.Proofs.YtlniakcoikhilaaGreatDoor

/- What slices.Reverse does to a row of frames of the call's own. -/
namespace Go.Proofs.YtlniakcoikhilaaGreatDoor
open Go.RowKit Go.Shelf Go.Lib Go.Sort
set_option linter.unusedVariables false

instance : Inhabited FrV := ⟨fr0⟩
theorem code_wrev (g n c : Nat) (L : List FrV) (w : World) (base : Nat) (hown : w.ownsRow base 71 3 (.slice (some ⟨g, 0, none⟩) n c) n (cellsAll frcells L)) (hl : L.length = n) (hn : n ≤ 131072) :
    Calls Tryz.prog 96 #[.slice (some ⟨g, 0, none⟩) n c] w fun e w' => e = .returned (.tuple #[]) ∧ w'.ownsRow base 71 3 (.slice (some ⟨g, 0, none⟩) n c) n (cellsAll frcells L.reverse) ∧ w.grownBy w' (some g) := by
  obtain ⟨R, hL, hbg, hnc, hcm, hLl, hxs⟩ := own_whole hown
  have hH : HoldsK frcells 3 w g 0 L.toArray := holds_rwK frcells 3 (by decide) frcells_len hL L.toArray (by rw [show L.toArray.size = n by simpa using hl, ← hxs])
  have h := AnyQ.slices_Reverse Tryz.revFrames 3 (fun w => by kernel_rfl) (fun w => by kernel_rfl) frcells frcells_len (fun x u hu => frcells_one [x] u (by simpa [cellsAll] using hu)) g 0 c L.toArray w hH (by simp; omega)
  have hsz : L.toArray.size = n := by simpa using hl
  rw [hsz] at h
  refine Calls.mono h ?_
  rintro e w' ⟨he, q, rfl⟩
  obtain ⟨r1, r2⟩ := put_rwK frcells 3 (by decide) frcells_len hL q L.toArray.reverse (by simp; rw [hl, hLl]; exact Nat.mul_le_mul_right 3 hnc)
  refine ⟨he, ?_, r2⟩
  have hlen : (cellsAll frcells L.reverse).length = n * 3 := by rw [cellsAll_length frcells_len, List.length_reverse, hl]
  have e2 : L.toArray.reverse.toList = L.reverse := by simp
  have e3 : L.toArray.reverse.size = n := by simp [hl]
  rw [e2, e3] at r1
  have h2 := own_of_whole (base := base) (s := 3) (n := n) (c := c) r1 hbg hnc hcm (by rw [List.length_append, List.length_drop, hlen, hLl]; have := Nat.mul_le_mul_right 3 hnc; omega)
  rw [List.take_left' hlen] at h2
  exact h2
/-- .. of a row that may be nil. -/
theorem code_wrev_any (A : Option Addr) (n c : Nat) (L : List FrV) (w : World) (base : Nat) (hown : w.ownsRow base 71 3 (.slice A n c) n (cellsAll frcells L)) (hl : L.length = n) (hn : n ≤ 131072) (hb : base ≤ w.heap.size) :
    Calls Tryz.prog 96 #[.slice A n c] w fun e w' => e = .returned (.tuple #[]) ∧ w'.ownsRow base 71 3 (.slice A n c) n (cellsAll frcells L.reverse) ∧ Below base w w' := by
  cases A with
  | none =>
    obtain rfl := own_none hown rfl
    obtain rfl : L = [] := List.length_eq_zero_iff.1 hl
    refine (AnyQ.slices_Reverse_empty Tryz.revFrames none c w).mono ?_
    rintro e w' ⟨h1, rfl⟩
    exact ⟨h1, hown, Below.refl _ _⟩
  | some a =>
    obtain ⟨g, rfl, hg⟩ : ∃ g, a = ⟨g, 0, none⟩ ∧ base ≤ g := by
      rcases hown.2 with ⟨h1, _⟩ | ⟨g, cap, cur, h1, h2, _⟩
      · cases h1
      · injection h1 with h1
        injection h1 with h1
        exact ⟨g, h1, h2⟩
    refine (code_wrev g n c L w base hown hl hn).mono ?_
    rintro e w' ⟨h1, h2, h3⟩
    exact ⟨h1, h2, (Below.refl _ _).grown h3 hb (fun k hk => by cases hk; exact hg)⟩
end Go.Proofs.YtlniakcoikhilaaGreatDoor

/- Layer 15 (walk): all frames of a stack, or what is thrown. -/
namespace Go.Proofs.YtlniakcoikhilaaGreatDoor
open Go.RowKit
set_option linter.unusedVariables false

/-- Where the walk over all frames ends. -/
def FrsEnd (w : World) (r : Option (List FrV)) (e : Ending) (w' : World) : Prop :=
  (r = none → e = .panicked [noFrame] ∧ Below w.heap.size w w') ∧ (∀ L, r = some L → ∃ A c, e = .returned (.slice A L.length c) ∧ w'.ownsRow w.heap.size 71 3 (.slice A L.length c) L.length (cellsAll frcells L) ∧ Below w.heap.size w w')
set_option maxRecDepth 100000 in
set_option maxHeartbeats 4000000 in
theorem c_wframes {w : World} {B p g len : Nat} {xs : List Nat} {lo' hi' : Nat} {tp : Option Addr} {l : Fns} (s : StV) (hi : Int) (ha : Ar w B p g len xs) (ht : TbO w lo' hi' tp l) (hhi : hi' ≤ w.heap.size) (hl : ∀ x ∈ l, 0 ≤ x.1 ∧ x.1 ≤ 1000) (hx : Wd xs) (hsp : 0 ≤ s.sp ∧ s.sp ≤ hi ∧ hi ≤ len) (hw : s.lo + s.size = hi) :
    Calls Tryz.prog 84 #[wkC s (some ⟨p, 0, none⟩) tp] w (FrsEnd w (wkGo xs l hi (hi - s.sp).toNat s.sp [])) := by
  obtain ⟨i0, hi0, hz0, hz1, hz2⟩ := info_parts info_frame
  have hsm := ha.small
  have hw1 : wrap64 (s.lo + s.size) = hi := by unfold wrap64; omega
  obtain ⟨W0, hW0⟩ : ∃ W0, W0 = w.alloc (.cells #[.int .i64 s.lo, .int .i64 s.size, .int .i64 s.sp, .pointer (some ⟨p, 0, none⟩), .pointer tp] 134) := ⟨_, rfl⟩
  have hb0 : Below w.heap.size w W0 := by rw [hW0]; exact belF_al (Below.refl _ _) _
  have hzW : W0.heap.size = w.heap.size + 1 := by rw [hW0]; simp
  have HB0 := hidb hb0
  have HZ0 := hidb hzW
  have HC : Hid (∀ W, Below W0.heap.size W0 W → WkAt w.heap.size s.lo s.size s.sp (some ⟨p, 0, none⟩) tp W) := hidb (fun W hb => WkAt.new w s.lo s.size s.sp _ tp W (by rw [hW0] at hb; simpa using hb))
  unfold WkAt at HC
  have KE : Hid (∀ W, Calls Tryz.prog 94 #[wkC s (some ⟨p, 0, none⟩) tp] W fun e w' => e = .returned (.int .i64 hi) ∧ Below W.heap.size W w') := hidb (fun W => c_wend s _ tp W hi hw1)
  have KN : Hid (∀ W a, Below w.heap.size w W → in64 a → wkOne xs l hi a = none → Calls Tryz.prog 95 #[wkC s (some ⟨p, 0, none⟩) tp, .int .i64 a] W fun e w' => e = .panicked [noFrame] ∧ Below W.heap.size W w') := hidb (fun W a hb ha' hn => c_wframe_no s hi a (ha.below hb (Nat.le_refl _)) (ht.below (hb.mono hhi)) (Nat.le_trans hhi hb.size) hl hx ha' hw1 hn)
  have KY : Hid (∀ W a x e', Below w.heap.size w W → in64 a → wkOne xs l hi a = some (x, e') → Calls Tryz.prog 95 #[wkC s (some ⟨p, 0, none⟩) tp, .int .i64 a] W fun e w' => e = .returned (.tuple #[frC x, .int .i64 e']) ∧ Below W.heap.size W w') := hidb (fun W a x e' hb ha' hn => c_wframe_yes s hi a (ha.below hb (Nat.le_refl _)) (ht.below (hb.mono hhi)) (Nat.le_trans hhi hb.size) hl hx ha' hw1 x e' hn)
  have HL := hidb hl
  have HSP := hidb hsp
  have HSM := hidb hsm
  obtain ⟨lo, size, sp⟩ := s
  have PF : Hid (∀ W, Below W0.heap.size W0 W → wkGo xs l hi (hi - sp).toNat sp [] = none → FrsEnd w (wkGo xs l hi (hi - sp).toNat sp []) (.panicked [noFrame]) W) := hidb (fun W hb h => by rw [h]; exact ⟨fun _ => ⟨rfl, belF_tr HB0.out hb⟩, fun L h => by cases h⟩)
  have PG : Hid (∀ W (acc : List FrV) C k, Below W0.heap.size W0 W → W.ownsRow W0.heap.size 71 3 (.slice C acc.length k) acc.length (cellsAll frcells acc) → wkGo xs l hi (hi - sp).toNat sp [] = some acc → FrsEnd w (wkGo xs l hi (hi - sp).toNat sp []) (.returned (.slice C acc.length k)) W) := hidb (fun W acc C k hb ho h => by
    rw [h]; exact ⟨fun h => (by cases h), fun L hL => by cases hL; exact ⟨C, k, rfl, own_lower ho HB0.out.size, belF_tr HB0.out hb⟩⟩)
  unfold wkC noFrame at *
  simp only at *
  have HW0 := hidb hW0
  clear ha ht hhi hl hx hsp hw hw1 hsm hW0 hb0 hzW
  go_enter Tryz.func84, Tryz.ntmps84
  go_wp2
  rw [← HW0.out]
  go_loopw [3, 4, 5, 6] (fun v3 v4 _ _ wr => ∃ (a : Int) (acc : List FrV) (C : Option Addr) (k : Nat), v3 = .slice C acc.length k ∧ v4 = .int .i64 a ∧ sp ≤ a ∧ a ≤ hi ∧ ((acc.length : Int) ≤ a - sp) ∧ Hid (wr.ownsRow W0.heap.size 71 3 (.slice C acc.length k) acc.length (cellsAll frcells acc.reverse)) ∧ Hid (Below W0.heap.size W0 wr) ∧ Hid (wkGo xs l hi (hi - a).toNat a acc = wkGo xs l hi (hi - sp).toNat sp [])) (fun _ v4 _ _ _ => (hi - intOf v4).toNat)
  case atStart => exact ⟨sp, [], none, 0, rfl, rfl, by omega, HSP.out.2.1, by simp, hidb (World.ownsRow_nil _ _ _ _), hidb (Below.refl _ _), hidb rfl⟩
  case round =>
    obtain ⟨a, acc, C, k, rfl, rfl, ha0, ha1, hk, HO, HB, HG⟩ := hrel
    obtain ⟨hsp0, _, hspl⟩ := HSP.out
    have hsml := HSM.out
    obtain ⟨⟨c0, c1⟩, ⟨c2, c3⟩, c4⟩ := HC.out wr HB.out
    have ke := KE.out wr
    by_cases hlt : a < hi
    · cases hone : wkOne xs l hi a with
      | none =>
        have HN : Hid (wkGo xs l hi (hi - sp).toNat sp [] = none) := hidb (by rw [← HG.out]; exact wkGo_none hlt hone)
        have kn := fun W hb => KN.out W a hb (by unfold in64; omega) hone
        have KNN := hidb kn
        clear kn hone hspl hsml hsp0
        --@1
        go_wp2_with (first
          | (go_at_call 94; (with_reducible refine ke.mono ?_); rintro e w2 ⟨rfl, hb2⟩; have HB2 := hidb (belF_tr HB.out hb2); have hc2 := HC.out w2 HB2.out)
          | (go_at_call 95; (with_reducible refine (KNN.out _ (belF_tr HB0.out HB2.out)).mono ?_); rintro e w3 ⟨rfl, hb3⟩))
        exact ⟨rfl, PF.out _ (belF_tr HB2.out hb3) HN.out⟩
      | some xe =>
        obtain ⟨⟨va, vf, vl⟩, e'⟩ := xe
        have HST := hidb (wkGo_step (acc := acc) HL.out hlt hone)
        have hg := wkOne_good HL.out hone
        have hg4 := hg.2.2.2.1
        have hg5 := hg.2.2.2.2.1
        have ky := fun W hb => KY.out W a ⟨va, vf, vl⟩ e' hb (by unfold in64; omega) hone
        unfold frC at ky
        simp only at ky
        have KYY := hidb ky
        clear ky hone hg
        --@2
        go_wp2_with (first
          | (go_at_call 94; (with_reducible refine ke.mono ?_); rintro e w2 ⟨rfl, hb2⟩; have HB2 := hidb (belF_tr HB.out hb2); have hc2 := HC.out w2 HB2.out; have HO2 := hidb (own_same HO.out fun q hq => hb2.block q (HO.out.lt q hq).2))
          | (go_at_call 95; (with_reducible refine (KYY.out _ (belF_tr HB0.out HB2.out)).mono ?_); rintro e w3 ⟨rfl, hb3⟩; have HB3 := hidb (belF_tr HB2.out hb3); have HA3 := hidb (belF_al HB3.out (.cells #[.int .i64 va, .int .i64 vf, .int .i64 vl] 71)); have HLIT := hidb (frlit_own (w3.alloc (.cells #[.int .i64 va, .int .i64 vf, .int .i64 vl] 71)) ⟨va, vf, vl⟩ W0.heap.size (w3.heap.size + 1) (by simp) HA3.out.size); have HLE := hidb (belF_al HA3.out (.cells #[.int .i64 va, .int .i64 vf, .int .i64 vl] 71)); have HACC := hidb (own_same HO2.out fun q hq => (belF_al (belF_al hb3 (.cells #[.int .i64 va, .int .i64 vf, .int .i64 vl] 71)) (.cells #[.int .i64 va, .int .i64 vf, .int .i64 vl] 71)).block q (HO2.out.lt q hq).2))
          | (at_builtin; refine wpList_append_rowN _ rfl _ _ 62 rfl W0.heap.size 71 i0 (.agg #[.int .i64 0, .int .i64 0, .int .i64 0]) 3 24 Tryz.underlying62 hi0 hz0 hz1 hz2 rfl (by decide) (.slice C acc.length k) acc.length (cellsAll frcells acc.reverse) rfl HACC.out HLE.out.size (some ⟨w3.heap.size + 1, 0, none⟩) 1 1 (frcells ⟨va, vf, vl⟩) rfl rfl (fun h => by cases h) (own_cellsAt HLIT.out) (by intro u hu; exact frcells_one [⟨va, vf, vl⟩] u (by simpa [cellsAll] using hu)) (by unfold maxLen; omega) (by omega) ?_; go_loud (intro A4 c4' w4 hown4 hg4'; have HN4 := hidb hown4; have HB4 : Hid (Below W0.heap.size W0 w4) := hidb (HLE.out.grown hg4' HLE.out.size (fun q hq => ((HACC.out.lt q hq).1))); clear hown4 hg4')))
        go_roundw
        case rel => exact ⟨e', ⟨va, vf, vl⟩ :: acc, A4, c4', by rw [List.length_cons], rfl, by omega, by omega, by rw [List.length_cons]; omega, by rw [List.length_cons, List.reverse_cons, cellsAll_append]; exact HN4, HB4, hidb (HST.out.symm.trans HG.out)⟩
        case measure => simp [intOf]; omega
    · have HN : Hid (wkGo xs l hi (hi - sp).toNat sp [] = some acc) := hidb (by rw [← HG.out]; exact wkGo_end hlt)
      have HR : Hid (∀ W, Below wr.heap.size wr W → Calls Tryz.prog 96 #[.slice C acc.length k] W fun e w' => e = .returned (.tuple #[]) ∧ w'.ownsRow W0.heap.size 71 3 (.slice C acc.length k) acc.length (cellsAll frcells acc) ∧ Below W0.heap.size W w') := hidb (fun W hb => by
        have h := code_wrev_any C acc.length k acc.reverse W W0.heap.size (own_same HO.out fun q hq => hb.block q (HO.out.lt q hq).2) (by rw [List.length_reverse]) (by omega) (Nat.le_trans HB.out.size hb.size)
        rw [List.reverse_reverse] at h
        exact h)
      clear hspl hsml hsp0
      --@3
      go_wp2_with (first
        | (go_at_call 94; (with_reducible refine ke.mono ?_); rintro e w2 ⟨rfl, hb2⟩; have HB2 := hidb hb2)
        | (go_at_call 96; (with_reducible refine (HR.out _ HB2.out).mono ?_); rintro e w3 ⟨rfl, ho3, hb3⟩))
      go_ret
      exact PG.out _ acc C k ((belF_tr HB.out HB2.out).trans hb3) ho3 HN.out
end Go.Proofs.YtlniakcoikhilaaGreatDoor

/- Layer 15 (walk): what Frames, Used and Room return. -/
namespace Go.Proofs.YtlniakcoikhilaaGreatDoor
open Go.RowKit
set_option linter.unusedVariables false

/-- The closure that Frames defers: what was thrown is told. -/
theorem catch_wf (T : TypeId) (no : Int) (ht : ∀ w : World, Calls Tryz.prog 83 #[.iface T (.agg #[])] w fun e w' => e = .returned (.int .i64 no) ∧ w' = w.alloc (.cells #[] T)) (p : Addr) (x : Int) (w : World) (hb : p.block < w.heap.size) (hc : w.cell? p = some (.int .i64 x)) (hz : w.frozen? p = false) :
    CallsD Tryz.prog 82 #[.pointer (some p)] (.panicking [{ v := .iface T (.agg #[]), recovered := false }]) w fun e u' w' =>
      e = .returned (.tuple #[]) ∧ u' = .panicking [{ v := .iface T (.agg #[]), recovered := true }] ∧ w' = (w.alloc (.cells #[] T)).setCell p (.int .i64 no) := by
  have hz' : (w.alloc (.cells #[] T)).frozen? p = false := by rw [((Below.refl w.heap.size w).alloc (Nat.le_refl _) _).frozen hb]; exact hz
  have hc' : (w.alloc (.cells #[] T)).cell? p = some (.int .i64 x) := by rw [World.cell?_alloc_lt _ _ _ hb]; exact hc
  refine callsD_of_wpS Tryz.func82 rfl fun c₀ cs' hu => ?_
  change Code.wpS _ _ _ { tmps := #[.pointer (some p), undef, undef], defers := [] } _ _
  apply wpS_region
  simp [wpOpsS, go_sem, recoverD, hu]
  refine (ht _).mono ?_
  rintro e w' ⟨rfl, rfl⟩
  simp [go_sem, hz', hc', bodyPostS, results, Tryz.results82]
theorem idle_wf (p : Addr) (x : Int) (w : World) (hc : w.cell? p = some (.int .i64 x)) (hz : w.frozen? p = false) :
    CallsD Tryz.prog 82 #[.pointer (some p)] .returning w fun e u' w' => e = .returned (.tuple #[]) ∧ u' = .returning ∧ w' = w.setCell p (.int .i64 0) := by
  refine callsD_of_wpS Tryz.func82 rfl fun c₀ cs' hu => ?_
  change Code.wpS _ _ _ { tmps := #[.pointer (some p), undef, undef], defers := [] } _ _
  apply wpS_region
  simp [wpOpsS, go_sem, recoverD, hu]
  refine (c_wtold0 _).mono ?_
  rintro e w' ⟨rfl, rfl⟩
  simp [go_sem, hz, hc, bodyPostS, results, Tryz.results82]
  cases c₀
  simp_all

/-- The call's first blocks: the stack, the error. -/
def FRW (w : World) (lo size sp : Int) : World := (w.alloc (.cells #[.int .i64 lo, .int .i64 size, .int .i64 sp] 25)).alloc (.cells #[.int .i64 0] 27)
theorem FRW.facts (w : World) (lo size sp : Int) : Below w.heap.size w (FRW w lo size sp) ∧ (FRW w lo size sp).heap.size = w.heap.size + 2 ∧ (FRW w lo size sp).cell? ⟨w.heap.size + 1, 0, none⟩ = some (.int .i64 0) ∧ (FRW w lo size sp).frozen? ⟨w.heap.size + 1, 0, none⟩ = false := by
  have e : w.heap.size + 1 = (w.alloc (.cells #[.int .i64 lo, .int .i64 size, .int .i64 sp] 25)).heap.size := by simp
  refine ⟨belF_al (belF_al (Below.refl _ _) _) _, by unfold FRW; simp, ?_, by unfold FRW; simp [go_sem]⟩
  unfold FRW; rw [e]; exact World.cell?_alloc_at _ _ _ 0 (by simp)

/-- As ResFr, with the room that the row has. -/
def ResFrC (w : World) (r : List FrV × Int) (e : Ending) (w' : World) : Prop := ∃ A c, e = .returned (.tuple #[.slice A r.1.length c, .int .i64 r.2]) ∧ FrRow w' w'.heap.size A r.1.length r.1 ∧ r.1.length ≤ c ∧ Below w.heap.size w w'
set_option maxRecDepth 100000 in
set_option maxHeartbeats 4000000 in
theorem code_wframesC {w : World} {B p g len : Nat} {xs : List Nat} {lo' hi' : Nat} {tp : Option Addr} {l : Fns} (s : StV) (ha : Ar w B p g len xs) (ht : TbO w lo' hi' tp l) (hhi : hi' ≤ w.heap.size) (hl : ∀ x ∈ l, 0 ≤ x.1 ∧ x.1 ≤ 1000) (hx : Wd xs) (h0 : in64 s.lo) (h1 : in64 s.size) (h2 : in64 s.sp) :
    Calls Tryz.prog 59 #[.pointer (some ⟨p, 0, none⟩), .pointer tp, stC s] w (ResFrC w (wkFrames xs l s)) := by
  have hxl := ha.hlen
  obtain ⟨lo, size, sp⟩ := s
  simp only at h0 h1 h2
  obtain ⟨f1, f2, f3, f4⟩ := FRW.facts w lo size sp
  have HB1 := hidb f1
  have HZ1 := hidb f2
  have KC : Hid (∀ W, Below (FRW w lo size sp).heap.size (FRW w lo size sp) W → W.cell? ⟨w.heap.size + 1, 0, none⟩ = some (.int .i64 0) ∧ W.frozen? ⟨w.heap.size + 1, 0, none⟩ = false) := hidb (fun W hb => ⟨(hb.cell (by show w.heap.size + 1 < _; omega)).trans f3, (hb.frozen (by show w.heap.size + 1 < _; omega)).trans f4⟩)
  have HW3 : Hid (Below (FRW w lo size sp).heap.size (FRW w lo size sp) ((FRW w lo size sp).alloc (.cells #[.int .i64 lo, .int .i64 size, .int .i64 sp, .pointer (some ⟨p, 0, none⟩), .pointer tp] 134))) := hidb (belF_al (Below.refl _ _) _)
  have b3 := belF_tr HB1.out HW3.out
  have HWC : Hid (∀ W, Below ((FRW w lo size sp).alloc (.cells #[.int .i64 lo, .int .i64 size, .int .i64 sp, .pointer (some ⟨p, 0, none⟩), .pointer tp] 134)).heap.size ((FRW w lo size sp).alloc (.cells #[.int .i64 lo, .int .i64 size, .int .i64 sp, .pointer (some ⟨p, 0, none⟩), .pointer tp] 134)) W → WkAt (w.heap.size + 1 + 1) lo size sp (some ⟨p, 0, none⟩) tp W) := hidb (fun W hb => by
    have := WkAt.new (FRW w lo size sp) lo size sp (some ⟨p, 0, none⟩) tp W (by simpa using hb)
    rw [f2] at this
    exact this)
  unfold WkAt at HWC
  have km := fun b hb => c_wmay ⟨lo, size, sp⟩ p tp len (ha.below b3 (Nat.le_refl _)) h0 h1 h2 b hb
  cases hm : stMay ⟨lo, size, sp⟩ len with
  | false =>
    have E : wkFrames xs l ⟨lo, size, sp⟩ = ([], 1) := by unfold wkFrames; rw [hxl, hm, if_pos rfl]
    rw [E]
    have cm := km false hm
    unfold wkC FRW at cm
    unfold FRW at HB1 KC HW3
    unfold stC
    simp only at *
    clear ha ht hhi hl hx h0 h1 h2 hxl f1 f2 f3 f4 b3 km hm E HWC HZ1
    --@1
    go_enter_defers Tryz.func59, Tryz.ntmps59
    go_wp2_with (first
      | (go_at_call 81; (with_reducible refine cm.mono ?_); rintro e w1 ⟨rfl, hb1⟩))
    obtain ⟨hce, hfe⟩ := KC.out w1 (belF_tr HW3.out hb1)
    refine leaves_cons (f := 82) (args := #[.pointer (some ⟨w.heap.size + 1, 0, none⟩)]) (by simp) (by simp [go_sem]) ?_
    refine (catch_wf 135 1 c_wtold1 ⟨w.heap.size + 1, 0, none⟩ 0 w1 (lt_of_cell' hce) hce hfe).mono ?_
    rintro e u' w'' ⟨rfl, rfl, rfl⟩
    have hc2 : ((w1.alloc (.cells #[] 135)).setCell ⟨w.heap.size + 1, 0, none⟩ (.int .i64 1)).cell? ⟨w.heap.size + 1, 0, none⟩ = some (.int .i64 1) := World.cell?_setCell_same _ _ _ ((World.cell?_alloc_lt _ _ _ (lt_of_cell' hce)).trans hce)
    simp [Leaves, settle, results, Tryz.results59, go_sem, hc2]
    exact ⟨none, 0, rfl, RowOf.nil_, Nat.le_refl _, (belF_al (belF_tr HB1.out (belF_tr HW3.out hb1)) _).setCell (Nat.le_succ _) _⟩
  | true =>
    obtain ⟨g1, g2, g3, g4, g5⟩ := wkGo_few (l := l) (by rw [hxl]; exact hm)
    simp only at g1 g2 g3 g4 g5
    rw [hxl] at g5
    have cm := km true hm
    have cf := fun W hb => c_wframes (w := W) (B := B) (p := p) (g := g) (len := len) (xs := xs) (tp := tp) (l := l) ⟨lo, size, sp⟩ (lo + size) (ha.below (belF_tr b3 hb) (Nat.le_refl _)) (ht.below ((belF_tr b3 hb).mono hhi)) (Nat.le_trans hhi (belF_tr b3 hb).size) hl hx ⟨by simp only; omega, by simp only; omega, g5⟩ rfl
    have CF := hidb cf
    cases hr : wkGo xs l (lo + size) (lo + size - sp).toNat sp [] with
    | none =>
      have E : wkFrames xs l ⟨lo, size, sp⟩ = ([], 9) := by unfold wkFrames; rw [hxl, hm, if_neg (by simp)]; simp only; rw [hr]
      rw [E]
      unfold wkC FRW at cm CF
      simp only at CF
      rw [hr] at CF
      unfold FRW at HB1 KC HW3 HWC
      unfold stC
      simp only at *
      clear ha ht hhi hl hx h0 h1 h2 hxl f1 f2 f3 f4 b3 km hm E HZ1 cf hr g1 g2 g3 g4 g5
      --@2
      go_enter_defers Tryz.func59, Tryz.ntmps59
      go_wp2_with (first
        | (go_at_call 81; (with_reducible refine cm.mono ?_); rintro e w1 ⟨rfl, hb1⟩; have HX1 := hidb hb1; have hwc := HWC.out w1 hb1)
        | (go_at_call 84; (with_reducible refine (CF.out _ HX1.out).mono ?_); rintro e w2 ⟨hn2, _⟩; obtain ⟨rfl, hb2⟩ := hn2 rfl; unfold noFrame))
      obtain ⟨hce, hfe⟩ := KC.out w2 (belF_tr HW3.out (belF_tr HX1.out hb2))
      refine leaves_cons (f := 82) (args := #[.pointer (some ⟨w.heap.size + 1, 0, none⟩)]) (by simp) (by simp [go_sem]) ?_
      refine (catch_wf 151 9 c_wtold9 ⟨w.heap.size + 1, 0, none⟩ 0 w2 (lt_of_cell' hce) hce hfe).mono ?_
      rintro e u' w'' ⟨rfl, rfl, rfl⟩
      have hc2 : ((w2.alloc (.cells #[] 151)).setCell ⟨w.heap.size + 1, 0, none⟩ (.int .i64 9)).cell? ⟨w.heap.size + 1, 0, none⟩ = some (.int .i64 9) := World.cell?_setCell_same _ _ _ ((World.cell?_alloc_lt _ _ _ (lt_of_cell' hce)).trans hce)
      simp [Leaves, settle, results, Tryz.results59, go_sem, hc2]
      exact ⟨none, 0, rfl, RowOf.nil_, Nat.le_refl _, (belF_al (belF_tr HB1.out (belF_tr HW3.out (belF_tr HX1.out hb2))) _).setCell (Nat.le_succ _) _⟩
    | some L =>
      have E : wkFrames xs l ⟨lo, size, sp⟩ = (L, 0) := by unfold wkFrames; rw [hxl, hm, if_neg (by simp)]; simp only; rw [hr]
      rw [E]
      unfold wkC FRW at cm CF
      simp only at CF
      rw [hr] at CF
      unfold FRW at HB1 KC HW3 HWC
      unfold stC
      simp only at *
      clear ha ht hhi hl hx h0 h1 h2 hxl f1 f2 f3 f4 b3 km hm E HZ1 cf hr g1 g2 g3 g4 g5
      --@3
      go_enter_defers Tryz.func59, Tryz.ntmps59
      go_wp2_with (first
        | (go_at_call 81; (with_reducible refine cm.mono ?_); rintro e w1 ⟨rfl, hb1⟩; have HX1 := hidb hb1; have hwc := HWC.out w1 hb1)
        | (go_at_call 84; (with_reducible refine (CF.out _ HX1.out).mono ?_); rintro e w2 ⟨_, hn2⟩; obtain ⟨A, c, rfl, ho2, hb2⟩ := hn2 L rfl; obtain ⟨hce, hfe⟩ := KC.out w2 (belF_tr HW3.out (belF_tr HX1.out hb2)); have HO2 := hidb ho2; have HX2 := hidb hb2))
      refine leaves_cons (f := 82) (args := #[.pointer (some ⟨w.heap.size + 1, 0, none⟩)]) (by simp) (by simp [go_sem]) ?_
      refine (idle_wf ⟨w.heap.size + 1, 0, none⟩ 0 _ (World.cell?_setCell_same _ _ _ hce) (by simp [hfe])).mono ?_
      rintro e u' w'' ⟨rfl, rfl, rfl⟩
      have hc2 := World.cell?_setCell_same (w2.setCell ⟨w.heap.size + 1, 0, none⟩ (.int .i64 0)) ⟨w.heap.size + 1, 0, none⟩ (.int .i64 0) (World.cell?_setCell_same _ _ (.int .i64 0) hce)
      simp [Leaves, settle, results, Tryz.results59, go_sem, hc2]
      have hlow : w.heap.size + 1 < w1.heap.size := by have := (HX1.out).size; simp at this; omega
      have ho3 := ownsRow_setCell_below (ownsRow_setCell_below HO2.out (a := ⟨w.heap.size + 1, 0, none⟩) hlow (.int .i64 0)) (a := ⟨w.heap.size + 1, 0, none⟩) hlow (.int .i64 0)
      exact ⟨A, c, rfl, FrRow.of_own ho3 rfl, own_capsL ho3, ((belF_tr HB1.out (belF_tr HW3.out (belF_tr HX1.out HX2.out))).setCell (Nat.le_succ _) _).setCell (Nat.le_succ _) _⟩
theorem code_wframes {w : World} {B p g len : Nat} {xs : List Nat} {lo' hi' : Nat} {tp : Option Addr} {l : Fns} (s : StV) (ha : Ar w B p g len xs) (ht : TbO w lo' hi' tp l) (hhi : hi' ≤ w.heap.size) (hl : ∀ x ∈ l, 0 ≤ x.1 ∧ x.1 ≤ 1000) (hx : Wd xs) (h0 : in64 s.lo) (h1 : in64 s.size) (h2 : in64 s.sp) :
    Calls Tryz.prog 59 #[.pointer (some ⟨p, 0, none⟩), .pointer tp, stC s] w (ResFr w (wkFrames xs l s)) := (code_wframesC s ha ht hhi hl hx h0 h1 h2).mono fun e w' ⟨A, c, h1, h2, _, h3⟩ => ⟨A, c, h1, h2, h3⟩
end Go.Proofs.YtlniakcoikhilaaGreatDoor

/- Layer 15 (walk): what Used and Room return. -/
namespace Go.Proofs.YtlniakcoikhilaaGreatDoor
open Go.RowKit
set_option linter.unusedVariables false

def StNear (s : StV) : Prop := (0 ≤ s.lo ∧ s.lo ≤ 1099511627776) ∧ (0 ≤ s.size ∧ s.size ≤ 1099511627776) ∧ 0 ≤ s.sp ∧ s.sp ≤ 1099511627776
theorem c_wreck (s : StV) (hs : StNear s) (w : World) : Calls Tryz.prog 62 #[stC s] w fun e w' => e = .returned (.bool true) ∧ Below w.heap.size w w' := by
  obtain ⟨lo, size, sp⟩ := s
  obtain ⟨⟨h1, h2⟩, ⟨h3, h4⟩, h5, h6⟩ := hs
  simp only at h1 h2 h3 h4 h5 h6
  have hd : decide (0 ≤ min (min lo size) sp) = true := decide_eq_true (by omega)
  have hd2 : decide (max (max lo size) sp ≤ 1099511627776) = true := decide_eq_true (by omega)
  unfold stC
  simp only
  go_enter Tryz.func62, Tryz.ntmps62
  go_wp2
  all_goals go_ret
  all_goals exact ⟨rfl, belF_al (Below.refl _ _) _⟩
theorem code_wused (s : StV) (hs : StNear s) (w : World) : Calls Tryz.prog 31 #[stC s] w fun e w' => e = .returned (.int .i64 (max (s.lo + s.size - s.sp) 0)) ∧ Below w.heap.size w w' := by
  have cr := fun W => c_wreck s hs W
  obtain ⟨lo, size, sp⟩ := s
  obtain ⟨⟨h1, h2⟩, ⟨h3, h4⟩, h5, h6⟩ := hs
  simp only at h1 h2 h3 h4 h5 h6
  have HB := hidb (belF_al (Below.refl w.heap.size w) (.cells #[.int .i64 lo, .int .i64 size, .int .i64 sp] 25))
  have HC : Hid (∀ W, Below (w.alloc (.cells #[.int .i64 lo, .int .i64 size, .int .i64 sp] 25)).heap.size (w.alloc (.cells #[.int .i64 lo, .int .i64 size, .int .i64 sp] 25)) W → W.cell? ⟨w.heap.size, 0, none⟩ = some (.int .i64 lo) ∧ W.cell? ⟨w.heap.size, 1, none⟩ = some (.int .i64 size) ∧ W.cell? ⟨w.heap.size, 2, none⟩ = some (.int .i64 sp)) := hidb (fun W hb => by refine ⟨?_, ?_, ?_⟩ <;> (rw [hb.cell (by simp)]; simp))
  unfold stC at *
  simp only at *
  go_enter Tryz.func31, Tryz.ntmps31
  go_wp2_with (first | (go_at_call 62; (with_reducible refine (cr _).mono ?_); rintro e w1 ⟨rfl, hb1⟩; obtain ⟨c0, c1, c2⟩ := HC.out w1 hb1))
  go_ret
  exact ⟨rfl, belF_tr HB.out hb1⟩
end Go.Proofs.YtlniakcoikhilaaGreatDoor
