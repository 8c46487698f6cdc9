/- Several texts in one: WlkMath, WlkPlain, LexTail, WlkSizes, WlkMay, WlkAsk, WlkFrame, WlkRef, WlkRef2, RowK, WlkRev, WlkFrames, WlkCode, WlkUsed. -/
import Derived.Test.YtdcnpaodcjfdbaaGreatDoorFrmAll
import Derived.Test.YtdcnpaodcjfdbaaGreatDoorNumMath
import Derived.Test.YtdcnpaodcjfdbaaGreatDoorRows7
import Derived.Test.YtdcnpaodcjfdbaaGreatDoorNumWalks
import Derived.Test.YtdcnpaodcjfdbaaGreatDoorAppendRow
import Derived.Test.YtdcnpaodcjfdbaaGreatDoorShelf
import Derived.Deep.QuietTactic
import Derived.RegionTactic
import Derived.Tactics2
import Derived.BigQuiet
import Derived.Defers
import Derived.Recover
import Derived.Laws.StructEq
import Derived.Shelf.SlicesQ.Reverse
import Derived.Lib.MinMax
/- Frames one behind the other (layer 15): plain functions. No program is named here but for the values. -/
namespace Go.Proofs.YtdcnpaodcjfdbaaGreatDoor
open Go.RowKit
set_option linter.unusedVariables false

/-- A stack: its first address, its size, where its last frame stands. -/
structure StV where
  lo : Int
  size : Int
  sp : Int
deriving DecidableEq
def stC (s : StV) : Value := .agg #[.int .i64 s.lo, .int .i64 s.size, .int .i64 s.sp]
/-- Is there a stack of so many words? -/
def stkSz (n : Int) : Bool := decide (16 ≤ n) && isB n
/-- Is it a stack within so many words? -/
def stMay (s : StV) (words : Int) : Bool := stkSz s.size && decide (s.size ≤ words ∧ 0 ≤ s.lo ∧ s.lo ≤ words - s.size ∧ s.lo ≤ s.sp ∧ s.sp ≤ s.lo + s.size)
/-- One frame more, if one stands there that fits: its end. -/
def wkOne (xs : List Nat) (l : Fns) (hi a : Int) : Option (FrV × Int) :=
  if (frRead xs l a).2 ≠ 0 then none
  else
    let x := (frRead xs l a).1
    let e := a + fWords l x.fn
    if hi < e ∨ (e < hi ∧ x.link ≠ e) ∨ (e = hi ∧ x.link ≠ -1) then none else some (x, e)
/-- The frames from an address on, ahead of those that were met. -/
def wkGo (xs : List Nat) (l : Fns) (hi : Int) : Nat → Int → List FrV → Option (List FrV)
  | 0, a, acc => if a < hi then none else some acc
  | n + 1, a, acc => if a < hi then
      match wkOne xs l hi a with
      | none => none
      | some (x, e) => wkGo xs l hi n e (x :: acc)
    else some acc
/-- The frames of a stack, the bottom one first; the error's number. -/
def wkFrames (xs : List Nat) (l : Fns) (s : StV) : List FrV × Int :=
  if stMay s xs.length = false then ([], 1)
  else match wkGo xs l (s.lo + s.size) (s.lo + s.size - s.sp).toNat s.sp [] with
    | none => ([], 9)
    | some f => (f, 0)

theorem frRead_cases (xs : List Nat) (l : Fns) (a : Int) : ((frRead xs l a).2 ≠ 0 ∧ (frRead xs l a).1 = fr0) ∨ (∃ n : Nat, a = (n : Int) ∧ aIn xs.length a 2 = true ∧ frOk xs l n = true ∧ frRead xs l a = (⟨a, (xs.getD (n + 1) 0 : Nat) - 1, (xs.getD n 0 : Nat) - 1⟩, 0)) := by
  by_cases h : aIn xs.length a 2 = true
  · have hA := of_decide_eq_true h
    obtain ⟨n, rfl⟩ : ∃ n : Nat, a = (n : Int) := ⟨a.toNat, by omega⟩
    cases hk : frOk xs l n with
    | true => exact Or.inr ⟨n, rfl, h, hk, frRead_yes h hk⟩
    | false => exact Or.inl ⟨by rw [frRead_no h hk]; simp, by rw [frRead_no h hk]⟩
  · have h' : aIn xs.length a 2 = false := by simpa using h
    exact Or.inl ⟨by rw [frRead_out h']; simp, by rw [frRead_out h']⟩
/-- What is read is a frame whose words are there. -/
theorem frRead_good {xs : List Nat} {l : Fns} {a : Int} (hl : ∀ x ∈ l, 0 ≤ x.1 ∧ x.1 ≤ 1000) (h : (frRead xs l a).2 = 0) :
    0 ≤ a ∧ (frRead xs l a).1.at_ = a ∧ 0 ≤ (frRead xs l a).1.fn ∧ (frRead xs l a).1.fn < l.length ∧ 2 ≤ fWords l (frRead xs l a).1.fn ∧ fWords l (frRead xs l a).1.fn ≤ 1002 ∧ a + fWords l (frRead xs l a).1.fn ≤ xs.length ∧ -1 ≤ (frRead xs l a).1.link ∧ (frRead xs l a).1.link < xs.length := by
  rcases frRead_cases xs l a with h1 | ⟨n, rfl, h1, h2, h3⟩
  · exact absurd h h1.1
  · rw [h3]
    unfold frOk at h2
    have h2 := of_decide_eq_true h2
    have hc := fWords_cases l hl ((xs.getD (n + 1) 0 : Nat) - 1 : Int)
    refine ⟨by omega, rfl, ?_, ?_, ?_, ?_, ?_, ?_, ?_⟩ <;> simp only <;> omega
theorem wkOne_good {xs : List Nat} {l : Fns} {hi a e : Int} {x : FrV} (hl : ∀ x ∈ l, 0 ≤ x.1 ∧ x.1 ≤ 1000) (h : wkOne xs l hi a = some (x, e)) :
    (frRead xs l a).2 = 0 ∧ x = (frRead xs l a).1 ∧ e = a + fWords l x.fn ∧ a + 2 ≤ e ∧ e ≤ hi ∧ (e < hi → x.link = e) ∧ (e = hi → x.link = -1) ∧ 0 ≤ a ∧ x.at_ = a ∧ e ≤ xs.length := by
  unfold wkOne at h
  by_cases h0 : (frRead xs l a).2 = 0
  · rw [if_neg (by simpa using h0)] at h
    have hg := frRead_good hl h0
    simp only at h
    split at h
    · cases h
    · rename_i hn
      injection h with h
      injection h with h1 h2
      subst h1 h2
      refine ⟨h0, rfl, rfl, by omega, by omega, fun h => ?_, fun h => ?_, hg.1, hg.2.1, hg.2.2.2.2.2.2.1⟩
      · by_cases hh : (frRead xs l a).1.link = a + fWords l (frRead xs l a).1.fn
        · exact hh
        · exact absurd (Or.inr (Or.inl ⟨h, hh⟩)) hn
      · by_cases hh : (frRead xs l a).1.link = -1
        · exact hh
        · exact absurd (Or.inr (Or.inr ⟨h, hh⟩)) hn
  · rw [if_pos h0] at h; cases h
/-- More steps than there are words change nothing. -/
theorem wkGo_more {xs : List Nat} {l : Fns} (hl : ∀ x ∈ l, 0 ≤ x.1 ∧ x.1 ≤ 1000) (hi : Int) : ∀ (n m : Nat) (a : Int) (acc : List FrV), (hi - a).toNat ≤ n → n ≤ m → wkGo xs l hi n a acc = wkGo xs l hi m a acc
  | 0, m, a, acc, h, _ => by
    have ha : ¬ a < hi := by omega
    cases m with
    | zero => rfl
    | succ m => unfold wkGo; rw [if_neg ha, if_neg ha]
  | n + 1, 0, a, acc, h, hm => by omega
  | n + 1, m + 1, a, acc, h, hm => by
    unfold wkGo
    by_cases ha : a < hi
    · rw [if_pos ha, if_pos ha]
      cases hw : wkOne xs l hi a with
      | none => rfl
      | some xe =>
        obtain ⟨x, e⟩ := xe
        have hg := wkOne_good hl hw
        exact wkGo_more hl hi n m e (x :: acc) (by omega) (by omega)
    · rw [if_neg ha, if_neg ha]
/-- One step of the walk. -/
theorem wkGo_step {xs : List Nat} {l : Fns} (hl : ∀ x ∈ l, 0 ≤ x.1 ∧ x.1 ≤ 1000) {hi a e : Int} {x : FrV} {acc : List FrV} (ha : a < hi) (hw : wkOne xs l hi a = some (x, e)) :
    wkGo xs l hi (hi - a).toNat a acc = wkGo xs l hi (hi - e).toNat e (x :: acc) := by
  have hg := wkOne_good hl hw
  obtain ⟨n, hn⟩ : ∃ n, (hi - a).toNat = n + 1 := ⟨(hi - a).toNat - 1, by omega⟩
  rw [hn]
  rw [show wkGo xs l hi (n + 1) a acc = wkGo xs l hi n e (x :: acc) by rw [wkGo, if_pos ha, hw]]
  exact (wkGo_more hl hi _ _ _ _ (by omega) (by omega)).symm
theorem wkGo_none {xs : List Nat} {l : Fns} {hi a : Int} {acc : List FrV} (ha : a < hi) (hw : wkOne xs l hi a = none) : wkGo xs l hi (hi - a).toNat a acc = none := by
  obtain ⟨n, hn⟩ : ∃ n, (hi - a).toNat = n + 1 := ⟨(hi - a).toNat - 1, by omega⟩
  rw [hn, wkGo, if_pos ha, hw]
theorem wkGo_end {xs : List Nat} {l : Fns} {hi a : Int} {acc : List FrV} (ha : ¬ a < hi) : wkGo xs l hi (hi - a).toNat a acc = some acc := by
  rw [show (hi - a).toNat = 0 by omega, wkGo, if_neg ha]
end Go.Proofs.YtdcnpaodcjfdbaaGreatDoor

/- Frames one behind the other (layer 15): plain facts: how they hang together; a frame that is pushed is met. -/
namespace Go.Proofs.YtdcnpaodcjfdbaaGreatDoor
open Go.RowKit
set_option linter.unusedVariables false

/-- The address behind a frame, by a table. -/
def wkEnd (l : Fns) (x : FrV) : Int := x.at_ + fWords l x.fn
/-- Each frame's link, and its end, are the one ahead of it. -/
def Con (l : Fns) : List FrV → Prop
  | [] => True
  | [_] => True
  | x :: y :: r => y.link = x.at_ ∧ wkEnd l y = x.at_ ∧ Con l (y :: r)
theorem wkGo_top {xs : List Nat} {l : Fns} (hl : ∀ x ∈ l, 0 ≤ x.1 ∧ x.1 ≤ 1000) {hi : Int} : ∀ (n : Nat) (a : Int) (acc L : List FrV), wkGo xs l hi n a acc = some L → a ≤ hi → Con l acc →
    (∀ y, acc.head? = some y → wkEnd l y = a ∧ y.link = if a = hi then -1 else a) →
    Con l L ∧ (∀ y, L.head? = some y → wkEnd l y = hi ∧ y.link = -1) ∧ (acc ≠ [] → L.getLast? = acc.getLast?) ∧ (acc = [] → ∀ y, L.getLast? = some y → y.at_ = a) ∧ (∀ y ∈ L, y ∈ acc ∨ ((frRead xs l y.at_) = (y, 0) ∧ a ≤ y.at_))
  | 0, a, acc, L, h, ha, hc, hh => by
    unfold wkGo at h
    split at h
    · cases h
    · rename_i hn
      obtain rfl : acc = L := by injection h
      have e : a = hi := by omega
      refine ⟨hc, fun y hy => ?_, fun _ => rfl, fun h0 y hy => ?_, fun y hy => Or.inl hy⟩
      · have := hh y hy; rw [if_pos e] at this; rw [← e]; exact this
      · rw [h0] at hy; cases hy
  | n + 1, a, acc, L, h, ha, hc, hh => by
    unfold wkGo at h
    by_cases hlt : a < hi
    · rw [if_pos hlt] at h
      cases hw : wkOne xs l hi a with
      | none => rw [hw] at h; cases h
      | some xe =>
        obtain ⟨x, e⟩ := xe
        rw [hw] at h
        have hg := wkOne_good hl hw
        obtain ⟨g1, g2, g3, g4, g5, g6, g7, g8, g9, g10⟩ := hg
        have hc2 : Con l (x :: acc) := by
          cases acc with
          | nil => exact True.intro
          | cons y r =>
            have := hh y rfl
            rw [if_neg (by omega)] at this
            exact ⟨by rw [this.2, g9], by rw [this.1, g9], hc⟩
        have hr := wkGo_top hl n e (x :: acc) L h g5 hc2 (fun y hy => by
          obtain rfl : x = y := by simpa using hy
          refine ⟨by unfold wkEnd; rw [g9, ← g3], ?_⟩
          by_cases he : e = hi
          · rw [if_pos he]; exact g7 he
          · rw [if_neg he]; exact g6 (by omega))
        refine ⟨hr.1, hr.2.1, fun h0 => ?_, fun h0 y hy => ?_, fun y hy => ?_⟩
        · rw [hr.2.2.1 (by simp)]
          cases acc with
          | nil => exact absurd rfl h0
          | cons y r => simp
        · rw [hr.2.2.1 (by simp), h0] at hy
          obtain rfl : x = y := by simpa using hy
          exact g9
        · rcases hr.2.2.2.2 y hy with h1 | h1
          · rcases List.mem_cons.1 h1 with rfl | h1
            · exact Or.inr ⟨by rw [g9]; exact Prod.ext g2.symm g1, by omega⟩
            · exact Or.inl h1
          · exact Or.inr ⟨h1.1, by omega⟩
    · rw [if_neg hlt] at h
      obtain rfl : acc = L := by injection h
      have e : a = hi := by omega
      refine ⟨hc, fun y hy => ?_, fun _ => rfl, fun h0 y hy => ?_, fun y hy => Or.inl hy⟩
      · have := hh y hy; rw [if_pos e] at this; rw [← e]; exact this
      · rw [h0] at hy; cases hy

/-- What stands ahead plays no part. -/
theorem wkGo_acc {xs : List Nat} {l : Fns} {hi : Int} : ∀ (n : Nat) (a : Int) (acc : List FrV), wkGo xs l hi n a acc = (wkGo xs l hi n a []).map (· ++ acc)
  | 0, a, acc => by unfold wkGo; split <;> rfl
  | n + 1, a, acc => by
    unfold wkGo
    by_cases ha : a < hi
    · rw [if_pos ha, if_pos ha]
      cases hw : wkOne xs l hi a with
      | none => rfl
      | some xe =>
        simp only
        rw [wkGo_acc n xe.2 (xe.1 :: acc), wkGo_acc n xe.2 [xe.1], Option.map_map]
        congr 1
        funext z
        simp
    · rw [if_neg ha, if_neg ha]; rfl
theorem frRead_same {xs ys : List Nat} {l : Fns} {a : Int} (hn : xs.length = ys.length) (h0 : xs.getD a.toNat 0 = ys.getD a.toNat 0) (h1 : xs.getD (a.toNat + 1) 0 = ys.getD (a.toNat + 1) 0) : frRead xs l a = frRead ys l a := by
  unfold frRead frOk; rw [hn, h0, h1]
theorem wkOne_same {xs ys : List Nat} {l : Fns} (hl : ∀ x ∈ l, 0 ≤ x.1 ∧ x.1 ≤ 1000) {hi a : Int} (hn : xs.length = ys.length) (ha : 0 ≤ a) (h : ∀ i : Nat, a ≤ (i : Int) → (i : Int) < hi → xs.getD i 0 = ys.getD i 0) : wkOne xs l hi a = wkOne ys l hi a := by
  by_cases h2 : a + 2 ≤ hi
  · have e := frRead_same (l := l) hn (h a.toNat (by omega) (by omega)) (h (a.toNat + 1) (by omega) (by omega))
    unfold wkOne; rw [e]
  · have no : ∀ zs : List Nat, wkOne zs l hi a = none := fun zs => by
      cases hw : wkOne zs l hi a with
      | none => rfl
      | some xe =>
        have hg := wkOne_good hl (x := xe.1) (e := xe.2) hw
        omega
    rw [no, no]
theorem wkGo_same {xs ys : List Nat} {l : Fns} (hl : ∀ x ∈ l, 0 ≤ x.1 ∧ x.1 ≤ 1000) {hi : Int} (hn : xs.length = ys.length) : ∀ (n : Nat) (a : Int) (acc : List FrV), 0 ≤ a → (∀ i : Nat, a ≤ (i : Int) → (i : Int) < hi → xs.getD i 0 = ys.getD i 0) → wkGo xs l hi n a acc = wkGo ys l hi n a acc
  | 0, a, acc, _, _ => rfl
  | n + 1, a, acc, ha, h => by
    unfold wkGo
    rw [wkOne_same hl hn ha h]
    by_cases hlt : a < hi
    · rw [if_pos hlt, if_pos hlt]
      cases hw : wkOne ys l hi a with
      | none => rfl
      | some xe =>
        have hg := wkOne_good hl (x := xe.1) (e := xe.2) hw
        exact wkGo_same hl hn n xe.2 (xe.1 :: acc) (by omega) (fun i h1 h2 => h i (by omega) h2)
    · rw [if_neg hlt, if_neg hlt]
/-- A frame that is pushed in front of frames is met, and they are. -/
theorem wkGo_push {xs ys : List Nat} {l : Fns} (hl : ∀ x ∈ l, 0 ≤ x.1 ∧ x.1 ≤ 1000) {hi lo sp f link at' : Int} {L : List FrV} (hp : frPush xs l lo sp f link = (ys, at', 0)) (hhi : hi ≤ xs.length) (hsp : sp ≤ hi)
    (hlink : link = if sp = hi then -1 else sp) (hL : wkGo xs l hi (hi - sp).toNat sp [] = some L) :
    wkGo ys l hi (hi - at').toNat at' [] = some (L ++ [⟨at', f, link⟩]) ∧ lo ≤ at' ∧ at' < sp ∧ ys.length = xs.length := by
  unfold frPush at hp
  have hr := fWords_cases l hl f
  by_cases c1 : fWords l f < 0 ∨ link < -1 ∨ (xs.length : Int) ≤ link
  · rw [if_pos c1] at hp; injection hp with _ h; injection h with _ h; omega
  · rw [if_neg c1] at hp
    by_cases c2 : lo < 0 ∨ (xs.length : Int) < sp ∨ sp < lo ∨ sp - lo < fWords l f
    · rw [if_pos c2] at hp; injection hp with _ h; injection h with _ h; omega
    · rw [if_neg c2] at hp
      injection hp with h1 h
      injection h with h2 _
      generalize hm : fWords l f = m at *
      obtain ⟨k, rfl⟩ : ∃ k : Nat, m = (k : Int) + 2 := ⟨(m - 2).toNat, by omega⟩
      obtain ⟨s, rfl⟩ : ∃ s : Nat, sp = (s : Int) + ((k : Int) + 2) := ⟨(sp - (k + 2)).toNat, by omega⟩
      have e1 : ((s : Int) + ((k : Int) + 2) - ((k : Int) + 2)) = (s : Int) := by omega
      rw [e1] at h1 h2
      rw [show ((s : Int)).toNat = s from rfl, show ((k : Int) + 2).toNat = k + 2 from rfl] at h1
      subst h2
      have hrl : (frRow (k + 2) f link).length = k + 2 := frRow_length _ (by omega) _ _
      have hlen : ys.length = xs.length := by rw [← h1, aStore_length _ _ _ (by rw [hrl]; omega)]
      have hget : ∀ i, ys.getD i 0 = if i < s then xs.getD i 0 else if i < s + (k + 2) then (frRow (k + 2) f link).getD (i - s) 0 else xs.getD i 0 := fun i => by
        rw [← h1, List.getD_eq_getElem?_getD, aStore_get _ _ _ (by rw [hrl]; omega), hrl]
        split
        · rw [List.getD_eq_getElem?_getD]
        · split <;> rw [List.getD_eq_getElem?_getD]
      have y0 : ys.getD s 0 = (link + 1).toNat := by rw [hget, if_neg (by omega), if_pos (by omega), Nat.sub_self]; rfl
      have y1 : ys.getD (s + 1) 0 = (f + 1).toNat := by rw [hget, if_neg (by omega), if_pos (by omega), show s + 1 - s = 1 by omega]; rfl
      have hf : 0 ≤ f ∧ f < l.length := by omega
      have hin : aIn ys.length (s : Int) 2 = true := by unfold aIn; exact decide_eq_true (by omega)
      have ef : (((f + 1).toNat : Nat) : Int) - 1 = f := by omega
      have el : (((link + 1).toNat : Nat) : Int) - 1 = link := by omega
      have hok : frOk ys l s = true := by
        unfold frOk; rw [y0, y1, ef, hm]; exact decide_eq_true (by omega)
      have hread := frRead_yes hin hok
      rw [y0, y1, ef, el] at hread
      have hone : wkOne ys l hi (s : Int) = some (⟨s, f, link⟩, (s : Int) + ((k : Int) + 2)) := by
        unfold wkOne
        rw [hread]
        simp only
        rw [if_neg (by simp), hm, if_neg]
        rintro (h | ⟨h, h3⟩ | ⟨h, h3⟩)
        · omega
        · exact h3 (by rw [hlink, if_neg (by omega)])
        · exact h3 (by rw [hlink, if_pos h])
      refine ⟨?_, by omega, by omega, hlen⟩
      rw [wkGo_step hl (by omega) hone, wkGo_acc, wkGo_same hl hlen _ _ _ (by omega) (fun i h1 h2 => by rw [hget, if_neg (by omega), if_neg (by omega)]), hL]
      rfl
end Go.Proofs.YtdcnpaodcjfdbaaGreatDoor

/- Regions that draw their order: whose first operations come up one by one, and whose others only read and call. No program is named here. -/
namespace Go.Proofs.YtdcnpaodcjfdbaaGreatDoor
open Go.RowKit
set_option linter.unusedVariables false

section
variable {P : Program} {ops : Array Oper} {md : Region.Mode} {Q : Exit → Act → World → Prop}
theorem wp_begin {id : Nat} {a : Act} {w : World} (hm : P.follows .mixedOrders = true) (n : Nat) (hn : ops.size = n) (h : wpAny P .any ops Q n (Array.replicate n false) a w.drew) : (Code.region id ops true).wp P Q a w := by
  subst hn; exact wp_region_any hm h
/-- One operation alone may come up. -/
theorem wp_one {fuel i : Nat} {o : Oper} {listed : Array Bool} {a : Act} {w : World} (ho : ops[i]? = some o) (hr : Region.ready md ops listed = [i]) (hw : Region.wanted o (yielded ops a.tmps) = true)
    (h : ∀ K : Act → World → Prop, (∀ a w, wpAny P md ops Q fuel (listed.setIfInBounds i true) a w → K a w) → Oper.wp P o a w K Q) : wpAny P md ops Q (fuel + 1) listed a w :=
  wpAny_ready hr (by simp) (AllReady.cons ho (fun K hK => by rw [if_pos hw]; exact h K hK) AllReady.nil)
/-- From here on one walk in the text's order serves: in each world of a class. -/
theorem wp_tail {C : World → Prop} (k n : Nat) (l : List Oper) {listed : Array Bool} {a : Act} {w : World} (hs : Region.noSelect ops = true) (hl : ops.toList.drop k = l) (hn : l.length = n) (hB : Region.lexFrom md ops n k listed = true) (hC : C w)
    (h : wpQuiet P ops C (fun a' => ∀ w', C w' → Q .normal a' w') l a) : wpAny P md ops Q n listed a w := by
  subst hn
  refine wpAny_of_quiet (C := C) (Q := fun a' => ∀ w', C w' → Q .normal a' w') (fun _ w' hw' h => h w' hw') _ _ _ _ hC ?_
  exact wpAnyQ_lex hs l k listed a (fun j => by rw [← hl, List.getElem?_drop, Array.getElem?_toList]) hB h
theorem if_skip {b : Bool} {p q : Prop} (h : b = false) : (if b = true then p else q) = q := by rw [h]; simp
end
end Go.Proofs.YtdcnpaodcjfdbaaGreatDoor

/- Whether there is a stack of so many words, as layer 15 (walk) asks layer 12 (stacks). -/
namespace Go.Proofs.YtdcnpaodcjfdbaaGreatDoor
open Go.RowKit
set_option linter.unusedVariables false

end Go.Proofs.YtdcnpaodcjfdbaaGreatDoor

/- Layer 15 (walk): whether there are stacks. -/
namespace Go.Proofs.YtdcnpaodcjfdbaaGreatDoor
open Go.RowKit
set_option linter.unusedVariables false

/-- A walker: a stack, an arena, a table. -/
def wkC (s : StV) (ap tp : Option Addr) : Value := .agg #[.int .i64 s.lo, .int .i64 s.size, .int .i64 s.sp, .pointer ap, .pointer tp]
/-- A walker in a block. -/
def WkAt (b : Nat) (lo size sp : Int) (ap tp : Option Addr) (W : World) : Prop := (W.cell? ⟨b, 0, none⟩ = some (.int .i64 lo) ∧ W.cell? ⟨b, 1, none⟩ = some (.int .i64 size)) ∧ (W.cell? ⟨b, 2, none⟩ = some (.int .i64 sp) ∧ W.cell? ⟨b, 3, none⟩ = some (.pointer ap)) ∧ W.cell? ⟨b, 4, none⟩ = some (.pointer tp)
end Go.Proofs.YtdcnpaodcjfdbaaGreatDoor

/- Layer 15 (walk): whether a stack is there, as it is asked at the face. -/
namespace Go.Proofs.YtdcnpaodcjfdbaaGreatDoor
open Go.RowKit
set_option linter.unusedVariables false

section
variable {w : World} {B p g len : Nat} {xs : List Nat}
end
end Go.Proofs.YtdcnpaodcjfdbaaGreatDoor

/- Layer 15 (walk): one frame of a stack, or what is thrown. -/
namespace Go.Proofs.YtdcnpaodcjfdbaaGreatDoor
open Go.RowKit
set_option linter.unusedVariables false

theorem wnil_no (W : World) (T : TypeId) (v : Value) : (binOp .eql 20 (.iface T v) .nilIface).run Tryz.prog W = .ok (.bool false) W := by kernel_rfl
theorem wnil_yes (W : World) : (binOp .eql 20 .nilIface .nilIface).run Tryz.prog W = .ok (.bool true) W := by kernel_rfl
/-- What is asked of a frame's link. -/
def wkLk (e hi : Int) : Int := if e = hi then -1 else e
theorem wkOne_bad {xs : List Nat} {l : Fns} {hi a : Int} (h : wkOne xs l hi a = none) : (frRead xs l a).2 ≠ 0 ∨ ((frRead xs l a).2 = 0 ∧ hi < a + fWords l (frRead xs l a).1.fn) ∨ ((frRead xs l a).2 = 0 ∧ a + fWords l (frRead xs l a).1.fn ≤ hi ∧ (frRead xs l a).1.link ≠ wkLk (a + fWords l (frRead xs l a).1.fn) hi) := by
  unfold wkOne at h
  by_cases h0 : (frRead xs l a).2 = 0
  · rw [if_neg (by simpa using h0)] at h
    simp only at h
    split at h
    · rename_i hb
      by_cases h1 : hi < a + fWords l (frRead xs l a).1.fn
      · exact Or.inr (Or.inl ⟨h0, h1⟩)
      · refine Or.inr (Or.inr ⟨h0, by omega, ?_⟩)
        unfold wkLk
        rcases hb with hb | hb | hb
        · exact absurd hb h1
        · rw [if_neg (by omega)]; exact hb.2
        · rw [if_pos hb.1]; exact hb.2
    · cases h
  · exact Or.inl h0
theorem wkOne_okLk {xs : List Nat} {l : Fns} {hi a e : Int} {x : FrV} (hl : ∀ x ∈ l, 0 ≤ x.1 ∧ x.1 ≤ 1000) (h : wkOne xs l hi a = some (x, e)) : x.link = wkLk e hi := by
  have hg := wkOne_good hl h
  unfold wkLk
  by_cases h1 : e = hi
  · rw [if_pos h1]; exact hg.2.2.2.2.2.2.1 h1
  · rw [if_neg h1]; exact hg.2.2.2.2.2.1 (by omega)

section
variable {w : World} {B p g len : Nat} {xs : List Nat} {lo' hi' : Nat} {tp : Option Addr} {l : Fns}
end
end Go.Proofs.YtdcnpaodcjfdbaaGreatDoor

/- What the document's own functions of layer 15 (walk) return. -/
namespace Go.Proofs.YtdcnpaodcjfdbaaGreatDoor
open Go.RowKit
set_option linter.unusedVariables false

/-- Rows of frames. -/
def frcells (x : FrV) : List Value := [.int .i64 x.at_, .int .i64 x.fn, .int .i64 x.link]
theorem frcells_len (x : FrV) : (frcells x).length = 3 := rfl
theorem frcells_one (l : List FrV) : ∀ u ∈ cellsAll frcells l, u.oneCell' = true := fun u hu => by
  obtain ⟨y, _, h⟩ := List.mem_flatMap.1 hu
  unfold frcells at h
  rcases List.mem_cons.1 h with rfl | h
  · rfl
  · rcases List.mem_cons.1 h with rfl | h
    · rfl
    · obtain rfl := List.mem_singleton.1 h; rfl
def FrRow (w : World) (B : Nat) (A : Option Addr) (n : Nat) (L : List FrV) : Prop := RowOf (fun cs x => cs = frcells x) 3 w B A n L
section
variable {w w' : World} {B B' n : Nat} {A : Option Addr} {L : List FrV}
theorem FrRow.at_ (h : FrRow w B A n L) {j : Nat} (hj : j < n) : ∃ b off x, A = some ⟨b, off, none⟩ ∧ b < B ∧ L[j]? = some x ∧ w.cell? ⟨b, off + j * 3, none⟩ = some (.int .i64 x.at_) ∧ w.cell? ⟨b, off + j * 3 + 1, none⟩ = some (.int .i64 x.fn) ∧ w.cell? ⟨b, off + j * 3 + 2, none⟩ = some (.int .i64 x.link) := by
  obtain ⟨b, off, x, cs, e, hb, hx, _, hc, rfl⟩ := RowOf.at_ h hj
  exact ⟨b, off, x, e, hb, hx, hc 0 (by omega), hc 1 (by omega), hc 2 (by omega)⟩
theorem FrRow.len (h : FrRow w B A n L) : L.length = n := h.1
theorem FrRow.below (h : FrRow w B A n L) (hb : Below B w w') : FrRow w' B A n L := RowOf.below h hb
theorem FrRow.more (h : FrRow w B A n L) (hB : B ≤ B') : FrRow w B' A n L := RowOf.more h hB
theorem FrRow.drewN (h : FrRow w B A n L) (q : Nat) : FrRow (w.drewN q) B A n L := RowOf.drewN h q
theorem FrRow.step (h : FrRow w w.heap.size A n L) (hb : Below w.heap.size w w') : FrRow w' w'.heap.size A n L := (h.below hb).more hb.size
theorem FrRow.of_own {base : Nat} {e : TypeId} {c : Nat} (h : w.ownsRow base e 3 (.slice A n c) n (cellsAll frcells L)) (hl : L.length = n) : FrRow w w.heap.size A n L := RowOf.of_own frcells_len h hl
end
end Go.Proofs.YtdcnpaodcjfdbaaGreatDoor

/- What the document's own Frames of layer 15 (walk) returns. -/
namespace Go.Proofs.YtdcnpaodcjfdbaaGreatDoor
open Go.RowKit
set_option linter.unusedVariables false

/-- The cells of a row of the call's own. -/
theorem own_cellsAt {w : World} {base size n c : Nat} {e : TypeId} {A : Option Addr} {xs : List Value} (h : w.ownsRow base e size (.slice A n c) n xs) : CellsAt w A xs := fun ad ha j u hj => by
  subst ha
  rcases h.2 with ⟨h1, _⟩ | ⟨g, cap, cur, h1, _⟩
  · cases h1
  · injection h1 with h1 h2 h3
    injection h1 with h1
    subst h1 h3
    have hl : xs.length = n * size := h.1
    rw [Go.WideShapes.add_plain, Nat.zero_add, h.cellAt j (by rw [← hl]; exact (List.getElem?_eq_some_iff.1 hj).1), hj]
theorem own_none {w : World} {base size n c : Nat} {e : TypeId} {A : Option Addr} {xs : List Value} (h : w.ownsRow base e size (.slice A n c) n xs) : A = none → n = 0 := fun ha => by
  subst ha
  rcases h.2 with ⟨_, h1⟩ | ⟨g, cap, cur, h1, _⟩
  · exact h1
  · cases h1
theorem alloc_oldW {w : World} {a : Addr} {v : Value} (o : Obj) (h : w.cell? a = some v) : (w.alloc o).cell? a = some v := (World.cell?_alloc_lt w o a (lt_of_cell' h)).trans h
/-- A row of frames that a call answers, and an error's number. -/
def ResFr (w : World) (r : List FrV × Int) (e : Ending) (w' : World) : Prop := ∃ A c, e = .returned (.tuple #[.slice A r.1.length c, .int .i64 r.2]) ∧ FrRow w' w'.heap.size A r.1.length r.1 ∧ Below w.heap.size w w'
theorem wkGo_few {xs : List Nat} {l : Fns} {s : StV} (hm : stMay s xs.length = true) : 16 ≤ s.size ∧ 0 ≤ s.lo ∧ s.lo ≤ s.sp ∧ s.sp ≤ s.lo + s.size ∧ s.lo + s.size ≤ xs.length := by
  unfold stMay stkSz at hm
  simp at hm
  omega

end Go.Proofs.YtdcnpaodcjfdbaaGreatDoor

/- Rows of structs of any size, as the library's sort and Reverse have them. -/
namespace Go.Proofs.YtdcnpaodcjfdbaaGreatDoor
open Go.RowKit Go.Shelf Go.Lib Go.Sort
set_option linter.unusedVariables false

/-- Cells of structs of any size, as the sort has them. -/
theorem flat_cellsK {E : Type} [Inhabited E] (f : E → List Value) (s : Nat) (hs : 0 < s) (hf : ∀ y, (f y).length = s) (d : Array E) : flatK f s d = (cellsAll f d.toList).toArray := by
  apply Array.ext_getElem?
  intro t
  have hlen := cellsAll_length hf d.toList
  simp only [Array.length_toList] at hlen
  by_cases ht : t < d.size * s
  · have hj : t / s < d.size := Nat.div_lt_of_lt_mul (by rw [Nat.mul_comm]; exact ht)
    have hm : t % s < s := Nat.mod_lt _ hs
    have h := cellsAll_at hf d.toList (t / s) d[t / s]! (by rw [getElem!_pos d _ hj]; simp [hj]) (t % s) hm
    have e0 : t / s * s + t % s = t := by rw [Nat.mul_comm]; exact Nat.div_add_mod t s
    rw [e0] at h
    have e1 : (flatK f s d)[t]? = some ((f d[t / s]!)[t % s]!) := by
      rw [Array.getElem?_eq_getElem (by simp; omega)]
      simp [flatK]
    rw [e1, List.getElem?_toArray, h, List.getElem?_eq_getElem (by rw [hf]; exact hm), getElem!_pos _ _ (by rw [hf]; exact hm)]
  · rw [Array.getElem?_eq_none (by simp; omega), Array.getElem?_eq_none (by rw [List.size_toArray]; omega)]
section
variable {E : Type} [Inhabited E] (f : E → List Value) (s : Nat) (hs : 0 < s) (hf : ∀ y, (f y).length = s)
include hs hf
theorem holds_rwK {w : World} {g : Nat} {e : TypeId} {L : List Value} (h : Rw w g e L) (d : Array E) (hd : L.take (d.size * s) = cellsAll f d.toList) : HoldsK f s w g 0 d := by
  unfold HoldsK Holds
  rw [flat_cellsK f s hs hf]
  have hlen := cellsAll_length hf d.toList
  simp only [Array.length_toList] at hlen
  intro j hj
  have hj' : j < (cellsAll f d.toList).length := by simpa using hj
  have hl : j < d.size * s := by omega
  refine ⟨?_, h.free _⟩
  rw [Nat.zero_add, h.cell, getElem!_pos _ _ (by simpa using hj'), List.getElem_toArray]
  have h2 : (L.take (d.size * s))[j]? = L[j]? := by rw [List.getElem?_take, if_pos hl]
  rw [← h2, hd, List.getElem?_eq_getElem hj']; rfl
theorem put_rwK {w : World} {g : Nat} {e : TypeId} {L : List Value} (h : Rw w g e L) (m : Nat) (d : Array E) (hd : d.size * s ≤ L.length) :
    Rw (putRowK f s (Sort.ahead w m) g 0 d) g e (cellsAll f d.toList ++ L.drop (d.size * s)) ∧ w.grownBy (putRowK f s (Sort.ahead w m) g 0 d) (some g) := by
  have hlt := h.lt
  have hrl := cellsAll_length hf d.toList
  simp only [Array.length_toList] at hrl
  unfold Rw at h
  unfold putRowK putRow
  rw [flat_cellsK f s hs hf]
  obtain ⟨C, hC⟩ : ∃ C, cellsAll f d.toList = C := ⟨_, rfl⟩
  rw [hC] at hrl ⊢
  constructor
  · unfold Rw
    show ((w.heap.modify g (onCells (putCells id 0 C.toArray))))[g]? = _
    rw [Array.getElem?_modify, if_pos rfl, h]
    show some (Obj.cells _ e (0, 0)) = _
    congr 2
    unfold putCells
    apply Array.ext_getElem?
    intro k
    rw [Array.getElem?_mapIdx]
    by_cases hk : k < d.size * s
    · rw [List.getElem?_toArray, List.getElem?_toArray, List.getElem?_append_left (by omega), List.getElem?_eq_getElem (by omega), List.getElem?_eq_getElem (by omega)]
      simp only [Option.map_some, Nat.sub_zero]
      rw [if_pos (by simp; omega), getElem!_pos _ _ (by simp; omega), List.getElem_toArray]; rfl
    · rw [List.getElem?_toArray, List.getElem?_toArray, List.getElem?_append_right (by omega), List.getElem?_drop, hrl, show d.size * s + (k - d.size * s) = k by omega]
      cases L[k]? with
      | none => rfl
      | some u =>
        simp only [Option.map_some]
        rw [if_neg (by simp; omega)]
  · refine ⟨rfl, rfl, rfl, ?_, fun k hk hr => ?_⟩
    · show _ ≤ (w.heap.modify g _).size
      simp
    · show (w.heap.modify g _)[k]? = _
      rw [Array.getElem?_modify, if_neg (fun e => hr (by rw [e]))]
end
end Go.Proofs.YtdcnpaodcjfdbaaGreatDoor

/- What slices.Reverse does to a row of frames of the call's own. -/
namespace Go.Proofs.YtdcnpaodcjfdbaaGreatDoor
open Go.RowKit Go.Shelf Go.Lib Go.Sort
set_option linter.unusedVariables false

instance : Inhabited FrV := ⟨fr0⟩
end Go.Proofs.YtdcnpaodcjfdbaaGreatDoor

/- Layer 15 (walk): all frames of a stack, or what is thrown. -/
namespace Go.Proofs.YtdcnpaodcjfdbaaGreatDoor
open Go.RowKit
set_option linter.unusedVariables false

end Go.Proofs.YtdcnpaodcjfdbaaGreatDoor

/- Layer 15 (walk): what Frames, Used and Room return. -/
namespace Go.Proofs.YtdcnpaodcjfdbaaGreatDoor
open Go.RowKit
set_option linter.unusedVariables false

/-- As ResFr, with the room that the row has. -/
def ResFrC (w : World) (r : List FrV × Int) (e : Ending) (w' : World) : Prop := ∃ A c, e = .returned (.tuple #[.slice A r.1.length c, .int .i64 r.2]) ∧ FrRow w' w'.heap.size A r.1.length r.1 ∧ r.1.length ≤ c ∧ Below w.heap.size w w'
end Go.Proofs.YtdcnpaodcjfdbaaGreatDoor

/- Layer 15 (walk): what Used and Room return. -/
namespace Go.Proofs.YtdcnpaodcjfdbaaGreatDoor
open Go.RowKit
set_option linter.unusedVariables false

def StNear (s : StV) : Prop := (0 ≤ s.lo ∧ s.lo ≤ 1099511627776) ∧ (0 ≤ s.size ∧ s.size ≤ 1099511627776) ∧ 0 ≤ s.sp ∧ s.sp ≤ 1099511627776
end Go.Proofs.YtdcnpaodcjfdbaaGreatDoor
