/- Plain facts on powers of two, logarithms and rounded division, as the document's layer 1 tells them. No condition; no program is named here. -/
import Derived.Lib.BitFns
import Derived.Test.YtlcdgmjinhbncaaGreatPPlain7
import Derived.Laws.Entries
import Derived.IntWalk
import Derived.Test.YtlcdgmjinhbncaaGreatProg
import Derived.WalkKit
import Derived.ProofKit
import Derived.Lib.Strings
import Derived.Lib.Slices
import Derived.Lib.Small
import Derived.Lib.Walk
import Derived.Test.YtlcdgmjinhbncaaGreatPShelf
import Derived.Test.YtlcdgmjinhbncaaGreatPHeapRefB
import Derived.Test.YtlcdgmjinhbncaaGreatPRowWords
import Derived.Test.YtlcdgmjinhbncaaGreatPChainAll
import Derived.RangeFuncBox
import Derived.Maps.AppendAt
import Derived.Test.YtlcdgmjinhbncaaGreatPNamedMap
import Derived.Deep.MidRow
import Derived.Lib.SlMapFilter
namespace Go.Proofs.YtlcdgmjinhbncaaGreat
open Go.Lib

/-- Is it a power of two? -/
def isB (n : Int) : Bool := decide (1 ≤ n ∧ n.toNat = 2 ^ Nat.log2 n.toNat)
/-- Which small size; -1. -/
def ordI (n : Int) : Int := if n = 16 then 0 else if n = 32 then 1 else if n = 64 then 2 else if n = 128 then 3 else -1

theorem log2_two (n : Nat) (h : 2 ≤ n) : Nat.log2 n = Nat.log2 (n / 2) + 1 := by
  rw [Nat.log2_def, if_pos h]
theorem and_pred_even (m : Nat) (h : 1 ≤ m) : (2 * m) &&& (2 * m - 1) = 2 * (m &&& (m - 1)) := by
  apply Nat.eq_of_testBit_eq
  intro i
  cases i with
  | zero => simp [Nat.testBit_zero]
  | succ i =>
    rw [Nat.testBit_and]
    simp only [Nat.testBit_succ]
    rw [show 2 * m / 2 = m by omega, show (2 * m - 1) / 2 = m - 1 by omega, show 2 * (m &&& (m - 1)) / 2 = (m &&& (m - 1)) by omega, Nat.testBit_and]

theorem and_pred_odd (m : Nat) : (2 * m + 1) &&& (2 * m) = 2 * m := by
  apply Nat.eq_of_testBit_eq
  intro i
  cases i with
  | zero => simp [Nat.testBit_zero]
  | succ i =>
    rw [Nat.testBit_and]
    simp only [Nat.testBit_succ]
    rw [show (2 * m + 1) / 2 = m by omega, show 2 * m / 2 = m by omega]
    simp

theorem and_pred_zero : ∀ (f n : Nat), n ≤ f → 1 ≤ n → (n &&& (n - 1) = 0 ↔ n = 2 ^ Nat.log2 n)
  | 0, n, h, h1 => by omega
  | f + 1, n, h, h1 => by
    by_cases he : n % 2 = 0
    · obtain ⟨m, rfl⟩ : ∃ m, n = 2 * m := ⟨n / 2, by omega⟩
      have ih := and_pred_zero f m (by omega) (by omega)
      rw [and_pred_even m (by omega), log2_two (2 * m) (by omega), show 2 * m / 2 = m by omega, Nat.pow_succ]
      constructor
      · intro h2; have := ih.1 (by omega); omega
      · intro h2; have := ih.2 (by omega); omega
    · obtain ⟨m, rfl⟩ : ∃ m, n = 2 * m + 1 := ⟨n / 2, by omega⟩
      rw [show 2 * m + 1 - 1 = 2 * m by omega, and_pred_odd]
      by_cases h0 : m = 0
      · subst h0; decide
      · rw [log2_two (2 * m + 1) (by omega), Nat.pow_succ]
        constructor
        · intro h2; omega
        · intro h2; omega

theorem isB_and (n : Nat) (h : 1 ≤ n) : isB (n : Int) = decide (n &&& (n - 1) = 0) := by
  unfold isB
  rw [Bool.eq_iff_iff, decide_eq_true_iff, decide_eq_true_iff, and_pred_zero n n (Nat.le_refl _) h]
  simp; omega

theorem isB_half (n : Int) (h : 1 < n) (h2 : n % 2 = 0) : isB (n / 2) = isB n := by
  unfold isB
  have e : (n / 2).toNat = n.toNat / 2 := by omega
  rw [Bool.eq_iff_iff, decide_eq_true_iff, decide_eq_true_iff, e, log2_two n.toNat (by omega), Nat.pow_succ]
  constructor
  · rintro ⟨a, b⟩; exact ⟨by omega, by omega⟩
  · rintro ⟨a, b⟩; exact ⟨by omega, by omega⟩

theorem isB_end (n : Int) (h : ¬ (1 < n ∧ n % 2 = 0)) : isB n = decide (n = 1) := by
  unfold isB
  rw [Bool.eq_iff_iff, decide_eq_true_iff, decide_eq_true_iff]
  by_cases h1 : n = 1
  · subst h1; decide
  · constructor
    · rintro ⟨a, b⟩
      exfalso
      rw [log2_two n.toNat (by omega), Nat.pow_succ] at b
      omega
    · intro h2; exact absurd h2 h1

end Go.Proofs.YtlcdgmjinhbncaaGreat
/- Plain facts on a keeper of large stacks: spans that are kept, spans that wait. No program is named here. -/
namespace Go.Proofs.YtlcdgmjinhbncaaGreat
set_option linter.unusedVariables false

abbrev Spn := Int × Int × Int × Int
/-- Its heap, the spans that are kept, those that wait, whether it is held. -/
structure LargeV where
  h : HeapV
  kept : List Spn
  waits : List Spn
  held : Bool

/-- Are there large stacks of so many pages? -/
def lFits (n : Int) : Bool := decide (4 ≤ n) && isB n
/-- Those of so many pages. -/
def lOf (l : List Spn) (n : Int) : List Spn := l.filter fun s => s.2.2.1 == n
def lTake (v : LargeV) (n : Int) : LargeV × Spn × Int :=
  if lFits n = false then (v, spanNone, 1) else
  match (lOf v.kept n).getLast? with
  | some s => ({ v with kept := v.kept.filter fun x => !decide (x = s) }, s, 0)
  | none => ({ v with h := (hMake v.h n (-1)).1 }, (hMake v.h n (-1)).2.1, (hMake v.h n (-1)).2.2)
/-- Is a span a large stack? -/
def lBig (s : Spn) : Bool := decide (s.2.2.2 = -1) && lFits s.2.2.1
/-- The large stack of a number. -/
def lStack (h : HeapV) (id : Int) : Option Spn := (h.l.find? fun s => s.1 == id).filter lBig
def lPut (v : LargeV) (s : Spn) : LargeV :=
  if v.held then { v with waits := v.waits ++ [s] } else
  if (lOf v.kept s.2.2.1).length < 2 then { v with kept := v.kept ++ [s] } else
  { v with h := (hDrop v.h [s.1]).1 }
/-- The large stacks of numbers; none, if one isn't there, or is named twice. -/
def lAsk (h : HeapV) : List Int → List Spn → Option (List Spn)
  | [], l => some l
  | i :: ids, l => match lStack h i with
    | none => none
    | some s => if s ∈ l then none else lAsk h ids (l ++ [s])
def lGive (v : LargeV) (ids : List Int) : LargeV × Int :=
  match lAsk v.h ids [] with
  | none => (v, 6)
  | some l => if l.any (fun s => decide (s ∈ v.kept ++ v.waits)) then (v, 9) else (l.foldl lPut v, 0)
def lHold (v : LargeV) (on : Bool) : LargeV := if on then { v with held := true } else ⟨(hDrop v.h (v.waits.map (·.1))).1, v.kept, [], false⟩
def lFlush (v : LargeV) : LargeV := { v with h := (hDrop v.h (v.kept.map (·.1))).1, kept := [] }

/-- What is true of a keeper all the time. -/
structure LOk (v : LargeV) : Prop where
  hok : HOk v.h
  mem : ∀ s ∈ v.kept ++ v.waits, s ∈ v.h.l ∧ lBig s = true
  nd : (v.kept ++ v.waits).Nodup
  calm : v.held = false → v.waits = []

theorem HOk.inj {h : HeapV} (k : HOk h) {a b : Spn} (ha : a ∈ h.l) (hb : b ∈ h.l) (e : a.1 = b.1) : a = b := ids_inj k.ids ha hb e
theorem lStack_some {h : HeapV} (k : HOk h) {id : Int} {s : Spn} (e : lStack h id = some s) : s ∈ h.l ∧ s.1 = id ∧ lBig s = true := by
  unfold lStack at e
  rw [Option.filter_eq_some_iff] at e
  obtain ⟨e1, e2⟩ := e
  exact ⟨List.mem_of_find?_eq_some e1, by simpa using List.find?_some e1, e2⟩
theorem lStack_of {h : HeapV} (k : HOk h) {s : Spn} (hs : s ∈ h.l) (hb : lBig s = true) : lStack h s.1 = some s := by
  unfold lStack
  rw [Option.filter_eq_some_iff]
  refine ⟨?_, hb⟩
  cases e : h.l.find? (fun x => x.1 == s.1) with
  | none =>
    have := List.find?_eq_none.1 e s hs
    simp at this
  | some t => rw [k.inj (List.mem_of_find?_eq_some e) hs (by simpa using List.find?_some e)]
theorem ids_of {h : HeapV} (k : HOk h) {l : List Spn} (hm : ∀ s ∈ l, s ∈ h.l) (hd : l.Nodup) : (l.map (·.1)).Nodup := by
  rw [List.Nodup, List.pairwise_map]
  exact hd.imp_of_mem fun {a b} ha hb hne e => hne (k.inj (hm a ha) (hm b hb) e)
/-- A drop of spans that are there. -/
theorem hDrop_those {h : HeapV} (k : HOk h) {l : List Spn} (hm : ∀ s ∈ l, s ∈ h.l) (hd : l.Nodup) : ∃ g, hDrop h (l.map (·.1)) = (⟨h.pages, g, hLeft h.l (l.map (·.1)), h.last⟩, 0) ∧ HOk ⟨h.pages, g, hLeft h.l (l.map (·.1)), h.last⟩ :=
  hDrop_yes k ⟨ids_of k hm hd, fun i hi => by
    obtain ⟨s, hs, rfl⟩ := List.mem_map.1 hi
    exact ⟨s, hm s hs, rfl⟩⟩
theorem left_those {h : HeapV} (k : HOk h) {l : List Spn} (hm : ∀ s ∈ l, s ∈ h.l) (s : Spn) : s ∈ hLeft h.l (l.map (·.1)) ↔ s ∈ h.l ∧ s ∉ l := by
  rw [hLeft_mem]
  constructor
  · rintro ⟨h1, h2⟩
    exact ⟨h1, fun c => h2 (List.mem_map.2 ⟨s, c, rfl⟩)⟩
  · rintro ⟨h1, h2⟩
    refine ⟨h1, fun c => h2 ?_⟩
    obtain ⟨t, ht, e⟩ := List.mem_map.1 c
    rw [← k.inj (hm t ht) h1 e]; exact ht

section
variable {v : LargeV}
theorem LOk.keptm (o : LOk v) : ∀ s ∈ v.kept, s ∈ v.h.l ∧ lBig s = true := fun s hs => o.mem s (List.mem_append_left _ hs)
theorem LOk.waitsm (o : LOk v) : ∀ s ∈ v.waits, s ∈ v.h.l ∧ lBig s = true := fun s hs => o.mem s (List.mem_append_right _ hs)
theorem LOk.ndk (o : LOk v) : v.kept.Nodup := (List.nodup_append.1 o.nd).1
theorem LOk.ndw (o : LOk v) : v.waits.Nodup := (List.nodup_append.1 o.nd).2.1
theorem LOk.apart (o : LOk v) {s : Spn} (h : s ∈ v.kept) : s ∉ v.waits := fun c => (List.nodup_append.1 o.nd).2.2 s h s c rfl
/-- The heap makes a span. -/
theorem LOk.heap (o : LOk v) {h' : HeapV} (k : HOk h') (hm : ∀ s ∈ v.h.l, s ∈ h'.l) : LOk { v with h := h' } := ⟨k, fun s hs => ⟨hm s (o.mem s hs).1, (o.mem s hs).2⟩, o.nd, o.calm⟩
theorem hMake_more {h : HeapV} (n o : Int) : ∀ s ∈ h.l, s ∈ (hMake h n o).1.l := fun s hs => by
  unfold hMake
  split
  · exact hs
  · split
    · exact hs
    · exact List.mem_append_left _ hs
theorem LOk.make (o : LOk v) (n r : Int) : LOk { v with h := (hMake v.h n r).1 } := o.heap (hMake_ok o.hok n r).1 (hMake_more n r)
theorem LOk.take (o : LOk v) (n : Int) : LOk (lTake v n).1 := by
  unfold lTake
  split
  · exact o
  · split
    · refine ⟨o.hok, fun s hs => o.mem s ?_, ?_, o.calm⟩
      · rcases List.mem_append.1 hs with h | h
        · exact List.mem_append_left _ (List.mem_filter.1 h).1
        · exact List.mem_append_right _ h
      · exact o.nd.sublist (List.filter_sublist.append (List.Sublist.refl _))
    · exact o.make n (-1)
/-- A span that is there, a large stack, neither kept nor waiting. -/
def Out (v : LargeV) (s : Spn) : Prop := s ∈ v.h.l ∧ lBig s = true ∧ s ∉ v.kept ++ v.waits
theorem LOk.put (o : LOk v) {s : Spn} (h : Out v s) : LOk (lPut v s) ∧ (lPut v s).held = v.held ∧ (∀ t, t ≠ s → Out v t → Out (lPut v s) t) ∧ (∀ t ∈ (lPut v s).h.l, t ∈ v.h.l) ∧ (∀ t ∈ (lPut v s).h.l, t = s ∨ t ∈ v.kept ++ v.waits → t ∈ (lPut v s).kept ++ (lPut v s).waits) ∧
    ((lPut v s).h.pages = v.h.pages ∧ (lPut v s).h.last = v.h.last) := by
  obtain ⟨h1, h2, h3⟩ := h
  have h4 : s ∉ v.kept := fun c => h3 (List.mem_append_left _ c)
  have h5 : s ∉ v.waits := fun c => h3 (List.mem_append_right _ c)
  unfold lPut
  split
  · rename_i c
    have e : v.kept ++ (v.waits ++ [s]) = (v.kept ++ v.waits) ++ [s] := by rw [List.append_assoc]
    refine ⟨⟨o.hok, fun t ht => ?_, ?_, fun c2 => by rw [c] at c2; cases c2⟩, rfl, fun t hne ⟨a, b, d⟩ => ⟨a, b, fun q => ?_⟩, fun t ht => ht, fun t ht q => ?_, rfl, rfl⟩
    · rw [e] at ht
      rcases List.mem_append.1 ht with h | h
      · exact o.mem t h
      · obtain rfl := List.mem_singleton.1 h
        exact ⟨h1, h2⟩
    · show (v.kept ++ (v.waits ++ [s])).Nodup
      rw [e, List.nodup_append]
      exact ⟨o.nd, (by simp), fun a ha b hb e2 => h3 (by obtain rfl := List.mem_singleton.1 hb; subst e2; exact ha)⟩
    · have q2 : t ∈ v.kept ++ (v.waits ++ [s]) := q
      rw [e] at q2
      rcases List.mem_append.1 q2 with h | h
      · exact d h
      · exact hne (List.mem_singleton.1 h)
    · show t ∈ v.kept ++ (v.waits ++ [s])
      rw [e]
      rcases q with rfl | q
      · exact List.mem_append_right _ (List.mem_singleton.2 rfl)
      · exact List.mem_append_left _ q
  · rename_i c
    have hw : v.waits = [] := o.calm (by simpa using c)
    split
    · refine ⟨⟨o.hok, fun t ht => ?_, ?_, o.calm⟩, rfl, fun t hne ⟨a, b, d⟩ => ⟨a, b, fun q => ?_⟩, fun t ht => ht, fun t ht q => ?_, rfl, rfl⟩
      · have ht2 : t ∈ (v.kept ++ [s]) ++ v.waits := ht
        rw [hw, List.append_nil] at ht2
        rcases List.mem_append.1 ht2 with h | h
        · exact o.keptm t h
        · obtain rfl := List.mem_singleton.1 h
          exact ⟨h1, h2⟩
      · show ((v.kept ++ [s]) ++ v.waits).Nodup
        rw [hw, List.append_nil, List.nodup_append]
        exact ⟨o.ndk, (by simp), fun a ha b hb e => h4 (by obtain rfl := List.mem_singleton.1 hb; subst e; exact ha)⟩
      · have q2 : t ∈ (v.kept ++ [s]) ++ v.waits := q
        rw [hw, List.append_nil] at q2
        rcases List.mem_append.1 q2 with h | h
        · exact d (List.mem_append_left _ h)
        · exact hne (List.mem_singleton.1 h)
      · show t ∈ (v.kept ++ [s]) ++ v.waits
        rcases q with rfl | q
        · exact List.mem_append_left _ (List.mem_append_right _ (List.mem_singleton.2 rfl))
        · rcases List.mem_append.1 q with q | q
          · exact List.mem_append_left _ (List.mem_append_left _ q)
          · exact List.mem_append_right _ q
    · obtain ⟨g, e1, e2⟩ := hDrop_those o.hok (l := [s]) (fun t ht => by obtain rfl := List.mem_singleton.1 ht; exact h1) (by simp)
      have hl := left_those o.hok (l := [s]) (fun t ht => by obtain rfl := List.mem_singleton.1 ht; exact h1)
      have e1' : hDrop v.h [s.1] = (⟨v.h.pages, g, hLeft v.h.l [s.1], v.h.last⟩, 0) := e1
      rw [e1']
      have hl' : ∀ t, t ∈ hLeft v.h.l [s.1] ↔ t ∈ v.h.l ∧ t ∉ [s] := hl
      refine ⟨⟨e2, fun t ht => ⟨(hl' t).2 ⟨(o.mem t ht).1, fun q => ?_⟩, (o.mem t ht).2⟩, o.nd, o.calm⟩, rfl, fun t hne ⟨a, b, d⟩ => ⟨(hl' t).2 ⟨a, fun q => hne (List.mem_singleton.1 q)⟩, b, d⟩, fun t ht => ((hl' t).1 ht).1, fun t ht q => ?_, rfl, rfl⟩
      · exact h3 (List.mem_singleton.1 q ▸ ht)
      · rcases q with rfl | q
        · exact absurd (List.mem_singleton.2 rfl) ((hl' t).1 ht).2
        · exact q
theorem LOk.puts : ∀ {l : List Spn} {v : LargeV}, LOk v → l.Nodup → (∀ s ∈ l, Out v s) → LOk (l.foldl lPut v) ∧ (l.foldl lPut v).held = v.held ∧ (∀ t ∈ (l.foldl lPut v).h.l, t ∈ v.h.l) ∧ (∀ t ∈ (l.foldl lPut v).h.l, t ∈ l ∨ t ∈ v.kept ++ v.waits → t ∈ (l.foldl lPut v).kept ++ (l.foldl lPut v).waits) ∧ ((l.foldl lPut v).h.pages = v.h.pages ∧ (l.foldl lPut v).h.last = v.h.last)
  | [], v, o, _, _ => ⟨o, rfl, fun _ h => h, fun t _ h => h.elim (fun c => by cases c) id, rfl, rfl⟩
  | s :: l, v, o, hd, hm => by
    obtain ⟨p1, p2, p3, p4, p5, p6, p7⟩ := o.put (hm s (List.mem_cons_self ..))
    have hd2 := List.nodup_cons.1 hd
    obtain ⟨q1, q2, q3, q4, q5, q6⟩ := LOk.puts (l := l) p1 hd2.2 fun t ht => p3 t (fun e => hd2.1 (e ▸ ht)) (hm t (List.mem_cons_of_mem _ ht))
    refine ⟨q1, q2.trans p2, fun t ht => p4 t (q3 t ht), fun t ht h => q4 t ht ?_, q5.trans p6, q6.trans p7⟩
    rcases h with h | h
    · rcases List.mem_cons.1 h with rfl | h
      · exact Or.inr (p5 t (q3 t ht) (Or.inl rfl))
      · exact Or.inl h
    · exact Or.inr (p5 t (q3 t ht) (Or.inr h))
theorem lAsk_some {h : HeapV} (k : HOk h) : ∀ {ids : List Int} {l l' : List Spn}, lAsk h ids l = some l' → l.Nodup → (∀ s ∈ l, s ∈ h.l ∧ lBig s = true) → l'.Nodup ∧ (∀ s ∈ l', s ∈ h.l ∧ lBig s = true) ∧ l'.map (·.1) = l.map (·.1) ++ ids
  | [], l, l', e, hd, hm => by
    obtain rfl : l = l' := Option.some.inj e
    exact ⟨hd, hm, by simp⟩
  | i :: ids, l, l', e, hd, hm => by
    unfold lAsk at e
    cases c : lStack h i with
    | none => rw [c] at e; cases e
    | some s =>
      rw [c] at e
      simp only at e
      obtain ⟨h1, h2, h3⟩ := lStack_some k c
      by_cases d : s ∈ l
      · rw [if_pos d] at e; cases e
      · rw [if_neg d] at e
        obtain ⟨q1, q2, q3⟩ := lAsk_some k e (by
          rw [List.nodup_append]
          exact ⟨hd, (by simp), fun a ha b hb e2 => d (by obtain rfl := List.mem_singleton.1 hb; subst e2; exact ha)⟩) (fun t ht => by
          rcases List.mem_append.1 ht with h | h
          · exact hm t h
          · obtain rfl := List.mem_singleton.1 h
            exact ⟨h1, h3⟩)
        refine ⟨q1, q2, ?_⟩
        rw [q3, List.map_append, List.append_assoc, ← h2]; rfl
theorem lGive_spec (o : LOk v) (ids : List Int) : ((lGive v ids).1 = v ∧ ((lGive v ids).2 = 6 ∨ (lGive v ids).2 = 9)) ∨ ∃ l, lAsk v.h ids [] = some l ∧ l.map (·.1) = ids ∧ l.Nodup ∧ (∀ s ∈ l, Out v s) ∧ lGive v ids = (l.foldl lPut v, 0) := by
  unfold lGive
  cases e : lAsk v.h ids [] with
  | none => exact Or.inl ⟨rfl, Or.inl rfl⟩
  | some l =>
    simp only
    obtain ⟨h1, h2, h3⟩ := lAsk_some o.hok e List.nodup_nil (fun s hs => by cases hs)
    by_cases c : (l.any fun s => decide (s ∈ v.kept ++ v.waits)) = true
    · rw [if_pos c]; exact Or.inl ⟨rfl, Or.inr rfl⟩
    · rw [if_neg c]
      refine Or.inr ⟨l, rfl, h3, h1, fun s hs => ⟨(h2 s hs).1, (h2 s hs).2, fun q => c ?_⟩, rfl⟩
      exact List.any_eq_true.2 ⟨s, hs, decide_eq_true q⟩
theorem LOk.give (o : LOk v) (ids : List Int) : LOk (lGive v ids).1 ∧ (lGive v ids).1.held = v.held ∧ ((lGive v ids).1.h.pages = v.h.pages ∧ (lGive v ids).1.h.last = v.h.last) := by
  rcases lGive_spec o ids with ⟨e, _⟩ | ⟨l, _, _, h1, h2, e⟩
  · rw [e]; exact ⟨o, rfl, rfl, rfl⟩
  · rw [e]
    obtain ⟨q1, q2, _, _, q5⟩ := LOk.puts o h1 h2
    exact ⟨q1, q2, q5⟩
theorem LOk.hold (o : LOk v) (on : Bool) : LOk (lHold v on) := by
  unfold lHold
  split
  · exact ⟨o.hok, o.mem, o.nd, fun c => by cases c⟩
  · obtain ⟨g, e1, e2⟩ := hDrop_those o.hok (fun s hs => (o.waitsm s hs).1) o.ndw
    rw [e1]
    refine ⟨e2, fun s hs => ?_, ?_, fun _ => rfl⟩
    · have hs2 : s ∈ v.kept ++ [] := hs
      rw [List.append_nil] at hs2
      exact ⟨(left_those o.hok (fun s hs => (o.waitsm s hs).1) s).2 ⟨(o.keptm s hs2).1, o.apart hs2⟩, (o.keptm s hs2).2⟩
    · show (v.kept ++ []).Nodup
      rw [List.append_nil]; exact o.ndk
theorem LOk.flush (o : LOk v) : LOk (lFlush v) := by
  unfold lFlush
  obtain ⟨g, e1, e2⟩ := hDrop_those o.hok (fun s hs => (o.keptm s hs).1) o.ndk
  rw [e1]
  refine ⟨e2, fun s hs => ?_, o.ndw, o.calm⟩
  have hs2 : s ∈ v.waits := hs
  exact ⟨(left_those o.hok (fun s hs => (o.keptm s hs).1) s).2 ⟨(o.waitsm s hs2).1, fun c => o.apart c hs2⟩, (o.waitsm s hs2).2⟩
end

end Go.Proofs.YtlcdgmjinhbncaaGreat
/- The bitwise operations of Go's int and uint64 on numbers from 0 on, as those of natural numbers. No program is named here. -/
namespace Go.Proofs.YtlcdgmjinhbncaaGreat

theorem ofNat_toNat_of (a : Nat) (ha : a < 18446744073709551616) : (BitVec.ofInt 64 (a : Int)).toNat = a := by
  rw [BitVec.ofInt_natCast, BitVec.toNat_ofNat]; exact Nat.mod_eq_of_lt (by omega)

theorem bits_and_i64 (a b : Nat) (ha : a < 9223372036854775808) (hb : b < 9223372036854775808) : bits .and .i64 (a : Int) (b : Int) = ((a &&& b : Nat) : Int) := by
  have h : a &&& b ≤ a := Nat.and_le_left
  show IntKind.i64.wrap ((BitVec.ofInt 64 (a : Int) &&& BitVec.ofInt 64 (b : Int)).toNat : Int) = _
  rw [BitVec.toNat_and, ofNat_toNat_of _ (by omega), ofNat_toNat_of _ (by omega)]
  exact IntWalk.i64_in _ (by omega)

end Go.Proofs.YtlcdgmjinhbncaaGreat
/- What each function of layer 1 (num), and of the document's own answers to it, returns: for every argument of its type; memory is as it was, but for draws. -/
namespace Go.Proofs.YtlcdgmjinhbncaaGreat
open Go.RowKit
set_option linter.unusedVariables false

/-- A fact that the walk doesn't take for a rule. -/
theorem hidd {p : Prop} (h : p) : Hid p := h

theorem len8_wrap (c i : Int) (hc : 0 ≤ c ∧ c ≤ 56) (h0 : 0 ≤ i) (h1 : i < 256) (h : i.toNat < Lib.len8tab.size) :
    wrap64 (c + wrap64 ((Lib.len8tab[i.toNat]'h).toNat : Int)) = c + (Lib.bitLen i.toNat : Int) := by
  have e := Lib.len8_of i h0 (by omega)
  have l := Lib.bitLen_le8' i h0 (by omega)
  have e2 : ((Lib.len8tab[i.toNat]'h).toNat : Int) = (Lib.bitLen i.toNat : Int) := by
    rw [← e]; unfold Lib.len8; rw [getElem?_pos Lib.len8tab i.toNat h]; rfl
  rw [e2, IntWalk.wrap64_in (Lib.bitLen i.toNat : Int) (by omega), IntWalk.wrap64_in _ (by omega)]

set_option maxHeartbeats 2000000 in
set_option maxRecDepth 100000 in
theorem len64 (x : Int) (w : World) (h0 : 0 ≤ x) (h1 : x ≤ 18446744073709551615) :
    Calls Tryz.prog 230 #[.int .u64 x] w fun e w' => e = .returned (.int .i64 (Lib.bitLen x.toNat)) ∧ w = w' := by
  have hsz := Lib.len8tab_size
  go_enter Tryz.func230, Tryz.ntmps230
  go_wp2
  all_goals (go_ret; refine ⟨congrArg Ending.returned (congrArg (Value.int IntKind.i64) ?_), rfl⟩)
  · have s := Lib.bitLen_shift56 x.toNat (by omega) (by omega)
    refine (len8_wrap 56 (x / 4294967296 / 65536 / 256) (by omega) (by omega) (by omega) _).trans ?_
    have e : (x / 4294967296 / 65536 / 256).toNat = x.toNat / 72057594037927936 := by omega
    rw [e]; omega
  · have s := Lib.bitLen_shift48 x.toNat (by omega) (by omega)
    refine (len8_wrap 48 (x / 4294967296 / 65536) (by omega) (by omega) (by omega) _).trans ?_
    have e : (x / 4294967296 / 65536).toNat = x.toNat / 281474976710656 := by omega
    rw [e]; omega
  · have s := Lib.bitLen_shift40 x.toNat (by omega) (by omega)
    refine (len8_wrap 40 (x / 4294967296 / 256) (by omega) (by omega) (by omega) _).trans ?_
    have e : (x / 4294967296 / 256).toNat = x.toNat / 1099511627776 := by omega
    rw [e]; omega
  · have s := Lib.bitLen_shift32 x.toNat (by omega) (by omega)
    refine (len8_wrap 32 (x / 4294967296) (by omega) (by omega) (by omega) _).trans ?_
    have e : (x / 4294967296).toNat = x.toNat / 4294967296 := by omega
    rw [e]; omega
  · have s := Lib.bitLen_shift24 x.toNat (by omega) (by omega)
    refine (len8_wrap 24 (x / 65536 / 256) (by omega) (by omega) (by omega) _).trans ?_
    have e : (x / 65536 / 256).toNat = x.toNat / 16777216 := by omega
    rw [e]; omega
  · have s := Lib.bitLen_shift16 x.toNat (by omega) (by omega)
    refine (len8_wrap 16 (x / 65536) (by omega) (by omega) (by omega) _).trans ?_
    have e : (x / 65536).toNat = x.toNat / 65536 := by omega
    rw [e]; omega
  · have s := Lib.bitLen_shift8 x.toNat (by omega) (by omega)
    refine (len8_wrap 8 (x / 256) (by omega) (by omega) (by omega) _).trans ?_
    have e : (x / 256).toNat = x.toNat / 256 := by omega
    rw [e]; omega
  · have s := len8_wrap 0 x (by omega) h0 (by omega)
    simp only [Int.zero_add] at s
    exact s _

theorem len (x : Int) (w : World) (h0 : 0 ≤ x) (h1 : x ≤ 18446744073709551615) :
    Calls Tryz.prog 167 #[.int .u64 x] w fun e w' => e = .returned (.int .i64 (Lib.bitLen x.toNat)) ∧ w = w' := by
  go_enter Tryz.func167, Tryz.ntmps167
  go_wp2_with (go_at_call 230; refine (len64 _ _ (by omega) (by omega)).mono ?_; rintro e w' ⟨rfl, rfl⟩)
  go_ret
  exact ⟨rfl, rfl⟩

theorem is_fn (n : Int) (w : World) (h0 : -9223372036854775808 ≤ n) (h1 : n ≤ 9223372036854775807) :
    Calls Tryz.prog 193 #[.int .i64 n] w fun e w' => e = .returned (.bool (!isB n)) ∧ w = w' := by
  by_cases hn : n < 1
  · have e : isB n = false := by unfold isB; exact decide_eq_false (by omega)
    rw [e]; clear e
    go_enter Tryz.func193, Tryz.ntmps193
    go_wp2
    go_ret
    exact ⟨rfl, rfl⟩
  · have E : Hid ((bits BinOp.and IntKind.i64 n (n - 1) != 0) = !isB n) := hidd (by
      obtain ⟨m, rfl⟩ : ∃ m : Nat, n = (m : Int) := ⟨n.toNat, by omega⟩
      rw [isB_and m (by omega), show ((m : Int) - 1) = ((m - 1 : Nat) : Int) by omega, bits_and_i64 _ _ (by omega) (by omega)]
      by_cases h : m &&& (m - 1) = 0
      · rw [h]; rfl
      · rw [decide_eq_false h]; simp; omega)
    go_enter Tryz.func193, Tryz.ntmps193
    go_wp2
    go_ret
    exact ⟨congrArg Ending.returned (congrArg Value.bool E.out), rfl⟩

/-- The place of the first number that is no power of two; -1. -/
theorem index_cells (b off n c : Nat) (zs : List Int) (w : World) (hz : zs.length = n) (hbig : n ≤ 9223372036854775807) (hi : ∀ j, j < n → -9223372036854775808 ≤ zs.getD j 0 ∧ zs.getD j 0 ≤ 9223372036854775807) (hc : ∀ j, j < n → w.cell? ⟨b, off + j, none⟩ = some (.int .i64 (zs.getD j 0))) :
    Calls Tryz.prog 155 #[.slice (some ⟨b, off, none⟩) n c, .func (.func 193) #[] #[]] w fun e w' => (∃ r : Int, e = .returned (.int .i64 r) ∧ -1 ≤ r ∧ r ≤ 9223372036854775807 ∧ decide (0 ≤ r) = !zs.all isB) ∧ w = w' := by
  have HC := hidd hc; clear hc
  have HI := hidd hi; clear hi
  have HZ := hidd hz; clear hz
  go_enter Tryz.func155, Tryz.ntmps155
  go_wp2
  go_loop [8] (fun k => ∃ j : Nat, j ≤ n ∧ Hid (∀ i, i < j → isB (zs.getD i 0) = true) ∧ k = .int .i64 j) (fun k => (n - intOf k).toNat)
  case atStart => exact ⟨0, by omega, hidd (fun i h => absurd h (Nat.not_lt_zero _)), rfl⟩
  case round =>
    obtain ⟨j, hj, HA, rfl⟩ := hrel
    by_cases hlt : j < n
    · have hcell := HC.out j hlt
      have hb := HI.out j hlt
      have HD : Hid (zs.getD j 0 ∈ zs) := hidd (by
        have := HZ.out
        rw [List.getD_eq_getElem?_getD, List.getElem?_eq_getElem (by omega)]; exact List.getElem_mem (by omega))
      obtain ⟨z, HE⟩ : ∃ z, Hid (zs.getD j 0 = z) := ⟨_, hidd rfl⟩
      rw [HE.out] at hcell hb HD
      obtain ⟨hb0, hb1⟩ := hb
      have hcon := is_fn z w hb0 hb1
      cases hB : isB z with
      | true =>
        have HB := hidd hB
        rw [hB] at hcon
        clear hB
        go_wp2_with (go_at_call 193; refine hcon.mono ?_; rintro e w' ⟨rfl, rfl⟩)
        go_round
        case rel =>
          refine ⟨j + 1, by omega, hidd (fun i hi => ?_), by go_num⟩
          by_cases h : i = j
          · subst h; rw [HE.out]; exact HB.out
          · exact HA.out i (by omega)
        case measure => simp [intOf]; omega
      | false =>
        have HB := hidd hB
        rw [hB] at hcon
        clear hB
        go_wp2_with (go_at_call 193; refine hcon.mono ?_; rintro e w' ⟨rfl, rfl⟩)
        go_ret
        refine ⟨⟨(j : Int), rfl, by omega, by omega, ?_⟩, rfl⟩
        have hall : zs.all isB = false := by
          rw [List.all_eq_false]; exact ⟨z, HD.out, by rw [HB.out]; simp⟩
        rw [hall]; exact decide_eq_true (by omega)
    · have : j = n := by omega
      subst this
      go_wp2
      go_ret
      refine ⟨⟨-1, rfl, by omega, by omega, ?_⟩, rfl⟩
      have hall : zs.all isB = true := by
        rw [List.all_eq_true]
        intro x hx
        obtain ⟨i, hi, rfl⟩ := List.getElem_of_mem hx
        have := HA.out i (by have := HZ.out; omega)
        rwa [List.getD_eq_getElem?_getD, List.getElem?_eq_getElem hi] at this
      rw [hall]; exact decide_eq_false (by omega)

theorem contains_cells (b off n c : Nat) (zs : List Int) (w : World) (hz : zs.length = n) (hbig : n ≤ 9223372036854775807) (hi : ∀ j, j < n → -9223372036854775808 ≤ zs.getD j 0 ∧ zs.getD j 0 ≤ 9223372036854775807) (hc : ∀ j, j < n → w.cell? ⟨b, off + j, none⟩ = some (.int .i64 (zs.getD j 0))) :
    Calls Tryz.prog 103 #[.slice (some ⟨b, off, none⟩) n c, .func (.func 193) #[] #[]] w fun e w' => e = .returned (.bool (!zs.all isB)) ∧ w = w' := by
  have hcon := index_cells b off n c zs w hz hbig hi hc
  clear hc hi hz
  generalize (!zs.all isB) = r at hcon ⊢
  go_enter Tryz.func103, Tryz.ntmps103
  go_wp2_with (go_at_call 155; refine hcon.mono ?_; rintro e w' ⟨⟨k, rfl, hk0, hk1, hk2⟩, rfl⟩)
  go_ret
  exact ⟨congrArg Ending.returned (congrArg Value.bool (by first | rfl | assumption)), rfl⟩

theorem num_is_cells (b off n c : Nat) (zs : List Int) (w : World) (hz : zs.length = n) (hbig : n ≤ 9223372036854775807) (hi : ∀ j, j < n → -9223372036854775808 ≤ zs.getD j 0 ∧ zs.getD j 0 ≤ 9223372036854775807) (hc : ∀ j, j < n → w.cell? ⟨b, off + j, none⟩ = some (.int .i64 (zs.getD j 0))) :
    Calls Tryz.prog 129 #[.slice (some ⟨b, off, none⟩) n c] w fun e w' => e = .returned (.bool (zs.all isB)) ∧ w = w' := by
  have hcon := contains_cells b off n c zs w hz hbig hi hc
  clear hc hi hz
  generalize zs.all isB = r at hcon ⊢
  go_enter Tryz.func129, Tryz.ntmps129
  go_wp2_with (go_at_call 103; refine hcon.mono ?_; rintro e w' ⟨rfl, rfl⟩)
  go_ret
  exact ⟨by simp, rfl⟩

/-- Of one number, that the caller has laid into a block of its own. -/
theorem num_is_one (b : Nat) (z : Int) (w : World) (h0 : -9223372036854775808 ≤ z) (h1 : z ≤ 9223372036854775807) (hc : w.cell? ⟨b, 0, none⟩ = some (.int .i64 z)) :
    Calls Tryz.prog 129 #[.slice (some ⟨b, 0, none⟩) 1 1] w fun e w' => e = .returned (.bool (isB z)) ∧ w = w' := by
  have h := num_is_cells b 0 1 1 [z] w rfl (by omega) (fun j hj => by obtain rfl : j = 0 := by omega
                                                                      exact ⟨h0, h1⟩) (fun j hj => by obtain rfl : j = 0 := by omega
                                                                                                      exact hc)
  simpa using h

theorem ref_is (n : Int) (w : World) (h0 : -9223372036854775808 ≤ n) (h1 : n ≤ 9223372036854775807) :
    Calls Tryz.prog 126 #[.int .i64 n] w fun e w' => e = .returned (.bool (isB n)) ∧ w = w' := by
  go_enter Tryz.func126, Tryz.ntmps126
  go_wp2
  go_loop [0] (fun x => ∃ m : Int, -9223372036854775808 ≤ m ∧ m ≤ 9223372036854775807 ∧ Hid (isB m = isB n) ∧ x = .int .i64 m) (fun x => (intOf x).toNat)
  case atStart => exact ⟨n, h0, h1, hidd rfl, rfl⟩
  case round =>
    obtain ⟨m, hm0, hm1, HM, rfl⟩ := hrel
    by_cases h1 : 1 < m
    · by_cases h2 : m % 2 = 0
      · go_wp2
        go_round
        case rel => exact ⟨m / 2, by omega, by omega, hidd ((isB_half m h1 h2).trans HM.out), rfl⟩
        case measure => simp [intOf]; omega
      · have E : Hid (decide (m = 1) = isB n) := hidd ((isB_end m (by omega)).symm.trans HM.out)
        have h3 : (m == 1) = false := by simp; omega
        go_wp2
        go_ret
        exact ⟨congrArg Ending.returned (congrArg Value.bool (by rw [← E.out]; simp; omega)), rfl⟩
    · have E : Hid (decide (m = 1) = isB n) := hidd ((isB_end m (by omega)).symm.trans HM.out)
      go_wp2
      go_ret
      exact ⟨congrArg Ending.returned (congrArg Value.bool (by rw [← E.out]; rfl)), rfl⟩

theorem num_order (n : Int) (w : World) :
    Calls Tryz.prog 120 #[.int .i64 n] w fun e w' => e = .returned (.int .i64 (ordI n)) ∧ w = w' := by
  go_enter Tryz.func120, Tryz.ntmps120
  go_wp2
  go_loop [4] (fun k => ∃ j : Nat, j ≤ 4 ∧ Hid (∀ i, i < j → n ≠ ((16 * 2 ^ i : Nat) : Int)) ∧ k = .int .i64 j) (fun k => (4 - intOf k).toNat)
  case atStart => exact ⟨0, by omega, hidd (fun i h => absurd h (Nat.not_lt_zero _)), rfl⟩
  case round =>
    obtain ⟨j, hj, HA, rfl⟩ := hrel
    obtain rfl | rfl | rfl | rfl | rfl : j = 0 ∨ j = 1 ∨ j = 2 ∨ j = 3 ∨ j = 4 := by omega
    · by_cases h : n = 16
      · subst h
        go_wp2
        go_ret
        exact ⟨rfl, rfl⟩
      · have hb : (n == 16) = false := by simpa using h
        go_wp2
        go_round
        case rel =>
          refine ⟨1, by omega, hidd (fun i hi => ?_), by go_num⟩
          obtain rfl : i = 0 := by omega
          exact h
        case measure => simp [intOf]
    · by_cases h : n = 32
      · subst h
        go_wp2
        go_ret
        exact ⟨rfl, rfl⟩
      · have hb : (n == 32) = false := by simpa using h
        go_wp2
        go_round
        case rel =>
          refine ⟨2, by omega, hidd (fun i hi => ?_), by go_num⟩
          by_cases e : i = 1
          · subst e; exact h
          · exact HA.out i (by omega)
        case measure => simp [intOf]
    · by_cases h : n = 64
      · subst h
        go_wp2
        go_ret
        exact ⟨rfl, rfl⟩
      · have hb : (n == 64) = false := by simpa using h
        go_wp2
        go_round
        case rel =>
          refine ⟨3, by omega, hidd (fun i hi => ?_), by go_num⟩
          by_cases e : i = 2
          · subst e; exact h
          · exact HA.out i (by omega)
        case measure => simp [intOf]
    · by_cases h : n = 128
      · subst h
        go_wp2
        go_ret
        exact ⟨rfl, rfl⟩
      · have hb : (n == 128) = false := by simpa using h
        go_wp2
        go_round
        case rel =>
          refine ⟨4, by omega, hidd (fun i hi => ?_), by go_num⟩
          by_cases e : i = 3
          · subst e; exact h
          · exact HA.out i (by omega)
        case measure => simp [intOf]
    · have E : Hid (ordI n = -1) := hidd (by
        have h1 : ¬ n = 16 := HA.out 0 (by omega)
        have h2 : ¬ n = 32 := HA.out 1 (by omega)
        have h3 : ¬ n = 64 := HA.out 2 (by omega)
        have h4 : ¬ n = 128 := HA.out 3 (by omega)
        unfold ordI; rw [if_neg h1, if_neg h2, if_neg h3, if_neg h4])
      go_wp2
      go_ret
      exact ⟨congrArg Ending.returned (congrArg (Value.int IntKind.i64) E.out.symm), rfl⟩

end Go.Proofs.YtlcdgmjinhbncaaGreat
/- Layer 10's small functions: which sizes there are, which spans are meant, numbers of spans. -/
namespace Go.Proofs.YtlcdgmjinhbncaaGreat
open Go.RowKit
set_option linter.unusedVariables false

theorem eqs_span (a b c d a2 b2 c2 d2 : Int) (W : World) : (binOp .eql 49 (.agg #[.int .i64 a, .int .i64 b, .int .i64 c, .int .i64 d]) (.agg #[.int .i64 a2, .int .i64 b2, .int .i64 c2, .int .i64 d2])).run Tryz.prog W = .ok (.bool (decide ((a, b, c, d) = (a2, b2, c2, d2)))) W := by
  simp [go_sem]
  by_cases h1 : a = a2 <;> by_cases h2 : b = b2 <;> by_cases h3 : c = c2 <;> by_cases h4 : d = d2 <;> simp [h1, h2, h3, h4]

theorem lFits_four (m : Int) : lFits (4 * m) = isB m := by
  unfold lFits
  by_cases h : 1 ≤ m
  · rw [decide_eq_true (by omega : 4 ≤ 4 * m), Bool.true_and]
    have h1 := isB_half (4 * m) (by omega) (by omega)
    have h2 := isB_half (2 * m) (by omega) (by omega)
    rw [show 4 * m / 2 = 2 * m by omega] at h1
    rw [show 2 * m / 2 = m by omega] at h2
    rw [← h1, ← h2]
  · rw [decide_eq_false (by omega : ¬ 4 ≤ 4 * m), Bool.false_and]
    unfold isB
    rw [decide_eq_false (by omega)]
theorem lFits_no {n : Int} (h : ¬ n % 4 = 0) : lFits n = false := by
  unfold lFits
  by_cases h1 : 4 ≤ n
  · rw [decide_eq_true h1, Bool.true_and]
    by_cases h2 : n % 2 = 0
    · rw [← isB_half n (by omega) h2, isB_end (n / 2) (by omega)]
      exact decide_eq_false (by omega)
    · rw [isB_end n (by omega)]
      exact decide_eq_false (by omega)
  · rw [decide_eq_false h1, Bool.false_and]
theorem lFits_low {n : Int} (h : n < 4) : lFits n = false := by
  unfold lFits
  rw [decide_eq_false (by omega), Bool.false_and]

/-- isSize. -/
theorem code_isSize (n : Int) (w : World) (h : in64 n) : Calls Tryz.prog 191 #[.int .i64 n] w fun e w' => e = .returned (.bool (lFits n)) ∧ Below w.heap.size w w' := by
  obtain ⟨h0, h1⟩ := h
  by_cases hn : 0 ≤ n
  · by_cases h4 : n % 4 = 0
    · obtain ⟨m, rfl⟩ : ∃ m, n = 4 * m := ⟨n / 4, by omega⟩
      have hm0 : 0 ≤ m := by omega
      have hm1 : m ≤ 2305843009213693951 := by omega
      rw [lFits_four]
      have e1 : 4 * m / 4 = m := by omega
      have ci := fun W hc => num_is_one w.heap.size m W (by omega) (by omega) hc
      have hd : (4 * m % 4 == 0) = true := by simp
      clear h4
      go_enter Tryz.func191, Tryz.ntmps191
      go_wp2_with (first | (go_at_call 129; (with_reducible refine (ci _ (by simp)).mono ?_); rintro e w' ⟨rfl, rfl⟩))
      go_ret
      exact ⟨rfl, (Below.refl _ _).alloc (Nat.le_refl _) _⟩
    · have E := lFits_no h4
      rw [E]
      have hd : (n % 4 == 0) = false := by simpa using h4
      clear E h4
      go_enter Tryz.func191, Tryz.ntmps191
      go_wp2
      go_ret
      exact ⟨rfl, Below.refl _ _⟩
  · rw [lFits_low (by omega)]
    by_cases h4 : n.tmod 4 = 0
    · have hd : (n.tmod 4 == 0) = true := by simpa using h4
      obtain ⟨m, hm⟩ : ∃ m, n.tdiv 4 = m := ⟨_, rfl⟩
      have hm9 : n = 4 * m := by
        have := Int.mul_tdiv_add_tmod n 4
        rw [h4, hm] at this
        omega
      have hm1 : m < 1 := by omega
      have hm0 : -9223372036854775808 ≤ m := by omega
      have hb : isB m = false := by unfold isB; exact decide_eq_false (by omega)
      have ci := fun W hc => num_is_one w.heap.size m W hm0 (by omega) hc
      rw [hb] at ci
      clear h4 hb hm9
      go_enter Tryz.func191, Tryz.ntmps191
      go_wp2_with (first | (go_at_call 129; (with_reducible refine (ci _ (by simp)).mono ?_); rintro e w' ⟨rfl, rfl⟩))
      go_ret
      exact ⟨rfl, (Below.refl _ _).alloc (Nat.le_refl _) _⟩
    · have hd : (n.tmod 4 == 0) = false := by simpa using h4
      clear h4
      go_enter Tryz.func191, Tryz.ntmps191
      go_wp2
      go_ret
      exact ⟨rfl, Below.refl _ _⟩

/-- A size that is meant. -/
theorem code_sized (n : Int) (w : World) : Calls Tryz.prog 181 #[.int .i64 n] w fun e w' => e = .returned (.func (.func 235) #[] #[.pointer (some ⟨w.heap.size, 0, none⟩)]) ∧ w' = w.alloc (.cells #[.int .i64 n] 3) := by
  go_enter Tryz.func181, Tryz.ntmps181
  go_wp2
  go_ret
  exact ⟨rfl, rfl⟩
theorem code_sized1 (s : Spn) (t : Nat) (n : Int) (w : World) (hc : w.cell? ⟨t, 0, none⟩ = some (.int .i64 n)) : Calls Tryz.prog 235 #[spv s, .pointer (some ⟨t, 0, none⟩)] w fun e w' => e = .returned (.bool (s.2.2.1 == n)) ∧ Below w.heap.size w w' := by
  obtain ⟨a, b, c, d⟩ := s
  unfold spv
  simp only
  have h2 := alloc_old (.cells #[.int .i64 a, .int .i64 b, .int .i64 c, .int .i64 d] 49) hc
  go_enter Tryz.func235, Tryz.ntmps235
  go_wp2
  go_ret
  exact ⟨rfl, (Below.refl _ _).alloc (Nat.le_refl _) _⟩
/-- A span that is meant. -/
theorem code_same (s : Spn) (w : World) : Calls Tryz.prog 187 #[spv s] w fun e w' => e = .returned (.func (.func 239) #[] #[.pointer (some ⟨w.heap.size, 0, none⟩)]) ∧ w' = w.alloc (.cells #[.int .i64 s.1, .int .i64 s.2.1, .int .i64 s.2.2.1, .int .i64 s.2.2.2] 49) := by
  obtain ⟨a, b, c, d⟩ := s
  unfold spv
  simp only
  go_enter Tryz.func187, Tryz.ntmps187
  go_wp2
  go_ret
  exact ⟨rfl, rfl⟩
/-- A span lies in a block. -/
def SpAt (w : World) (t : Nat) (s : Spn) : Prop := w.cell? ⟨t, 0, none⟩ = some (.int .i64 s.1) ∧ w.cell? ⟨t, 1, none⟩ = some (.int .i64 s.2.1) ∧ w.cell? ⟨t, 2, none⟩ = some (.int .i64 s.2.2.1) ∧ w.cell? ⟨t, 3, none⟩ = some (.int .i64 s.2.2.2)
theorem SpAt.lt {w : World} {t : Nat} {s : Spn} (h : SpAt w t s) : t < w.heap.size := lt_of_cell h.1
theorem SpAt.below {w w' : World} {t B : Nat} {s : Spn} (h : SpAt w t s) (hb : Below B w w') (ht : t < B) : SpAt w' t s :=
  ⟨(hb.cell (p := ⟨t, 0, none⟩) ht).trans h.1, (hb.cell (p := ⟨t, 1, none⟩) ht).trans h.2.1, (hb.cell (p := ⟨t, 2, none⟩) ht).trans h.2.2.1, (hb.cell (p := ⟨t, 3, none⟩) ht).trans h.2.2.2⟩
theorem SpAt.grown {w w' : World} {t : Nat} {s : Spn} {r : Option Nat} (h : SpAt w t s) (hg : w.grownBy w' r) (ht : some t ≠ r) : SpAt w' t s := by
  have hb := hg.block t h.lt ht
  exact ⟨(World.cell?_of_block (w := w) (a := ⟨t, 0, none⟩) hb).trans h.1, (World.cell?_of_block (w := w) (a := ⟨t, 1, none⟩) hb).trans h.2.1, (World.cell?_of_block (w := w) (a := ⟨t, 2, none⟩) hb).trans h.2.2.1, (World.cell?_of_block (w := w) (a := ⟨t, 3, none⟩) hb).trans h.2.2.2⟩
theorem SpAt.new_ (w : World) (s : Spn) (e : TypeId) : SpAt (w.alloc (.cells #[.int .i64 s.1, .int .i64 s.2.1, .int .i64 s.2.2.1, .int .i64 s.2.2.2] e)) w.heap.size s :=
  ⟨World.cell?_alloc_at _ _ _ 0 (by simp), World.cell?_alloc_at _ _ _ 1 (by simp), World.cell?_alloc_at _ _ _ 2 (by simp), World.cell?_alloc_at _ _ _ 3 (by simp)⟩
theorem SpAt.cells {w : World} {t : Nat} {i s k o : Int} (h : SpAt w t (i, s, k, o)) : w.cell? ⟨t, 0, none⟩ = some (.int .i64 i) ∧ w.cell? ⟨t, 1, none⟩ = some (.int .i64 s) ∧ w.cell? ⟨t, 2, none⟩ = some (.int .i64 k) ∧ w.cell? ⟨t, 3, none⟩ = some (.int .i64 o) := h
theorem code_same1 (s : Spn) (t : Nat) (o : Spn) (w : World) (hc : SpAt w t o) : Calls Tryz.prog 239 #[spv s, .pointer (some ⟨t, 0, none⟩)] w fun e w' => e = .returned (.bool (decide (s = o))) ∧ Below w.heap.size w w' := by
  obtain ⟨a, b, c, d⟩ := s
  obtain ⟨a2, b2, c2, d2⟩ := o
  unfold spv
  simp only
  obtain ⟨x0, x1, x2, x3⟩ := hc
  have h0 := alloc_old (.cells #[.int .i64 a, .int .i64 b, .int .i64 c, .int .i64 d] 49) x0
  have h1 := alloc_old (.cells #[.int .i64 a, .int .i64 b, .int .i64 c, .int .i64 d] 49) x1
  have h2 := alloc_old (.cells #[.int .i64 a, .int .i64 b, .int .i64 c, .int .i64 d] 49) x2
  have h3 := alloc_old (.cells #[.int .i64 a, .int .i64 b, .int .i64 c, .int .i64 d] 49) x3
  simp only at h0 h1 h2 h3
  have q := eqs_span a b c d a2 b2 c2 d2
  obtain ⟨r, hr⟩ : ∃ r, decide ((a, b, c, d) = (a2, b2, c2, d2)) = r := ⟨_, rfl⟩
  rw [hr] at q ⊢
  clear hr x0 x1 x2 x3
  go_enter Tryz.func239, Tryz.ntmps239
  go_wp2
  go_ret
  exact ⟨rfl, (Below.refl _ _).alloc (Nat.le_refl _) _⟩

set_option maxHeartbeats 1000000 in
set_option maxRecDepth 100000 in
/-- Those of a size. -/
theorem code_those (A : Option Addr) (m c : Nat) (ds : List Spn) (t : Nat) (n : Int) (w : World) (hs : Sn w w.heap.size A m ds) (hm : m ≤ 65536) (hc : w.cell? ⟨t, 0, none⟩ = some (.int .i64 n)) :
    Calls Tryz.prog 179 #[.slice A m c, .func (.func 235) #[] #[.pointer (some ⟨t, 0, none⟩)]] w (OwnSpans w (lOf ds n)) := by
  obtain ⟨i0, hi, hz0, hz1, hz2⟩ := info_parts info_span
  have HS := hidb hs
  have HL : Hid (ds.length = m) := hidb hs.1
  have htl := lt_of_cell hc
  have HC : Hid (∀ W, Below w.heap.size w W → W.cell? ⟨t, 0, none⟩ = some (.int .i64 n)) := hidb (fun W hb => (hb.cell (p := ⟨t, 0, none⟩) htl).trans hc)
  clear hs hc
  go_enter Tryz.func179, Tryz.ntmps179
  go_wp2
  go_loopw [5, 7, 10] (fun v _ k wr => ∃ (j : Nat) (d : List Spn), j ≤ m ∧ k = .int .i64 j ∧ Hid (d = lOf (ds.take j) n) ∧ d.length ≤ j ∧ wr.ownsRow w.heap.size 49 4 v d.length (cellsAll scells d) ∧ Below w.heap.size w wr) (fun _ _ k _ => (m - intOf k).toNat)
  case atStart => exact ⟨0, [], Nat.zero_le _, rfl, hidb (by simp [lOf]), Nat.le_refl _, World.ownsRow_nil _ _ _ _, Below.refl _ _⟩
  case round =>
    obtain ⟨j, d, hj, rfl, HD, hdl, hown, hbel⟩ := hrel
    by_cases hlt : j < m
    · obtain ⟨b, off, i, s, k, o, rfl, hx, hc0, hc1, hc2, hc3⟩ := Sn.span (RowOf.below HS.out hbel) hlt
      have hi0 : (0 : Int) ≤ (j : Int) := by omega
      have hi1 : (j : Int) < (m : Int) := by omega
      have htk : ds.take (j + 1) = ds.take j ++ [(i, s, k, o)] := by rw [List.take_add_one, hx]; rfl
      have cs := fun W (hb : Below w.heap.size w W) => code_sized1 (i, s, k, o) t n W (HC.out W hb)
      have HB := hidb hbel
      have HOWN := hidb hown
      have hsz := hbel.size
      have HA : Hid (∀ W, Below (wr.alloc (.cells #[.int .i64 i, .int .i64 s, .int .i64 k, .int .i64 o] 49)).heap.size (wr.alloc (.cells #[.int .i64 i, .int .i64 s, .int .i64 k, .int .i64 o] 49)) W → Below wr.heap.size wr W) := hidb (fun W hb => ((Below.refl _ _).alloc (Nat.le_refl _) _).trans (hb.mono (by simp)))
      unfold spv at cs
      simp only at cs
      clear hbel hown hx
      cases he : (k == n) with
      | true =>
        have H2 : Hid (d ++ [(i, s, k, o)] = lOf (ds.take (j + 1)) n) := hidb (by
          rw [htk]
          unfold lOf
          rw [List.filter_append, ← show d = (ds.take j).filter (fun s => s.2.2.1 == n) from HD.out]
          congr 1
          simp [he])
        rw [he] at cs
        clear htk he
        go_wp2_with (first
          | (go_at_call 235; (with_reducible refine (cs _ (HB.out.alloc HB.out.size _)).mono ?_); rintro e w1 ⟨rfl, hb1⟩; obtain ⟨q0, q1, q2, q3⟩ := ((SpAt.new_ wr (i, s, k, o) 49).below hb1 (by simp)).cells; have hb2 := HA.out _ hb1; have hown1 := own_below HOWN.out hb2; have hsz1 := Nat.le_trans hsz hb2.size)
          | (at_builtin; refine wpList_append_struct w1 rfl _ _ 30 rfl w.heap.size 49 i0 (.agg #[.int .i64 0, .int .i64 0, .int .i64 0, .int .i64 0]) 4 32 Tryz.underlying30 hi hz0 hz1 hz2 rfl (by decide) _ _ _ rfl (by exact hown1) hsz1 #[.int .i64 i, .int .i64 s, .int .i64 k, .int .i64 o] rfl (by simp [Value.oneCell']) _ rfl (by unfold maxLen; omega) (by omega) ?_; intro v3 w3 hown3 hb3))
        have HO : Hid (w3.ownsRow w.heap.size 49 4 v3 (d ++ [(i, s, k, o)]).length (cellsAll scells (d ++ [(i, s, k, o)]))) := hidb (by rw [List.length_append, cellsAll_append, cellsAll_one]; exact hown3)
        have HB3 : Hid (Below w.heap.size w w3) := hidb ((HB.out.trans (hb2.mono hsz)).trans hb3)
        have hl3 : (d ++ [(i, s, k, o)]).length = d.length + 1 := by simp
        clear hown3 hb3 hown1 hb2 hb1
        go_roundw
        case rel => exact ⟨j + 1, d ++ [(i, s, k, o)], by omega, by go_num, H2, by rw [hl3]; omega, HO.out, HB3.out⟩
        case measure => simp [intOf]; omega
      | false =>
        have H2 : Hid (d = lOf (ds.take (j + 1)) n) := hidb (by
          rw [htk]
          unfold lOf
          rw [List.filter_append, ← show d = (ds.take j).filter (fun s => s.2.2.1 == n) from HD.out]
          simp [he])
        rw [he] at cs
        clear htk he
        go_wp2_with (first | (go_at_call 235; (with_reducible refine (cs _ (HB.out.alloc HB.out.size _)).mono ?_); rintro e w1 ⟨rfl, hb1⟩))
        have hb2 := HA.out _ hb1
        have HO := hidb (own_below HOWN.out hb2)
        have HB3 := hidb (HB.out.trans (hb2.mono hsz))
        clear hb1 hb2
        go_roundw
        case rel => exact ⟨j + 1, d, by omega, by go_num, H2, by omega, HO.out, HB3.out⟩
        case measure => simp [intOf]; omega
    · have e : d = lOf ds n := by rw [HD.out, List.take_of_length_le (by rw [HL.out]; omega)]
      obtain ⟨A', c', rfl⟩ := own_form2 hown
      have P : Hid (OwnSpans w (lOf ds n) (.returned (.slice A' d.length c')) wr) := hidb (by rw [← e]; exact ⟨A', c', rfl, hown, hbel⟩)
      clear hown hbel e
      go_wp2
      go_ret
      exact P.out
end Go.Proofs.YtlcdgmjinhbncaaGreat
/- Which numbers the closures of stacks' calls meet: whether any is asked so. -/
namespace Go.Proofs.YtlcdgmjinhbncaaGreat
open Go.RowKit Go.Maps
set_option linter.unusedVariables false

/-- slices.IndexFunc at numbers, with that closure: what it asks of each one may turn the world. -/
theorem code_sp_idx {t : Nat} (p : Nat → Bool) (I : Nat → World → Prop) (A : Option Addr) (n c : Nat) (zs : List Int) (w : World) (hI : I 0 w) (hs : ∀ j W, I j W → Sl W W.heap.size A n (zs.map iv))
    (hq : ∀ j z W, zs[j]? = some z → I j W → Calls Tryz.prog 127 #[.int .i64 z, .pointer (some ⟨t, 0, none⟩)] W fun e w' => e = .returned (.bool (p j)) ∧ I (j + 1) w') (hn : n ≤ 131072) :
    Calls Tryz.prog 155 #[.slice A n c, .func (.func 127) #[] #[.pointer (some ⟨t, 0, none⟩)]] w fun e w' => (∃ r : Int, e = .returned (.int .i64 r) ∧ -1 ≤ r ∧ r ≤ 9223372036854775807 ∧ decide (0 ≤ r) = (List.range n).any p) ∧ ∃ j, j ≤ n ∧ I j w' := by
  have HL : Hid (zs.length = n) := hidb (by have := (hs 0 w hI).1; simpa using this)
  have HI := hidb hI
  have HS := hidb hs
  have HQ := hidb hq
  clear hI hs hq
  go_enter Tryz.func155, Tryz.ntmps155
  go_wp2
  go_loopw [8] (fun k wr => ∃ j : Nat, j ≤ n ∧ Hid (∀ i, i < j → p i = false) ∧ k = .int .i64 j ∧ Hid (I j wr)) (fun k _ => (n - intOf k).toNat)
  case atStart => exact ⟨0, by omega, hidb (fun i h => absurd h (Nat.not_lt_zero _)), rfl, HI⟩
  case round =>
    obtain ⟨j, hj, HA, rfl, HJ⟩ := hrel
    by_cases hlt : j < n
    · obtain ⟨b, off, z, rfl, hx, hc⟩ := (HS.out j wr HJ.out).int_ hlt
      have c1 := HQ.out j z wr hx HJ.out
      have hj0 : (0 : Int) ≤ (j : Int) := by omega
      have hj1 : (j : Int) < (n : Int) := by omega
      clear hx
      cases hT : p j with
      | false =>
        rw [hT] at c1
        have HA2 : Hid (∀ i, i < j + 1 → p i = false) := hidb (fun i hi => by
          by_cases h : i = j
          · subst h; exact hT
          · exact HA.out i (by omega))
        clear hT
        go_wp2_with (first | (go_at_call 127; (with_reducible refine c1.mono ?_); rintro e w1 ⟨rfl, hi1⟩))
        go_roundw
        case rel => exact ⟨j + 1, by omega, HA2, by go_num, hidb hi1⟩
        case measure => simp [intOf]; omega
      | true =>
        rw [hT] at c1
        have HF : Hid ((List.range n).any p = true) := hidb (by
          rw [List.any_eq_true]
          exact ⟨j, List.mem_range.2 hlt, hT⟩)
        clear hT
        go_wp2_with (first | (go_at_call 127; (with_reducible refine c1.mono ?_); rintro e w1 ⟨rfl, hi1⟩))
        go_ret
        exact ⟨⟨j, rfl, by omega, by omega, by rw [HF.out]; exact decide_eq_true (by omega)⟩, j + 1, by omega, hi1⟩
    · have HF : Hid ((List.range n).any p = false) := hidb (by
        rw [List.any_eq_false]
        intro i hi
        have := HA.out i (by have := List.mem_range.1 hi; omega)
        simp [this])
      go_wp2
      go_ret
      exact ⟨⟨-1, rfl, by omega, by omega, by rw [HF.out]; rfl⟩, j, hj, HJ.out⟩
theorem code_sp_has {t : Nat} (p : Nat → Bool) (I : Nat → World → Prop) (A : Option Addr) (n c : Nat) (zs : List Int) (w : World) (hI : I 0 w) (hs : ∀ j W, I j W → Sl W W.heap.size A n (zs.map iv))
    (hq : ∀ j z W, zs[j]? = some z → I j W → Calls Tryz.prog 127 #[.int .i64 z, .pointer (some ⟨t, 0, none⟩)] W fun e w' => e = .returned (.bool (p j)) ∧ I (j + 1) w') (hn : n ≤ 131072) :
    Calls Tryz.prog 103 #[.slice A n c, .func (.func 127) #[] #[.pointer (some ⟨t, 0, none⟩)]] w fun e w' => e = .returned (.bool ((List.range n).any p)) ∧ ∃ j, j ≤ n ∧ I j w' := by
  have c1 := code_sp_idx p I A n c zs w hI hs hq hn
  clear hI hs hq
  go_enter Tryz.func103, Tryz.ntmps103
  go_wp2_with (go_at_call 155; (with_reducible refine c1.mono ?_); rintro e w1 ⟨⟨r, rfl, h1, h2, h3⟩, hj1⟩)
  go_ret
  exact ⟨rfl, hj1⟩


/-- slices.IndexFunc at numbers, with that closure: what it asks of each one may turn the world. -/
theorem code_ss_idx (p : Nat → Bool) (I : Nat → World → Prop) (A : Option Addr) (n c : Nat) (zs : List Int) (w : World) (hI : I 0 w) (hs : ∀ j W, I j W → Sl W W.heap.size A n (zs.map iv))
    (hq : ∀ j z W, zs[j]? = some z → I j W → Calls Tryz.prog 128 #[.int .i64 z] W fun e w' => e = .returned (.bool (p j)) ∧ I (j + 1) w') (hn : n ≤ 131072) :
    Calls Tryz.prog 155 #[.slice A n c, .func (.func 128) #[] #[]] w fun e w' => (∃ r : Int, e = .returned (.int .i64 r) ∧ -1 ≤ r ∧ r ≤ 9223372036854775807 ∧ decide (0 ≤ r) = (List.range n).any p) ∧ ∃ j, j ≤ n ∧ I j w' := by
  have HL : Hid (zs.length = n) := hidb (by have := (hs 0 w hI).1; simpa using this)
  have HI := hidb hI
  have HS := hidb hs
  have HQ := hidb hq
  clear hI hs hq
  go_enter Tryz.func155, Tryz.ntmps155
  go_wp2
  go_loopw [8] (fun k wr => ∃ j : Nat, j ≤ n ∧ Hid (∀ i, i < j → p i = false) ∧ k = .int .i64 j ∧ Hid (I j wr)) (fun k _ => (n - intOf k).toNat)
  case atStart => exact ⟨0, by omega, hidb (fun i h => absurd h (Nat.not_lt_zero _)), rfl, HI⟩
  case round =>
    obtain ⟨j, hj, HA, rfl, HJ⟩ := hrel
    by_cases hlt : j < n
    · obtain ⟨b, off, z, rfl, hx, hc⟩ := (HS.out j wr HJ.out).int_ hlt
      have c1 := HQ.out j z wr hx HJ.out
      have hj0 : (0 : Int) ≤ (j : Int) := by omega
      have hj1 : (j : Int) < (n : Int) := by omega
      clear hx
      cases hT : p j with
      | false =>
        rw [hT] at c1
        have HA2 : Hid (∀ i, i < j + 1 → p i = false) := hidb (fun i hi => by
          by_cases h : i = j
          · subst h; exact hT
          · exact HA.out i (by omega))
        clear hT
        go_wp2_with (first | (go_at_call 128; (with_reducible refine c1.mono ?_); rintro e w1 ⟨rfl, hi1⟩))
        go_roundw
        case rel => exact ⟨j + 1, by omega, HA2, by go_num, hidb hi1⟩
        case measure => simp [intOf]; omega
      | true =>
        rw [hT] at c1
        have HF : Hid ((List.range n).any p = true) := hidb (by
          rw [List.any_eq_true]
          exact ⟨j, List.mem_range.2 hlt, hT⟩)
        clear hT
        go_wp2_with (first | (go_at_call 128; (with_reducible refine c1.mono ?_); rintro e w1 ⟨rfl, hi1⟩))
        go_ret
        exact ⟨⟨j, rfl, by omega, by omega, by rw [HF.out]; exact decide_eq_true (by omega)⟩, j + 1, by omega, hi1⟩
    · have HF : Hid ((List.range n).any p = false) := hidb (by
        rw [List.any_eq_false]
        intro i hi
        have := HA.out i (by have := List.mem_range.1 hi; omega)
        simp [this])
      go_wp2
      go_ret
      exact ⟨⟨-1, rfl, by omega, by omega, by rw [HF.out]; rfl⟩, j, hj, HJ.out⟩
theorem code_ss_has (p : Nat → Bool) (I : Nat → World → Prop) (A : Option Addr) (n c : Nat) (zs : List Int) (w : World) (hI : I 0 w) (hs : ∀ j W, I j W → Sl W W.heap.size A n (zs.map iv))
    (hq : ∀ j z W, zs[j]? = some z → I j W → Calls Tryz.prog 128 #[.int .i64 z] W fun e w' => e = .returned (.bool (p j)) ∧ I (j + 1) w') (hn : n ≤ 131072) :
    Calls Tryz.prog 103 #[.slice A n c, .func (.func 128) #[] #[]] w fun e w' => e = .returned (.bool ((List.range n).any p)) ∧ ∃ j, j ≤ n ∧ I j w' := by
  have c1 := code_ss_idx p I A n c zs w hI hs hq hn
  clear hI hs hq
  go_enter Tryz.func103, Tryz.ntmps103
  go_wp2_with (go_at_call 155; (with_reducible refine c1.mono ?_); rintro e w1 ⟨⟨r, rfl, h1, h2, h3⟩, hj1⟩)
  go_ret
  exact ⟨rfl, hj1⟩


end Go.Proofs.YtlcdgmjinhbncaaGreat
/- Stacks' questions: which sizes, which processors there are. -/
namespace Go.Proofs.YtlcdgmjinhbncaaGreat
open Go.RowKit Go.Maps
set_option linter.unusedVariables false

theorem Sl.oneJ (W : World) (x : Int) (t : TypeId) : Sl (W.alloc (.cells #[.int .i64 x] t)) (W.alloc (.cells #[.int .i64 x] t)).heap.size (some ⟨W.heap.size, 0, none⟩) 1 ([x].map iv) :=
  ⟨rfl, fun _ => ⟨W.heap.size, 0, rfl, by simp, fun j hj => by
    obtain rfl : j = 0 := by omega
    exact World.cell?_alloc_at _ _ _ 0 (by simp)⟩⟩
/-- Is there a stack of so many words? -/
def stkSize (n : Int) : Bool := decide (16 ≤ n) && isB n
theorem c_sizes1 (z : Int) (hz : in64 z) (w : World) : Calls Tryz.prog 128 #[.int .i64 z] w fun e w' => e = .returned (.bool (!stkSize z)) ∧ Below w.heap.size w w' := by
  obtain ⟨h0, h1⟩ := hz
  unfold stkSize
  by_cases hl : z < 16
  · rw [decide_eq_false (by omega), Bool.false_and]
    --@1
    go_enter Tryz.func128, Tryz.ntmps128
    go_wp2
    go_ret
    exact ⟨rfl, Below.refl _ _⟩
  · rw [decide_eq_true (by omega), Bool.true_and]
    have ci := fun W hc => num_is_one w.heap.size z W h0 h1 hc
    cases hb : isB z with
    | true =>
      rw [hb] at ci
      clear hb
      --@2
      go_enter Tryz.func128, Tryz.ntmps128
      go_wp2_with (first | (go_at_call 129; (with_reducible refine (ci _ (by simp)).mono ?_); rintro e w' ⟨rfl, rfl⟩))
      go_ret
      exact ⟨rfl, (Below.refl _ _).alloc (Nat.le_refl _) _⟩
    | false =>
      rw [hb] at ci
      clear hb
      --@3
      go_enter Tryz.func128, Tryz.ntmps128
      go_wp2_with (first | (go_at_call 129; (with_reducible refine (ci _ (by simp)).mono ?_); rintro e w' ⟨rfl, rfl⟩))
      go_ret
      exact ⟨rfl, (Below.refl _ _).alloc (Nat.le_refl _) _⟩
def badSizes (zs : List Int) (n : Nat) : Bool := (List.range n).any fun j => !stkSize (zs.getD j 0)
theorem c_sizes (A : Option Addr) (n c : Nat) (zs : List Int) (w : World) (hs : Sl w w.heap.size A n (zs.map iv)) (hx : ∀ x ∈ zs, in64 x) (hn : n ≤ 131072) :
    Calls Tryz.prog 59 #[.slice A n c] w fun e w' => e = .returned (.bool (!badSizes zs n)) ∧ Below w.heap.size w w' := by
  have c1 := code_ss_has (fun j => !stkSize (zs.getD j 0)) (fun _ W => Below w.heap.size w W) A n c zs w (Below.refl _ _) (fun j W hb => (hs.below hb).more hb.size) (fun j z W hz hb => by
    have hz2 : zs.getD j 0 = z := by rw [List.getD_eq_getElem?_getD, hz]; rfl
    rw [hz2]
    exact (c_sizes1 z (hx z (List.mem_of_getElem? hz)) W).mono fun e w' ⟨h1, h2⟩ => ⟨h1, hb.trans (h2.mono hb.size)⟩) hn
  rw [show ((List.range n).any fun j => !stkSize (zs.getD j 0)) = badSizes zs n from rfl] at c1
  have c2 : Calls Tryz.prog 103 #[.slice A n c, .func (.func 128) #[] #[]] w fun e w' => e = .returned (.bool (badSizes zs n)) ∧ Below w.heap.size w w' := c1.mono fun e w' ⟨h1, j, _, h2⟩ => ⟨h1, h2⟩
  clear c1 hs hx hn
  cases hb : badSizes zs n with
  | true =>
    rw [hb] at c2
    clear hb
    --@4
    go_enter Tryz.func59, Tryz.ntmps59
    go_wp2_with (first | (go_at_call 103; (with_reducible refine c2.mono ?_); rintro e w1 ⟨rfl, hb1⟩))
    go_ret
    exact ⟨rfl, hb1⟩
  | false =>
    rw [hb] at c2
    clear hb
    --@5
    go_enter Tryz.func59, Tryz.ntmps59
    go_wp2_with (first | (go_at_call 103; (with_reducible refine c2.mono ?_); rintro e w1 ⟨rfl, hb1⟩))
    go_ret
    exact ⟨rfl, hb1⟩
theorem c_size1 (z : Int) (hz : in64 z) (w : World) (b : Bool) (hb : stkSize z = b) : Calls Tryz.prog 59 #[.slice (some ⟨w.heap.size, 0, none⟩) 1 1] (w.alloc (.cells #[.int .i64 z] 3)) fun e w' => e = .returned (.bool b) ∧ Below w.heap.size w w' := by
  have hb0 : Below w.heap.size w (w.alloc (.cells #[.int .i64 z] 3)) := (Below.refl _ _).alloc (Nat.le_refl _) _
  have := c_sizes (some ⟨w.heap.size, 0, none⟩) 1 1 [z] (w.alloc (.cells #[.int .i64 z] 3)) (Sl.oneJ w z _) (fun x hx => by obtain rfl := List.mem_singleton.1 hx; exact hz) (by omega)
  rw [show badSizes [z] 1 = !stkSize z by show (!stkSize z || false) = _; simp, Bool.not_not, hb] at this
  exact this.mono fun e w' ⟨h1, h2⟩ => ⟨h1, hb0.trans (h2.mono hb0.size)⟩

/-- Procs$1: is there no such processor? -/
theorem c_procs1 (t : Nat) (u : Option Addr) (N z : Int) (w : World) (h : w.cell? ⟨t, 0, none⟩ = some (.pointer u)) (hN : ∀ a, u = some a → ∃ q, a = ⟨q, 0, none⟩ ∧ w.cell? ⟨q, 5, none⟩ = some (.int .i64 N)) (b : Bool) (hb : b = (decide (u = none) || decide (z < 0 ∨ N ≤ z))) :
    Calls Tryz.prog 127 #[.int .i64 z, .pointer (some ⟨t, 0, none⟩)] w fun e w' => e = .returned (.bool b) ∧ Below w.heap.size w w' := by
  cases u with
  | none =>
    obtain rfl : b = true := by rw [hb]; rfl
    clear hb hN
    --@6
    go_enter Tryz.func127, Tryz.ntmps127
    go_wp2
    go_ret
    exact ⟨rfl, Below.refl _ _⟩
  | some a =>
    obtain ⟨q, rfl, h5⟩ := hN a rfl
    have hb2 : b = decide (z < 0 ∨ N ≤ z) := by rw [hb]; rfl
    clear hN hb
    by_cases h0 : z < 0
    · obtain rfl : b = true := by rw [hb2]; exact decide_eq_true (Or.inl h0)
      clear hb2
      --@7
      go_enter Tryz.func127, Tryz.ntmps127
      go_wp2
      go_ret
      exact ⟨rfl, Below.refl _ _⟩
    · by_cases h1 : N ≤ z
      · obtain rfl : b = true := by rw [hb2]; exact decide_eq_true (Or.inr h1)
        clear hb2
        --@8
        go_enter Tryz.func127, Tryz.ntmps127
        go_wp2
        go_ret
        exact ⟨rfl, Below.refl _ _⟩
      · obtain rfl : b = false := by rw [hb2]; exact decide_eq_false (by omega)
        clear hb2
        --@9
        go_enter Tryz.func127, Tryz.ntmps127
        go_wp2
        go_ret
        exact ⟨rfl, Below.refl _ _⟩
/-- Procs. -/
theorem c_procs (u : Option Addr) (N : Int) (A : Option Addr) (n c : Nat) (zs : List Int) (w : World) (hN : ∀ W, Below w.heap.size w W → ∀ a, u = some a → ∃ q, a = ⟨q, 0, none⟩ ∧ W.cell? ⟨q, 5, none⟩ = some (.int .i64 N)) (hs : Sl w w.heap.size A n (zs.map iv)) (hn : n ≤ 131072) (b : Bool) (hb : b = (List.range n).any fun j => decide (u = none) || decide (zs.getD j 0 < 0 ∨ N ≤ zs.getD j 0)) :
    Calls Tryz.prog 58 #[.pointer u, .slice A n c] w fun e w' => e = .returned (.bool (!b)) ∧ Below w.heap.size w w' := by
  obtain ⟨W0, hW0⟩ : ∃ W0, W0 = w.alloc (.cells #[.pointer u] 83) := ⟨_, rfl⟩
  have hB : Below w.heap.size w W0 := by rw [hW0]; exact (Below.refl _ _).alloc (Nat.le_refl _) _
  have t2 : W0.cell? ⟨w.heap.size, 0, none⟩ = some (.pointer u) := by rw [hW0]; exact World.cell?_alloc_at _ _ _ 0 (by simp)
  have hlt : w.heap.size < W0.heap.size := lt_of_cell t2
  have hs0 := (hs.below hB).more hB.size
  have c1 := code_sp_has (t := w.heap.size) (fun j => decide (u = none) || decide (zs.getD j 0 < 0 ∨ N ≤ zs.getD j 0)) (fun _ W => Below W0.heap.size W0 W) A n c zs W0 (Below.refl _ _) (fun j W hb => (hs0.below hb).more hb.size) (fun j z W hz hb => by
    have hz2 : zs.getD j 0 = z := by rw [List.getD_eq_getElem?_getD, hz]; rfl
    rw [hz2]
    exact (c_procs1 w.heap.size u N z W ((hb.cell (p := ⟨w.heap.size, 0, none⟩) hlt).trans t2) (hN W (hB.trans (hb.mono hB.size))) _ rfl).mono fun e w' ⟨h1, h2⟩ => ⟨h1, hb.trans (h2.mono hb.size)⟩) hn
  rw [← hb] at c1
  have c2 : Calls Tryz.prog 103 #[.slice A n c, .func (.func 127) #[] #[.pointer (some ⟨w.heap.size, 0, none⟩)]] W0 fun e w' => e = .returned (.bool b) ∧ Below w.heap.size w w' := c1.mono fun e w' ⟨h1, j, _, h2⟩ => ⟨h1, hB.trans (h2.mono hB.size)⟩
  have HW0 := hidb hW0
  clear c1 hs hs0 hW0 hN hb hn t2 hB hlt
  cases b with
  | true =>
    --@10
    go_enter Tryz.func58, Tryz.ntmps58
    go_wp2_with (first
      | (go_at_call 103; rw [← HW0.out]; (with_reducible refine c2.mono ?_); rintro e w1 ⟨rfl, hb1⟩))
    go_ret
    exact ⟨rfl, hb1⟩
  | false =>
    --@11
    go_enter Tryz.func58, Tryz.ntmps58
    go_wp2_with (first
      | (go_at_call 103; rw [← HW0.out]; (with_reducible refine c2.mono ?_); rintro e w1 ⟨rfl, hb1⟩))
    go_ret
    exact ⟨rfl, hb1⟩
/-- Procs of one. -/
theorem c_proc1 (u : Option Addr) (N z : Int) (w : World) (hN : ∀ W, Below w.heap.size w W → ∀ a, u = some a → ∃ q, a = ⟨q, 0, none⟩ ∧ W.cell? ⟨q, 5, none⟩ = some (.int .i64 N)) (b : Bool) (hb : b = !(decide (u = none) || decide (z < 0 ∨ N ≤ z))) :
    Calls Tryz.prog 58 #[.pointer u, .slice (some ⟨w.heap.size, 0, none⟩) 1 1] (w.alloc (.cells #[.int .i64 z] 3)) fun e w' => e = .returned (.bool b) ∧ Below w.heap.size w w' := by
  have hb0 : Below w.heap.size w (w.alloc (.cells #[.int .i64 z] 3)) := (Below.refl _ _).alloc (Nat.le_refl _) _
  have := c_procs u N (some ⟨w.heap.size, 0, none⟩) 1 1 [z] (w.alloc (.cells #[.int .i64 z] 3)) (fun W hb => hN W (hb0.trans (hb.mono hb0.size))) (Sl.oneJ w z _) (by omega) (!b) (by rw [hb, Bool.not_not]; show _ = ((decide (u = none) || decide (z < 0 ∨ N ≤ z)) || false); simp)
  rw [Bool.not_not] at this
  exact this.mono fun e w' ⟨h1, h2⟩ => ⟨h1, hb0.trans (h2.mono hb0.size)⟩
end Go.Proofs.YtlcdgmjinhbncaaGreat
/- append as one step of a region that draws, which tells where the new row lies. No program is named here. -/
namespace Go.Proofs.YtlcdgmjinhbncaaGreat
open Go.RowKit Go.Maps
set_option linter.unusedVariables false

/-- append onto a row of the call's own, as one step of a region that draws: handed to go_region_law. -/
theorem step_append_ownA {P : Program} {ops : Array Oper} {o : Oper} {a : Act} {w : World} {K : Act → World → Prop} {Q : Exit → Act → World → Prop} {E : Prop}
    (hg : o.guard = none) (s x : Operand) (t : TypeId) (hop : o.op = Op.call { callee := Callee.builtin Builtin.append, args := #[s, x], argTypes := #[t, t] })
    (base : Nat) (e : TypeId) (i : TypeInfo) (z : Value) (size bytes : Nat) (ht : P.underlying t = some (.slice e)) (hi : P.info? e = some i) (hz : i.zero = some z)
    (hsize : i.size = size) (hby : i.bytes = bytes) (hzs : z.cells.size = size) (hsz : 0 < size)
    (v : Value) (n : Nat) (xs : List Value) (hs : a.eval s = v) (hown : w.ownsRow base e size v n xs)
    (ad : Addr) (m c : Nat) (news : List Value) (hx : a.eval x = .slice (some ad) m c) (hl : news.length = m * size) (hnews : ∀ j u, news[j]? = some u → w.cell? (ad.add j) = some u) (h1 : ∀ u ∈ news, u.oneCell' = true)
    (h63 : n + m ≤ maxLen) (hbytes : (n + m) * bytes ≤ 140737488355328) (hbase : base ≤ w.heap.size)
    (hK : ∀ A' c' w', w'.ownsRow base e size (.slice A' (n + m) c') (n + m) (xs ++ news) → w.grownBy w' v.ownBlock → ((Value.slice A' (n + m) c').ownBlock = v.ownBlock ∨ (Value.slice A' (n + m) c').ownBlock = some w.heap.size) → K (a.put o.dst (.slice A' (n + m) c')) w') :
    if Region.wanted o (yielded ops a.tmps) = true then Oper.wp P o a w K Q else E := by
  have hw : Region.wanted o (yielded ops a.tmps) = true := by simp [Region.wanted, hg]
  rw [if_pos hw]
  obtain ⟨v', w', hrun, r1, r2, _, r4⟩ := run_append_own_at (P := P) w base t o.type e i z size bytes ht hi hz hsize hby hzs hsz v n xs hown ad m c news hl hnews h1 h63 hbytes hbase
  obtain ⟨A', c', rfl⟩ : ∃ A c, v' = .slice A (n + m) c := by
    rcases r1.2 with ⟨rfl, h0⟩ | ⟨g, cap, cur, rfl, _⟩
    · exact ⟨none, 0, by rw [h0]⟩
    · exact ⟨_, _, rfl⟩
  unfold Oper.wp
  simp [execOp, hop, resolve, invoke, builtin, hs, hx, hrun, Result.andThen]
  exact hK A' c' w' r1 r2 r4

/-- append of a whole row, nil and empty ones too, onto a row of the call's own, as one step of a region that draws. -/
theorem step_append_rowA {P : Program} {ops : Array Oper} {o : Oper} {a : Act} {w : World} {K : Act → World → Prop} {Q : Exit → Act → World → Prop} {E : Prop}
    (hg : o.guard = none) (s x : Operand) (t : TypeId) (hop : o.op = Op.call { callee := Callee.builtin Builtin.append, args := #[s, x], argTypes := #[t, t] })
    (base : Nat) (e : TypeId) (i : TypeInfo) (z : Value) (size bytes : Nat) (ht : P.underlying t = some (.slice e)) (hi : P.info? e = some i) (hz : i.zero = some z)
    (hsize : i.size = size) (hby : i.bytes = bytes) (hzs : z.cells.size = size) (hsz : 0 < size)
    (v : Value) (n : Nat) (xs : List Value) (hs : a.eval s = v) (hown : w.ownsRow base e size v n xs) (hbase : base ≤ w.heap.size)
    (A : Option Addr) (m c : Nat) (news : List Value) (hx : a.eval x = .slice A m c) (hl : news.length = m * size) (hA : A = none → m = 0 ∧ c = 0)
    (hnews : CellsAt w A news) (h1 : ∀ u ∈ news, u.oneCell' = true) (h63 : n + m ≤ maxLen) (hbytes : (n + m) * bytes ≤ 140737488355328)
    (hK : ∀ A' c' w', w'.ownsRow base e size (.slice A' (n + m) c') (n + m) (xs ++ news) → w.grownBy w' v.ownBlock → ((Value.slice A' (n + m) c').ownBlock = v.ownBlock ∨ (Value.slice A' (n + m) c').ownBlock = some w.heap.size) → K (a.put o.dst (.slice A' (n + m) c')) w') :
    if Region.wanted o (yielded ops a.tmps) = true then Oper.wp P o a w K Q else E := by
  have hw : Region.wanted o (yielded ops a.tmps) = true := by simp [Region.wanted, hg]
  cases A with
  | some ad => exact step_append_ownA hg s x t hop base e i z size bytes ht hi hz hsize hby hzs hsz v n xs hs hown ad m c news hx hl (hnews ad rfl) h1 h63 hbytes hbase hK
  | none =>
    obtain ⟨rfl, rfl⟩ := hA rfl
    obtain rfl : news = [] := List.eq_nil_of_length_eq_zero (by rw [hl, Nat.zero_mul])
    rw [if_pos hw]
    obtain ⟨A', c', rfl⟩ : ∃ A c, v = .slice A n c := by
      rcases hown.2 with ⟨rfl, h0⟩ | ⟨g, cap, cur, rfl, _⟩
      · exact ⟨none, 0, by rw [h0]⟩
      · exact ⟨_, _, rfl⟩
    have hrun := run_append_owned_none (P := P) (w := w) base t o.type e i size ht hi _ n xs hown
    unfold Oper.wp
    simp [execOp, hop, resolve, invoke, builtin, hs, hx, hrun, Result.andThen]
    have := hK A' c' w (by rw [List.append_nil]; exact hown) ⟨rfl, rfl, rfl, Nat.le_refl _, fun _ _ _ => rfl⟩ (Or.inl rfl)
    rw [Nat.add_zero] at this
    exact this

end Go.Proofs.YtlcdgmjinhbncaaGreat
/- Layer 10: numbers of spans; slices.IndexFunc, ContainsFunc and DeleteFunc at spans, whatever the closure. -/
namespace Go.Proofs.YtlcdgmjinhbncaaGreat
open Go.RowKit Go.Maps
set_option linter.unusedVariables false

/-- append of one element that the call has just laid, where its block's number is spelled otherwise. -/
theorem wpList_append_oneB {P : Program} (w : World) {ops : Array Oper} {rest : List Oper} {o : Oper} {a : Act} {Q : Exit → Act → World → Prop} (b : Nat) (hb : b = w.heap.size) (hgd : o.guard = none) (s x : Operand) (t : TypeId)
    (ho : o.op = .call { callee := .builtin .append, args := #[s, x], argTypes := #[t, t] })
    (base : Nat) (e : TypeId) (i : TypeInfo) (z : Value) (bytes : Nat) (ht : P.underlying t = some (.slice e)) (hi : P.info? e = some i) (hz : i.zero = some z)
    (hsize : i.size = 1) (hby : i.bytes = bytes) (hzs : z.cells.size = 1)
    (v : Value) (n : Nat) (xs : List Value) (hs : a.eval s = v) (hown : w.ownsRow base e 1 v n xs) (hbase : base ≤ w.heap.size)
    (u : Value) (hu : u.oneCell' = true) (te : TypeId) (hx : a.eval x = .slice (some ⟨b, 0, none⟩) 1 1) (h63 : n + 1 ≤ maxLen) (hbytes : (n + 1) * bytes ≤ 140737488355328)
    (h : ∀ v' w', w'.ownsRow base e 1 v' (n + 1) (xs ++ [u]) → Below base w w' → wpList P ops Q rest (a.put o.dst v') w') : wpList P ops Q (o :: rest) a (w.alloc (.cells #[u] te)) := by
  subst hb
  exact wpList_append_one w hgd s x t ho base e i z bytes ht hi hz hsize hby hzs v n xs hs hown hbase u hu te hx h63 hbytes h
set_option maxRecDepth 100000 in
theorem code_lnumbers (A : Option Addr) (m c : Nat) (ds : List Spn) (w : World) (hs : Sn w w.heap.size A m ds) (hm : m ≤ 65536) :
    Calls Tryz.prog 178 #[.slice A m c] w (OwnInts w (ds.map (·.1))) := by
  obtain ⟨i0, hi, hz0, hz1, hz2⟩ := info_parts info_int
  have HS := hidb hs
  have HL : Hid (ds.length = m) := hidb hs.1
  clear hs
  go_enter Tryz.func178, Tryz.ntmps178
  go_wp2
  go_loopw [3, 5, 8] (fun v _ k wr => ∃ (j : Nat), j ≤ m ∧ k = .int .i64 j ∧ wr.ownsRow w.heap.size 3 1 v j ((ds.take j).map fun s => iv s.1) ∧ Below w.heap.size w wr) (fun _ _ k _ => (m - intOf k).toNat)
  case atStart => exact ⟨0, Nat.zero_le _, rfl, World.ownsRow_nil _ _ _ _, Below.refl _ _⟩
  case round =>
    obtain ⟨j, hj, rfl, hown, hbel⟩ := hrel
    by_cases hlt : j < m
    · obtain ⟨b, off, i, s, k, o, rfl, hx, hc0, hc1, hc2, hc3⟩ := Sn.span (RowOf.below HS.out hbel) hlt
      have hi0 : (0 : Int) ≤ (j : Int) := by omega
      have hi1 : (j : Int) < (m : Int) := by omega
      have HTK : Hid ((ds.take (j + 1)).map (fun s => iv s.1) = (ds.take j).map (fun s => iv s.1) ++ [.int .i64 i]) := hidb (by rw [List.take_add_one, hx, List.map_append]; rfl)
      have HB := hidb hbel
      have HOWN := hidb (own_below hown ((Below.refl _ _).alloc (Nat.le_refl _) (.cells #[.int .i64 i, .int .i64 s, .int .i64 k, .int .i64 o] 49)))
      have hsz := hbel.size
      have hsz1 : w.heap.size ≤ (wr.alloc (.cells #[.int .i64 i, .int .i64 s, .int .i64 k, .int .i64 o] 49)).heap.size := by simp; omega
      clear hbel hown hx
      go_wp2_with (first
        | (at_builtin; refine wpList_append_oneB _ (wr.heap.size + 1) (by simp) rfl _ _ 38 rfl w.heap.size 3 i0 (.int .i64 0) 8 Tryz.underlying38 hi hz0 hz1 hz2 rfl _ _ _ rfl (by exact HOWN.out) hsz1 (.int .i64 i) rfl _ rfl (by unfold maxLen; omega) (by omega) ?_; intro v3 w3 hown3 hb3))
      have HO := hidb hown3
      have HB3 : Hid (Below w.heap.size w w3) := hidb ((HB.out.alloc hsz _).trans hb3)
      clear hown3 hb3
      go_roundw
      case rel => exact ⟨j + 1, by omega, by go_num, by rw [HTK.out]; exact HO.out, HB3.out⟩
      case measure => simp [intOf]; omega
    · obtain ⟨A', c', rfl⟩ := own_form hown
      have P : Hid (OwnInts w (ds.map (·.1)) (.returned (.slice A' j c')) wr) := hidb (by
        have e : ds.take j = ds := List.take_of_length_le (by rw [HL.out]; omega)
        have hl : (ds.map (·.1)).length = j := by rw [List.length_map, HL.out]; omega
        rw [e] at hown
        refine ⟨A', c', by rw [hl], ?_, hbel⟩
        rw [hl, List.map_map]; exact hown)
      clear hown hbel
      go_wp2
      go_ret
      exact P.out

/-- slices.IndexFunc at spans, with a closure that reads or lays blocks. -/
theorem code_sidx (g : Nat) (cb : Array Value) (eg : ∀ args w, (callFunc g args).run Tryz.prog w = .ok (.enter g args) w) (q : Spn → Bool) (A : Option Addr) (n c : Nat) (ds : List Spn) (w : World) (hs : Sn w w.heap.size A n ds) (hn : n ≤ 4611686018427387903)
    (hq : ∀ W, Below w.heap.size w W → ∀ k ∈ ds, Calls Tryz.prog g (#[spv k] ++ cb) W fun e w' => e = .returned (.bool (q k)) ∧ Below W.heap.size W w') :
    Calls Tryz.prog 238 #[.slice A n c, .func (.func g) #[] cb] w fun e w' => (∃ r : Int, e = .returned (.int .i64 r) ∧ ((r = -1 ∧ ∀ k ∈ ds, q k = false) ∨ ∃ i : Nat, i < n ∧ r = i ∧ (∀ (j : Nat) x, j < i → ds[j]? = some x → q x = false) ∧ ∀ x, ds[i]? = some x → q x = true)) ∧ Below w.heap.size w w' := by
  have HL : Hid (ds.length = n) := hidb hs.1
  have HS := hidb hs
  have HQ := hidb hq
  clear hs hq
  go_enter Tryz.func238, Tryz.ntmps238
  go_wp2
  go_loopw [8] (fun k wr => ∃ j : Nat, j ≤ n ∧ Hid (∀ (i : Nat) x, i < j → ds[i]? = some x → q x = false) ∧ k = .int .i64 j ∧ Hid (Below w.heap.size w wr)) (fun k _ => (n - intOf k).toNat)
  case atStart => exact ⟨0, by omega, hidb (fun i x h => absurd h (Nat.not_lt_zero _)), rfl, hidb (Below.refl _ _)⟩
  case round =>
    obtain ⟨j, hj, HA, rfl, HB⟩ := hrel
    by_cases hlt : j < n
    · obtain ⟨b, off, i, s, k, o, rfl, hx, hc0, hc1, hc2, hc3⟩ := Sn.span (RowOf.below HS.out HB.out) hlt
      have c1 := HQ.out wr HB.out (i, s, k, o) (List.mem_of_getElem? hx)
      have hj0 : (0 : Int) ≤ (j : Int) := by omega
      have hj1 : (j : Int) < (n : Int) := by omega
      have HX := hidb hx
      clear hx
      unfold spv at c1
      simp only at c1
      cases hT : q (i, s, k, o) with
      | false =>
        rw [hT] at c1
        have HA2 : Hid (∀ (i : Nat) y, i < j + 1 → ds[i]? = some y → q y = false) := hidb (fun i' y hi hy => by
          by_cases h : i' = j
          · subst h
            rw [HX.out] at hy
            injection hy with hy
            rw [← hy]; exact hT
          · exact HA.out i' y (by omega) hy)
        clear hT
        go_wp2_with (first | (go_at_fn g; (with_reducible refine c1.mono ?_); rintro e w1 ⟨rfl, hb1⟩))
        go_roundw
        case rel => exact ⟨j + 1, by omega, HA2, by go_num, hidb (HB.out.trans (hb1.mono HB.out.size))⟩
        case measure => simp [intOf]; omega
      | true =>
        rw [hT] at c1
        have HF : Hid (∀ y, ds[j]? = some y → q y = true) := hidb (fun y hy => by
          rw [HX.out] at hy
          injection hy with hy
          rw [← hy]; exact hT)
        clear hT
        go_wp2_with (first | (go_at_fn g; (with_reducible refine c1.mono ?_); rintro e w1 ⟨rfl, hb1⟩))
        go_ret
        exact ⟨⟨j, rfl, Or.inr ⟨j, hlt, rfl, HA.out, HF.out⟩⟩, HB.out.trans (hb1.mono HB.out.size)⟩
    · have HF : Hid (∀ k ∈ ds, q k = false) := hidb (fun k hk => by
        obtain ⟨i, hi, e⟩ := List.mem_iff_getElem.1 hk
        exact HA.out i k (by have := HL.out; omega) (by rw [List.getElem?_eq_getElem hi, e]))
      go_wp2
      go_ret
      exact ⟨⟨-1, rfl, Or.inl ⟨rfl, HF.out⟩⟩, HB.out⟩
theorem code_scont (g : Nat) (cb : Array Value) (eg : ∀ args w, (callFunc g args).run Tryz.prog w = .ok (.enter g args) w) (q : Spn → Bool) (A : Option Addr) (n c : Nat) (ds : List Spn) (w : World) (hs : Sn w w.heap.size A n ds) (hn : n ≤ 4611686018427387903)
    (hq : ∀ W, Below w.heap.size w W → ∀ k ∈ ds, Calls Tryz.prog g (#[spv k] ++ cb) W fun e w' => e = .returned (.bool (q k)) ∧ Below W.heap.size W w') :
    Calls Tryz.prog 186 #[.slice A n c, .func (.func g) #[] cb] w fun e w' => e = .returned (.bool (ds.any q)) ∧ Below w.heap.size w w' := by
  have hl : ds.length = n := hs.1
  have ci : Calls Tryz.prog 238 #[.slice A n c, .func (.func g) #[] cb] w fun e w' => (∃ r : Int, e = .returned (.int .i64 r) ∧ decide (0 ≤ r) = ds.any q) ∧ Below w.heap.size w w' := by
    refine (code_sidx g cb eg q A n c ds w hs hn hq).mono ?_
    rintro e w' ⟨⟨r, rfl, h⟩, hb⟩
    refine ⟨⟨r, rfl, ?_⟩, hb⟩
    rcases h with ⟨rfl, h⟩ | ⟨i, hi, rfl, _, h⟩
    · have : ds.any q = false := List.any_eq_false.2 fun x hx => by rw [h x hx]; simp
      rw [this]; rfl
    · have : ds.any q = true := List.any_eq_true.2 ⟨_, List.getElem_mem (by omega : i < ds.length), h _ (List.getElem?_eq_getElem _)⟩
      rw [this]; exact decide_eq_true (by omega)
  obtain ⟨r, hr⟩ : ∃ r, ds.any q = r := ⟨_, rfl⟩
  rw [hr] at ci ⊢
  clear hr hq hs hl
  go_enter Tryz.func186, Tryz.ntmps186
  go_wp2_with (go_at_call 238; (with_reducible refine ci.mono ?_); rintro e w1 ⟨⟨k, rfl, hk⟩, hb1⟩)
  go_ret
  exact ⟨congrArg Ending.returned (congrArg Value.bool (by first | assumption | rfl)), hb1⟩

end Go.Proofs.YtlcdgmjinhbncaaGreat
