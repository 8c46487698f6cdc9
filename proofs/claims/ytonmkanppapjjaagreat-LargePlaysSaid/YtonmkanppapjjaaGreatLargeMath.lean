/- Plain facts on a keeper of large stacks: spans that are kept, spans that wait. No program is named here. -/
import Derived.Test.YtonmkanppapjjaaGreatPlain7
import Derived.Test.YtonmkanppapjjaaGreatNumMath
namespace Go.Proofs.YtonmkanppapjjaaGreat
set_option linter.unusedVariables false

abbrev Spn := Int × Int × Int × Int
/-- Its heap, the spans that are kept, those that wait, whether it is held. -/
structure LargeV where
  h : HeapV
  kept : List Spn
  waits : List Spn
  held : Bool

/-- Are there large stacks of so many pages? -/
def lFits (n : Int) : Bool := decide (4 ≤ n) && isB n
/-- Those of so many pages. -/
def lOf (l : List Spn) (n : Int) : List Spn := l.filter fun s => s.2.2.1 == n
def lTake (v : LargeV) (n : Int) : LargeV × Spn × Int :=
  if lFits n = false then (v, spanNone, 1) else
  match (lOf v.kept n).getLast? with
  | some s => ({ v with kept := v.kept.filter fun x => !decide (x = s) }, s, 0)
  | none => ({ v with h := (hMake v.h n (-1)).1 }, (hMake v.h n (-1)).2.1, (hMake v.h n (-1)).2.2)
/-- Is a span a large stack? -/
def lBig (s : Spn) : Bool := decide (s.2.2.2 = -1) && lFits s.2.2.1
/-- The large stack of a number. -/
def lStack (h : HeapV) (id : Int) : Option Spn := (h.l.find? fun s => s.1 == id).filter lBig
def lPut (v : LargeV) (s : Spn) : LargeV :=
  if v.held then { v with waits := v.waits ++ [s] } else
  if (lOf v.kept s.2.2.1).length < 2 then { v with kept := v.kept ++ [s] } else
  { v with h := (hDrop v.h [s.1]).1 }
/-- The large stacks of numbers; none, if one isn't there, or is named twice. -/
def lAsk (h : HeapV) : List Int → List Spn → Option (List Spn)
  | [], l => some l
  | i :: ids, l => match lStack h i with
    | none => none
    | some s => if s ∈ l then none else lAsk h ids (l ++ [s])
def lGive (v : LargeV) (ids : List Int) : LargeV × Int :=
  match lAsk v.h ids [] with
  | none => (v, 6)
  | some l => if l.any (fun s => decide (s ∈ v.kept ++ v.waits)) then (v, 9) else (l.foldl lPut v, 0)
def lHold (v : LargeV) (on : Bool) : LargeV := if on then { v with held := true } else ⟨(hDrop v.h (v.waits.map (·.1))).1, v.kept, [], false⟩
def lFlush (v : LargeV) : LargeV := { v with h := (hDrop v.h (v.kept.map (·.1))).1, kept := [] }

/-- What is true of a keeper all the time. -/
structure LOk (v : LargeV) : Prop where
  hok : HOk v.h
  mem : ∀ s ∈ v.kept ++ v.waits, s ∈ v.h.l ∧ lBig s = true
  nd : (v.kept ++ v.waits).Nodup
  calm : v.held = false → v.waits = []

theorem HOk.inj {h : HeapV} (k : HOk h) {a b : Spn} (ha : a ∈ h.l) (hb : b ∈ h.l) (e : a.1 = b.1) : a = b := ids_inj k.ids ha hb e
theorem lStack_some {h : HeapV} (k : HOk h) {id : Int} {s : Spn} (e : lStack h id = some s) : s ∈ h.l ∧ s.1 = id ∧ lBig s = true := by
  unfold lStack at e
  rw [Option.filter_eq_some_iff] at e
  obtain ⟨e1, e2⟩ := e
  exact ⟨List.mem_of_find?_eq_some e1, by simpa using List.find?_some e1, e2⟩
theorem lStack_of {h : HeapV} (k : HOk h) {s : Spn} (hs : s ∈ h.l) (hb : lBig s = true) : lStack h s.1 = some s := by
  unfold lStack
  rw [Option.filter_eq_some_iff]
  refine ⟨?_, hb⟩
  cases e : h.l.find? (fun x => x.1 == s.1) with
  | none =>
    have := List.find?_eq_none.1 e s hs
    simp at this
  | some t => rw [k.inj (List.mem_of_find?_eq_some e) hs (by simpa using List.find?_some e)]
theorem ids_of {h : HeapV} (k : HOk h) {l : List Spn} (hm : ∀ s ∈ l, s ∈ h.l) (hd : l.Nodup) : (l.map (·.1)).Nodup := by
  rw [List.Nodup, List.pairwise_map]
  exact hd.imp_of_mem fun {a b} ha hb hne e => hne (k.inj (hm a ha) (hm b hb) e)
/-- A drop of spans that are there. -/
theorem hDrop_those {h : HeapV} (k : HOk h) {l : List Spn} (hm : ∀ s ∈ l, s ∈ h.l) (hd : l.Nodup) : ∃ g, hDrop h (l.map (·.1)) = (⟨h.pages, g, hLeft h.l (l.map (·.1)), h.last⟩, 0) ∧ HOk ⟨h.pages, g, hLeft h.l (l.map (·.1)), h.last⟩ :=
  hDrop_yes k ⟨ids_of k hm hd, fun i hi => by
    obtain ⟨s, hs, rfl⟩ := List.mem_map.1 hi
    exact ⟨s, hm s hs, rfl⟩⟩
theorem left_those {h : HeapV} (k : HOk h) {l : List Spn} (hm : ∀ s ∈ l, s ∈ h.l) (s : Spn) : s ∈ hLeft h.l (l.map (·.1)) ↔ s ∈ h.l ∧ s ∉ l := by
  rw [hLeft_mem]
  constructor
  · rintro ⟨h1, h2⟩
    exact ⟨h1, fun c => h2 (List.mem_map.2 ⟨s, c, rfl⟩)⟩
  · rintro ⟨h1, h2⟩
    refine ⟨h1, fun c => h2 ?_⟩
    obtain ⟨t, ht, e⟩ := List.mem_map.1 c
    rw [← k.inj (hm t ht) h1 e]; exact ht

section
variable {v : LargeV}
theorem LOk.keptm (o : LOk v) : ∀ s ∈ v.kept, s ∈ v.h.l ∧ lBig s = true := fun s hs => o.mem s (List.mem_append_left _ hs)
theorem LOk.waitsm (o : LOk v) : ∀ s ∈ v.waits, s ∈ v.h.l ∧ lBig s = true := fun s hs => o.mem s (List.mem_append_right _ hs)
theorem LOk.ndk (o : LOk v) : v.kept.Nodup := (List.nodup_append.1 o.nd).1
theorem LOk.ndw (o : LOk v) : v.waits.Nodup := (List.nodup_append.1 o.nd).2.1
theorem LOk.apart (o : LOk v) {s : Spn} (h : s ∈ v.kept) : s ∉ v.waits := fun c => (List.nodup_append.1 o.nd).2.2 s h s c rfl
/-- The heap makes a span. -/
theorem LOk.heap (o : LOk v) {h' : HeapV} (k : HOk h') (hm : ∀ s ∈ v.h.l, s ∈ h'.l) : LOk { v with h := h' } := ⟨k, fun s hs => ⟨hm s (o.mem s hs).1, (o.mem s hs).2⟩, o.nd, o.calm⟩
theorem hMake_more {h : HeapV} (n o : Int) : ∀ s ∈ h.l, s ∈ (hMake h n o).1.l := fun s hs => by
  unfold hMake
  split
  · exact hs
  · split
    · exact hs
    · exact List.mem_append_left _ hs
theorem LOk.make (o : LOk v) (n r : Int) : LOk { v with h := (hMake v.h n r).1 } := o.heap (hMake_ok o.hok n r).1 (hMake_more n r)
theorem LOk.take (o : LOk v) (n : Int) : LOk (lTake v n).1 := by
  unfold lTake
  split
  · exact o
  · split
    · refine ⟨o.hok, fun s hs => o.mem s ?_, ?_, o.calm⟩
      · rcases List.mem_append.1 hs with h | h
        · exact List.mem_append_left _ (List.mem_filter.1 h).1
        · exact List.mem_append_right _ h
      · exact o.nd.sublist (List.filter_sublist.append (List.Sublist.refl _))
    · exact o.make n (-1)
/-- A span that is there, a large stack, neither kept nor waiting. -/
def Out (v : LargeV) (s : Spn) : Prop := s ∈ v.h.l ∧ lBig s = true ∧ s ∉ v.kept ++ v.waits
theorem LOk.put (o : LOk v) {s : Spn} (h : Out v s) : LOk (lPut v s) ∧ (lPut v s).held = v.held ∧ (∀ t, t ≠ s → Out v t → Out (lPut v s) t) ∧ (∀ t ∈ (lPut v s).h.l, t ∈ v.h.l) ∧ (∀ t ∈ (lPut v s).h.l, t = s ∨ t ∈ v.kept ++ v.waits → t ∈ (lPut v s).kept ++ (lPut v s).waits) ∧
    ((lPut v s).h.pages = v.h.pages ∧ (lPut v s).h.last = v.h.last) := by
  obtain ⟨h1, h2, h3⟩ := h
  have h4 : s ∉ v.kept := fun c => h3 (List.mem_append_left _ c)
  have h5 : s ∉ v.waits := fun c => h3 (List.mem_append_right _ c)
  unfold lPut
  split
  · rename_i c
    have e : v.kept ++ (v.waits ++ [s]) = (v.kept ++ v.waits) ++ [s] := by rw [List.append_assoc]
    refine ⟨⟨o.hok, fun t ht => ?_, ?_, fun c2 => by rw [c] at c2; cases c2⟩, rfl, fun t hne ⟨a, b, d⟩ => ⟨a, b, fun q => ?_⟩, fun t ht => ht, fun t ht q => ?_, rfl, rfl⟩
    · rw [e] at ht
      rcases List.mem_append.1 ht with h | h
      · exact o.mem t h
      · obtain rfl := List.mem_singleton.1 h
        exact ⟨h1, h2⟩
    · show (v.kept ++ (v.waits ++ [s])).Nodup
      rw [e, List.nodup_append]
      exact ⟨o.nd, (by simp), fun a ha b hb e2 => h3 (by obtain rfl := List.mem_singleton.1 hb; subst e2; exact ha)⟩
    · have q2 : t ∈ v.kept ++ (v.waits ++ [s]) := q
      rw [e] at q2
      rcases List.mem_append.1 q2 with h | h
      · exact d h
      · exact hne (List.mem_singleton.1 h)
    · show t ∈ v.kept ++ (v.waits ++ [s])
      rw [e]
      rcases q with rfl | q
      · exact List.mem_append_right _ (List.mem_singleton.2 rfl)
      · exact List.mem_append_left _ q
  · rename_i c
    have hw : v.waits = [] := o.calm (by simpa using c)
    split
    · refine ⟨⟨o.hok, fun t ht => ?_, ?_, o.calm⟩, rfl, fun t hne ⟨a, b, d⟩ => ⟨a, b, fun q => ?_⟩, fun t ht => ht, fun t ht q => ?_, rfl, rfl⟩
      · have ht2 : t ∈ (v.kept ++ [s]) ++ v.waits := ht
        rw [hw, List.append_nil] at ht2
        rcases List.mem_append.1 ht2 with h | h
        · exact o.keptm t h
        · obtain rfl := List.mem_singleton.1 h
          exact ⟨h1, h2⟩
      · show ((v.kept ++ [s]) ++ v.waits).Nodup
        rw [hw, List.append_nil, List.nodup_append]
        exact ⟨o.ndk, (by simp), fun a ha b hb e => h4 (by obtain rfl := List.mem_singleton.1 hb; subst e; exact ha)⟩
      · have q2 : t ∈ (v.kept ++ [s]) ++ v.waits := q
        rw [hw, List.append_nil] at q2
        rcases List.mem_append.1 q2 with h | h
        · exact d (List.mem_append_left _ h)
        · exact hne (List.mem_singleton.1 h)
      · show t ∈ (v.kept ++ [s]) ++ v.waits
        rcases q with rfl | q
        · exact List.mem_append_left _ (List.mem_append_right _ (List.mem_singleton.2 rfl))
        · rcases List.mem_append.1 q with q | q
          · exact List.mem_append_left _ (List.mem_append_left _ q)
          · exact List.mem_append_right _ q
    · obtain ⟨g, e1, e2⟩ := hDrop_those o.hok (l := [s]) (fun t ht => by obtain rfl := List.mem_singleton.1 ht; exact h1) (by simp)
      have hl := left_those o.hok (l := [s]) (fun t ht => by obtain rfl := List.mem_singleton.1 ht; exact h1)
      have e1' : hDrop v.h [s.1] = (⟨v.h.pages, g, hLeft v.h.l [s.1], v.h.last⟩, 0) := e1
      rw [e1']
      have hl' : ∀ t, t ∈ hLeft v.h.l [s.1] ↔ t ∈ v.h.l ∧ t ∉ [s] := hl
      refine ⟨⟨e2, fun t ht => ⟨(hl' t).2 ⟨(o.mem t ht).1, fun q => ?_⟩, (o.mem t ht).2⟩, o.nd, o.calm⟩, rfl, fun t hne ⟨a, b, d⟩ => ⟨(hl' t).2 ⟨a, fun q => hne (List.mem_singleton.1 q)⟩, b, d⟩, fun t ht => ((hl' t).1 ht).1, fun t ht q => ?_, rfl, rfl⟩
      · exact h3 (List.mem_singleton.1 q ▸ ht)
      · rcases q with rfl | q
        · exact absurd (List.mem_singleton.2 rfl) ((hl' t).1 ht).2
        · exact q
theorem LOk.puts : ∀ {l : List Spn} {v : LargeV}, LOk v → l.Nodup → (∀ s ∈ l, Out v s) → LOk (l.foldl lPut v) ∧ (l.foldl lPut v).held = v.held ∧ (∀ t ∈ (l.foldl lPut v).h.l, t ∈ v.h.l) ∧ (∀ t ∈ (l.foldl lPut v).h.l, t ∈ l ∨ t ∈ v.kept ++ v.waits → t ∈ (l.foldl lPut v).kept ++ (l.foldl lPut v).waits) ∧ ((l.foldl lPut v).h.pages = v.h.pages ∧ (l.foldl lPut v).h.last = v.h.last)
  | [], v, o, _, _ => ⟨o, rfl, fun _ h => h, fun t _ h => h.elim (fun c => by cases c) id, rfl, rfl⟩
  | s :: l, v, o, hd, hm => by
    obtain ⟨p1, p2, p3, p4, p5, p6, p7⟩ := o.put (hm s (List.mem_cons_self ..))
    have hd2 := List.nodup_cons.1 hd
    obtain ⟨q1, q2, q3, q4, q5, q6⟩ := LOk.puts (l := l) p1 hd2.2 fun t ht => p3 t (fun e => hd2.1 (e ▸ ht)) (hm t (List.mem_cons_of_mem _ ht))
    refine ⟨q1, q2.trans p2, fun t ht => p4 t (q3 t ht), fun t ht h => q4 t ht ?_, q5.trans p6, q6.trans p7⟩
    rcases h with h | h
    · rcases List.mem_cons.1 h with rfl | h
      · exact Or.inr (p5 t (q3 t ht) (Or.inl rfl))
      · exact Or.inl h
    · exact Or.inr (p5 t (q3 t ht) (Or.inr h))
theorem lAsk_some {h : HeapV} (k : HOk h) : ∀ {ids : List Int} {l l' : List Spn}, lAsk h ids l = some l' → l.Nodup → (∀ s ∈ l, s ∈ h.l ∧ lBig s = true) → l'.Nodup ∧ (∀ s ∈ l', s ∈ h.l ∧ lBig s = true) ∧ l'.map (·.1) = l.map (·.1) ++ ids
  | [], l, l', e, hd, hm => by
    obtain rfl : l = l' := Option.some.inj e
    exact ⟨hd, hm, by simp⟩
  | i :: ids, l, l', e, hd, hm => by
    unfold lAsk at e
    cases c : lStack h i with
    | none => rw [c] at e; cases e
    | some s =>
      rw [c] at e
      simp only at e
      obtain ⟨h1, h2, h3⟩ := lStack_some k c
      by_cases d : s ∈ l
      · rw [if_pos d] at e; cases e
      · rw [if_neg d] at e
        obtain ⟨q1, q2, q3⟩ := lAsk_some k e (by
          rw [List.nodup_append]
          exact ⟨hd, (by simp), fun a ha b hb e2 => d (by obtain rfl := List.mem_singleton.1 hb; subst e2; exact ha)⟩) (fun t ht => by
          rcases List.mem_append.1 ht with h | h
          · exact hm t h
          · obtain rfl := List.mem_singleton.1 h
            exact ⟨h1, h3⟩)
        refine ⟨q1, q2, ?_⟩
        rw [q3, List.map_append, List.append_assoc, ← h2]; rfl
/-- Of spans that are there, each told once. -/
theorem lAsk_of {h : HeapV} (k : HOk h) : ∀ {m l : List Spn}, (l ++ m).Nodup → (∀ s ∈ m, s ∈ h.l ∧ lBig s = true) → lAsk h (m.map (·.1)) l = some (l ++ m)
  | [], l, _, _ => by rw [List.append_nil]; rfl
  | s :: m, l, hd, hm => by
    have hs := hm s (List.mem_cons_self ..)
    rw [List.map_cons]
    unfold lAsk
    rw [lStack_of k hs.1 hs.2]
    simp only
    have e : l ++ s :: m = (l ++ [s]) ++ m := by rw [List.append_assoc]; rfl
    rw [if_neg (fun c => (List.nodup_append.1 hd).2.2 s c s (List.mem_cons_self ..) rfl), e]
    exact lAsk_of k (by rw [← e]; exact hd) (fun t ht => hm t (List.mem_cons_of_mem _ ht))
theorem lGive_spec (o : LOk v) (ids : List Int) : ((lGive v ids).1 = v ∧ ((lGive v ids).2 = 6 ∨ (lGive v ids).2 = 9)) ∨ ∃ l, lAsk v.h ids [] = some l ∧ l.map (·.1) = ids ∧ l.Nodup ∧ (∀ s ∈ l, Out v s) ∧ lGive v ids = (l.foldl lPut v, 0) := by
  unfold lGive
  cases e : lAsk v.h ids [] with
  | none => exact Or.inl ⟨rfl, Or.inl rfl⟩
  | some l =>
    simp only
    obtain ⟨h1, h2, h3⟩ := lAsk_some o.hok e List.nodup_nil (fun s hs => by cases hs)
    by_cases c : (l.any fun s => decide (s ∈ v.kept ++ v.waits)) = true
    · rw [if_pos c]; exact Or.inl ⟨rfl, Or.inr rfl⟩
    · rw [if_neg c]
      refine Or.inr ⟨l, rfl, h3, h1, fun s hs => ⟨(h2 s hs).1, (h2 s hs).2, fun q => c ?_⟩, rfl⟩
      exact List.any_eq_true.2 ⟨s, hs, decide_eq_true q⟩
theorem LOk.give (o : LOk v) (ids : List Int) : LOk (lGive v ids).1 ∧ (lGive v ids).1.held = v.held ∧ ((lGive v ids).1.h.pages = v.h.pages ∧ (lGive v ids).1.h.last = v.h.last) := by
  rcases lGive_spec o ids with ⟨e, _⟩ | ⟨l, _, _, h1, h2, e⟩
  · rw [e]; exact ⟨o, rfl, rfl, rfl⟩
  · rw [e]
    obtain ⟨q1, q2, _, _, q5⟩ := LOk.puts o h1 h2
    exact ⟨q1, q2, q5⟩
theorem LOk.hold (o : LOk v) (on : Bool) : LOk (lHold v on) := by
  unfold lHold
  split
  · exact ⟨o.hok, o.mem, o.nd, fun c => by cases c⟩
  · obtain ⟨g, e1, e2⟩ := hDrop_those o.hok (fun s hs => (o.waitsm s hs).1) o.ndw
    rw [e1]
    refine ⟨e2, fun s hs => ?_, ?_, fun _ => rfl⟩
    · have hs2 : s ∈ v.kept ++ [] := hs
      rw [List.append_nil] at hs2
      exact ⟨(left_those o.hok (fun s hs => (o.waitsm s hs).1) s).2 ⟨(o.keptm s hs2).1, o.apart hs2⟩, (o.keptm s hs2).2⟩
    · show (v.kept ++ []).Nodup
      rw [List.append_nil]; exact o.ndk
theorem LOk.flush (o : LOk v) : LOk (lFlush v) := by
  unfold lFlush
  obtain ⟨g, e1, e2⟩ := hDrop_those o.hok (fun s hs => (o.keptm s hs).1) o.ndk
  rw [e1]
  refine ⟨e2, fun s hs => ?_, o.ndw, o.calm⟩
  have hs2 : s ∈ v.waits := hs
  exact ⟨(left_those o.hok (fun s hs => (o.keptm s hs).1) s).2 ⟨(o.waitsm s hs2).1, fun c => o.apart c hs2⟩, (o.waitsm s hs2).2⟩
end

end Go.Proofs.YtonmkanppapjjaaGreat
