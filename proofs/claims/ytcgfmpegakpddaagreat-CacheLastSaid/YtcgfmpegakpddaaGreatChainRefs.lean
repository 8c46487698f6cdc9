/- Several texts in one: ChainMath, ChainRef, ChainWith, ChainPush. -/
import Derived.Test.YtcgfmpegakpddaaGreatRowWords
import Derived.Test.YtcgfmpegakpddaaGreatIntsRef
import Derived.Test.YtcgfmpegakpddaaGreatRows7
/- Plain facts on layer 8 (chain): chains that stand in words. No program is named here. -/
namespace Go.Proofs.YtcgfmpegakpddaaGreat

/-- The rest of a chain's addresses, from h on, behind those in out; none: it isn't right. -/
def cGo (w : List Nat) (len : Int) : Nat → Int → List Int → Option (List Int)
  | 0, _, _ => none
  | k + 1, h, out =>
    if h = 0 then (if (out.length : Int) = len then some out else none)
    else if h < 0 ∨ (w.length : Int) < h ∨ (h - 1) ∈ out ∨ len ≤ (out.length : Int) then none
    else if w.length < w.getD (h - 1).toNat 0 then none
    else cGo w len k (w.getD (h - 1).toNat 0 : Nat) (out ++ [h - 1])
/-- A chain's addresses (its Head, its Len). -/
def cList (w : List Nat) (c : Int × Int) : Option (List Int) := cGo w c.2 (c.2.toNat + 1) c.1 []
/-- One block more, in front. -/
def cStep (s : List Nat × (Int × Int)) (a : Int) : List Nat × (Int × Int) := (s.1.set a.toNat s.2.1.toNat, (a + 1, s.2.2 + 1))
def cAll (s : List Nat × (Int × Int)) (at' : List Int) : List Nat × (Int × Int) := at'.foldl cStep s
def cIn (n : Nat) (at' : List Int) : Bool := at'.all fun a => decide (0 ≤ a ∧ a < (n : Int))
def cClash (l at' : List Int) : Bool := (List.range at'.length).any fun i => decide (at'.getD i 0 ∈ l ∨ at'.getD i 0 ∈ at'.take i)
def cPush (w : List Nat) (c : Int × Int) (at' : List Int) : List Nat × (Int × Int) × Int :=
  match cList w c with
  | none => (w, c, 9)
  | some l => if cIn w.length at' then (if cClash l at' then (w, c, 1) else ((cAll (w, c) at').1, (cAll (w, c) at').2, 0)) else (w, c, 2)
/-- The chain l, without a. -/
def cWithout (w : List Nat) (l : List Int) (a : Int) : List Nat × (Int × Int) := cAll (w.set a.toNat 0, (0, 0)) (l.reverse.filter (fun x => x != a))
def cRemove (w : List Nat) (c : Int × Int) (a : Int) : List Nat × (Int × Int) × Int :=
  match cList w c with
  | none => (w, c, 9)
  | some l => if a ∈ l then ((cWithout w l a).1, (cWithout w l a).2, 0) else (w, c, 6)
def cPop (w : List Nat) (c : Int × Int) : List Nat × (Int × Int) × Int × Int :=
  match cList w c with
  | none => (w, c, 0, 9)
  | some [] => (w, c, 0, 6)
  | some (a :: l) => ((cWithout w (a :: l) a).1, (cWithout w (a :: l) a).2, a, 0)

theorem cGo_zero (w : List Nat) (len : Int) (k : Nat) (out : List Int) : cGo w len (k + 1) 0 out = if (out.length : Int) = len then some out else none := by simp [cGo]
theorem cGo_bad (w : List Nat) (len : Int) (k : Nat) (h : Int) (out : List Int) (h0 : h ≠ 0) (h1 : h < 0 ∨ (w.length : Int) < h ∨ (h - 1) ∈ out ∨ len ≤ (out.length : Int)) : cGo w len (k + 1) h out = none := by
  unfold cGo; rw [if_neg h0, if_pos h1]
theorem cGo_far (w : List Nat) (len : Int) (k : Nat) (h : Int) (out : List Int) (x : Nat) (h0 : h ≠ 0) (hx : w[(h - 1).toNat]? = some x) (h2 : w.length < x) : cGo w len (k + 1) h out = none := by
  have e : w.getD (h - 1).toNat 0 = x := by rw [List.getD_eq_getElem?_getD, hx]; rfl
  unfold cGo
  rw [if_neg h0]
  split
  · rfl
  · rw [e, if_pos h2]
theorem cGo_next (w : List Nat) (len : Int) (k : Nat) (h : Int) (out : List Int) (x : Nat) (h0 : h ≠ 0) (h1 : ¬ (h < 0 ∨ (w.length : Int) < h ∨ (h - 1) ∈ out ∨ len ≤ (out.length : Int))) (hx : w[(h - 1).toNat]? = some x) (h2 : ¬ w.length < x) : cGo w len (k + 1) h out = cGo w len k (x : Int) (out ++ [h - 1]) := by
  have e : w.getD (h - 1).toNat 0 = x := by rw [List.getD_eq_getElem?_getD, hx]; rfl
  conv => lhs; unfold cGo
  rw [if_neg h0, if_neg h1, e, if_neg h2]

/-- Different numbers below n are at most n. -/
theorem nodup_le : ∀ (n : Nat) (l : List Int), l.Nodup → (∀ x ∈ l, 0 ≤ x ∧ x < (n : Int)) → l.length ≤ n
  | 0, l, _, h => by
    cases l with
    | nil => exact Nat.le_refl _
    | cons a l => have := h a (List.mem_cons_self ..); omega
  | n + 1, l, hd, h => by
    have h1 := nodup_le n (l.erase (n : Int)) (hd.erase _) (fun x hx => by
      have h2 := h x (List.mem_of_mem_erase hx)
      have h3 : x ≠ (n : Int) := fun e => by subst e; exact absurd hx (by rw [hd.mem_erase_iff]; simp)
      omega)
    rw [List.length_erase] at h1
    split at h1 <;> omega
/-- What a chain's addresses are: different ones, in so many words. -/
theorem cGo_some {w : List Nat} {len : Int} : ∀ {k : Nat} {h : Int} {out l : List Int}, out.Nodup → (∀ x ∈ out, 0 ≤ x ∧ x < (w.length : Int)) → cGo w len k h out = some l → l.Nodup ∧ (∀ x ∈ l, 0 ≤ x ∧ x < (w.length : Int)) ∧ (l.length : Int) = len
  | 0, h, out, l, _, _, e => by cases e
  | k + 1, h, out, l, hd, hb, e => by
    unfold cGo at e
    split at e
    · split at e
      · rename_i h1
        obtain rfl := Option.some.inj e
        exact ⟨hd, hb, h1⟩
      · cases e
    · split at e
      · cases e
      · split at e
        · cases e
        · rename_i h0 h1 _
          simp only [not_or] at h1
          refine cGo_some (List.nodup_append.2 ⟨hd, by simp, fun a ha b hb' => ?_⟩) (fun x hx => ?_) e
          · obtain rfl := List.mem_singleton.1 hb'
            exact fun e => h1.2.2.1 (e ▸ ha)
          · rcases List.mem_append.1 hx with hx | hx
            · exact hb x hx
            · obtain rfl := List.mem_singleton.1 hx
              omega
theorem cList_some {w : List Nat} {c : Int × Int} {l : List Int} (h : cList w c = some l) : l.Nodup ∧ (∀ x ∈ l, 0 ≤ x ∧ x < (w.length : Int)) ∧ (l.length : Int) = c.2 := cGo_some List.nodup_nil (fun x hx => by cases hx) h

theorem cStep_length (s : List Nat × (Int × Int)) (a : Int) : (cStep s a).1.length = s.1.length := List.length_set ..
theorem cAll_snoc (s : List Nat × (Int × Int)) (l : List Int) (a : Int) : cAll s (l ++ [a]) = cStep (cAll s l) a := by unfold cAll; rw [List.foldl_append]; rfl
theorem cAll_length : ∀ (l : List Int) (s : List Nat × (Int × Int)), (cAll s l).1.length = s.1.length
  | [], _ => rfl
  | a :: l, s => (cAll_length l (cStep s a)).trans (cStep_length s a)
theorem cAll_count : ∀ (l : List Int) (s : List Nat × (Int × Int)), (cAll s l).2.2 = s.2.2 + l.length
  | [], s => by simp [cAll]
  | a :: l, s => by
    have := cAll_count l (cStep s a)
    show (cAll (cStep s a) l).2.2 = _
    rw [this]; simp only [cStep, List.length_cons]; omega
theorem cAll_head (l : List Int) (s : List Nat × (Int × Int)) (n : Nat) (hs : 0 ≤ s.2.1 ∧ s.2.1 ≤ (n : Int)) (h : ∀ x ∈ l, 0 ≤ x ∧ x < (n : Int)) : 0 ≤ (cAll s l).2.1 ∧ (cAll s l).2.1 ≤ (n : Int) := by
  induction l generalizing s with
  | nil => exact hs
  | cons a l ih =>
    have ha := h a (List.mem_cons_self ..)
    exact ih (cStep s a) (by show 0 ≤ a + 1 ∧ a + 1 ≤ (n : Int); omega) (fun x hx => h x (List.mem_cons_of_mem _ hx))
theorem cList_head {w : List Nat} {c : Int × Int} {l : List Int} (h : cList w c = some l) : 0 ≤ c.1 ∧ c.1 ≤ (w.length : Int) := by
  unfold cList cGo at h
  split at h
  · omega
  · split at h
    · cases h
    · rename_i h1
      simp only [not_or] at h1
      omega

end Go.Proofs.YtcgfmpegakpddaaGreat

/- What each function of the document's own answers to layer 8 (chain) returns. -/
namespace Go.Proofs.YtcgfmpegakpddaaGreat
open Go.RowKit
set_option linter.unusedVariables false

/-- A chain's addresses, and whether it is right. -/
def ResChain (w : World) (r : Option (List Int)) (e : Ending) (w' : World) : Prop :=
  ∃ A n c out, e = .returned (.tuple #[.slice A n c, .bool r.isSome]) ∧ Sl w' w'.heap.size A n (out.map iv) ∧ (∀ l, r = some l → out = l) ∧ Below w.heap.size w w' ∧ ∀ a, A = some a → 0 < n → w.heap.size ≤ a.block

end Go.Proofs.YtcgfmpegakpddaaGreat

/- What 'with' of the document's own answers to layer 8 (chain) returns: words with another one. -/
namespace Go.Proofs.YtcgfmpegakpddaaGreat
open Go.RowKit
set_option linter.unusedVariables false

end Go.Proofs.YtcgfmpegakpddaaGreat

/- What Push of the document's own answers to layer 8 (chain) returns. -/
namespace Go.Proofs.YtcgfmpegakpddaaGreat
open Go.RowKit
set_option linter.unusedVariables false

theorem Sl.take_ {w : World} {B n : Nat} {A : Option Addr} {zs : List Int} (h : Sl w B A n (zs.map iv)) {j : Nat} (hj : j ≤ n) : Sl w B A j ((zs.take j).map iv) := by
  have hl : zs.length = n := by have := h.1; simpa using this
  refine ⟨by rw [List.length_map, List.length_take]; omega, fun h0 => ?_⟩
  obtain ⟨b, off, e, hb, hc⟩ := h.2 (by omega)
  refine ⟨b, off, e, hb, fun i hi => ?_⟩
  rw [hc i (by omega), List.getElem?_map, List.getElem?_map, List.getElem?_take_of_lt hi]
/-- Words, a chain and an error's number that a call answers. -/
def ResC (Aa : Option Addr) (w : World) (n : Nat) (r : List Nat × (Int × Int) × Int) (e : Ending) (w' : World) : Prop :=
  ∃ A c, e = .returned (.tuple #[.slice A n c, .agg #[.int .i64 r.2.1.1, .int .i64 r.2.1.2], .int .i64 r.2.2]) ∧ Sl w' w'.heap.size A n (r.1.map wv) ∧ Below w.heap.size w w' ∧ (A = Aa ∨ ∀ a, A = some a → w.heap.size ≤ a.block)

theorem cClash_no {l at' : List Int} (h : ∀ i, i < at'.length → at'.getD i 0 ∉ l ∧ at'.getD i 0 ∉ at'.take i) : cClash l at' = false := by
  unfold cClash
  rw [List.any_eq_false]
  intro i hi
  have := h i (List.mem_range.1 hi)
  simp only [decide_eq_true_eq, not_or]
  exact this
theorem cClash_yes {l at' : List Int} {i : Nat} (hi : i < at'.length) (h : at'.getD i 0 ∈ l ∨ at'.getD i 0 ∈ at'.take i) : cClash l at' = true := by
  unfold cClash
  rw [List.any_eq_true]
  exact ⟨i, List.mem_range.2 hi, by simpa using h⟩
theorem getD_of {xs : List Int} {i : Nat} {x : Int} (h : xs[i]? = some x) : xs.getD i 0 = x := by rw [List.getD_eq_getElem?_getD, h]; rfl
theorem cIn_no {n : Nat} {at' : List Int} {i : Nat} {x : Int} (h : at'[i]? = some x) (hx : ¬ (0 ≤ x ∧ x < (n : Int))) : cIn n at' = false := by
  unfold cIn
  rw [List.all_eq_false]
  exact ⟨x, List.mem_of_getElem? h, by simpa using hx⟩
theorem cIn_yes {n : Nat} {at' : List Int} (h : ∀ (i : Nat) (x : Int), at'[i]? = some x → 0 ≤ x ∧ x < (n : Int)) : cIn n at' = true := by
  unfold cIn
  rw [List.all_eq_true]
  intro x hx
  obtain ⟨i, hi, e⟩ := List.getElem_of_mem hx
  have := h i x (by rw [List.getElem?_eq_getElem hi, e])
  simpa using this

theorem two_cells8 (w : World) (b : Nat) (u v x y : Value) (h0 : w.cell? ⟨b, 0, none⟩ = some x) (h1 : w.cell? ⟨b, 1, none⟩ = some y) :
    ((w.setCell ⟨b, 0, none⟩ u).setCell ⟨b, 1, none⟩ v).cell? ⟨b, 0, none⟩ = some u ∧ ((w.setCell ⟨b, 0, none⟩ u).setCell ⟨b, 1, none⟩ v).cell? ⟨b, 1, none⟩ = some v := by
  constructor
  · rw [World.cell?_setCell_other _ _ _ _ (by simp), World.cell?_setCell_same _ _ _ (by rw [h0])]
  · rw [World.cell?_setCell_same _ _ _ (by rw [World.cell?_setCell_other _ _ _ _ (by simp), h1])]
theorem two_aside (w : World) (b b' : Nat) (hb : b ≠ b') (u v : Value) (i : Nat) : ((w.setCell ⟨b, 0, none⟩ u).setCell ⟨b, 1, none⟩ v).cell? ⟨b', i, none⟩ = w.cell? ⟨b', i, none⟩ := by
  rw [World.cell?_setCell_other _ _ _ _ (by simp; try omega), World.cell?_setCell_other _ _ _ _ (by simp; try omega)]
theorem two_frozen (w : World) (b : Nat) (u v : Value) (a : Addr) : ((w.setCell ⟨b, 0, none⟩ u).setCell ⟨b, 1, none⟩ v).frozen? a = w.frozen? a := by
  rw [World.frozen?_setCell, World.frozen?_setCell]
theorem Sl.two {w : World} {B n : Nat} {A : Option Addr} {xs : List Value} (h : Sl w B A n xs) {b : Nat} (hp : ∀ a, A = some a → 0 < n → a.block ≠ b) (u v : Value) : Sl ((w.setCell ⟨b, 0, none⟩ u).setCell ⟨b, 1, none⟩ v) B A n xs :=
  ⟨h.1, fun hn => by
    obtain ⟨b2, off, e, hb, hc⟩ := h.2 hn
    refine ⟨b2, off, e, hb, fun j hj => ?_⟩
    rw [two_aside _ _ _ (fun e2 => hp _ e hn e2.symm)]; exact hc j hj⟩

/-- Words, a chain in the block p, and a result's block r. -/
structure PushAt (w wr : World) (p r n : Nat) (A A' : Option Addr) (ws : List Nat) (h l : Int) : Prop where
  lp : w.heap.size ≤ p
  lr : w.heap.size ≤ r
  ne : p ≠ r
  p0 : wr.cell? ⟨p, 0, none⟩ = some (.int .i64 h)
  p1 : wr.cell? ⟨p, 1, none⟩ = some (.int .i64 l)
  pf : ∀ j, wr.frozen? ⟨p, j, none⟩ = false
  r0 : wr.cell? ⟨r, 0, none⟩ = some (.int .i64 0)
  r1 : wr.cell? ⟨r, 1, none⟩ = some (.int .i64 0)
  rf : ∀ j, wr.frozen? ⟨r, j, none⟩ = false
  sl : Sl wr wr.heap.size A' n (ws.map wv)
  ap : ∀ a, A' = some a → 0 < n → a.block ≠ p ∧ a.block ≠ r
  new : A' = A ∨ ∀ a, A' = some a → w.heap.size ≤ a.block
  bel : Below w.heap.size w wr
section
variable {w wr W : World} {p r n : Nat} {A A' : Option Addr} {ws ws' : List Nat} {h l : Int}
theorem PushAt.ltp (k : PushAt w wr p r n A A' ws h l) : p < wr.heap.size := lt_of_cell k.p0
theorem PushAt.ltr (k : PushAt w wr p r n A A' ws h l) : r < wr.heap.size := lt_of_cell k.r0
theorem PushAt.below (k : PushAt w wr p r n A A' ws h l) (hb : Below wr.heap.size wr W) : PushAt w W p r n A A' ws h l :=
  ⟨k.lp, k.lr, k.ne, (hb.cell (p := ⟨p, 0, none⟩) k.ltp).trans k.p0, (hb.cell (p := ⟨p, 1, none⟩) k.ltp).trans k.p1, fun j => (hb.frozen (p := ⟨p, j, none⟩) k.ltp).trans (k.pf j),
    (hb.cell (p := ⟨r, 0, none⟩) k.ltr).trans k.r0, (hb.cell (p := ⟨r, 1, none⟩) k.ltr).trans k.r1, fun j => (hb.frozen (p := ⟨r, j, none⟩) k.ltr).trans (k.rf j), (k.sl.below hb).more hb.size, k.ap, k.new, k.bel.trans (hb.mono k.bel.size)⟩
/-- The chain is written. -/
theorem PushAt.set_ (k : PushAt w wr p r n A A' ws h l) (h' l' : Int) : PushAt w ((wr.setCell ⟨p, 0, none⟩ (.int .i64 h')).setCell ⟨p, 1, none⟩ (.int .i64 l')) p r n A A' ws h' l' := by
  obtain ⟨s0, s1⟩ := two_cells8 wr p (.int .i64 h') (.int .i64 l') _ _ k.p0 k.p1
  refine ⟨k.lp, k.lr, k.ne, s0, s1, fun j => (two_frozen ..).trans (k.pf j), (two_aside _ _ _ k.ne _ _ _).trans k.r0, (two_aside _ _ _ k.ne _ _ _).trans k.r1, fun j => (two_frozen ..).trans (k.rf j), ?_, k.ap, k.new, (k.bel.setCell (p := ⟨p, 0, none⟩) k.lp _).setCell (p := ⟨p, 1, none⟩) k.lp _⟩
  exact (k.sl.two (fun a e hn => (k.ap a e hn).1) _ _).more (by simp)
/-- Other words. -/
theorem PushAt.words (k : PushAt w wr p r n A A' ws h l) {A2 : Option Addr} {c2 : Nat} (hb : Below wr.heap.size wr W) (ho : W.ownsRow wr.heap.size 212 1 (.slice A2 n c2) n (ws'.map wv)) : PushAt w W p r n A A2 ws' h l := by
  have k2 := k.below hb
  have hlow : ∀ a, A2 = some a → wr.heap.size ≤ a.block := fun a e => by
    subst e
    exact (ho.lt a.block rfl).1
  exact ⟨k2.lp, k2.lr, k2.ne, k2.p0, k2.p1, k2.pf, k2.r0, k2.r1, k2.rf, Sl.of_own ho, fun a e _ => by
    have h1 := hlow a e
    have h2 := k.ltp
    have h3 := k.ltr
    omega, Or.inr fun a e => Nat.le_trans k.bel.size (hlow a e), k2.bel⟩
theorem PushAt.facts (k : PushAt w wr p r n A A' ws h l) : wr.cell? ⟨p, 0, none⟩ = some (.int .i64 h) ∧ wr.cell? ⟨p, 1, none⟩ = some (.int .i64 l) ∧ wr.cell? ⟨r, 0, none⟩ = some (.int .i64 0) ∧ wr.cell? ⟨r, 1, none⟩ = some (.int .i64 0) ∧ wr.frozen? ⟨r, 0, none⟩ = false ∧ wr.frozen? ⟨r, 1, none⟩ = false ∧ wr.frozen? ⟨p, 0, none⟩ = false ∧ wr.frozen? ⟨p, 1, none⟩ = false :=
  ⟨k.p0, k.p1, k.r0, k.r1, k.rf 0, k.rf 1, k.pf 0, k.pf 1⟩
/-- Words and chain are answered. -/
theorem PushAt.fin (k : PushAt w wr p r n A A' ws h l) (c' : Nat) (no : Int) (hb : Below ((wr.setCell ⟨r, 0, none⟩ (.int .i64 h)).setCell ⟨r, 1, none⟩ (.int .i64 l)).heap.size ((wr.setCell ⟨r, 0, none⟩ (.int .i64 h)).setCell ⟨r, 1, none⟩ (.int .i64 l)) W) :
    ResC A w n (ws, (h, l), no) (.returned (.tuple #[.slice A' n c', .agg #[.int .i64 h, .int .i64 l], .int .i64 no])) W := by
  have h1 : Below w.heap.size w ((wr.setCell ⟨r, 0, none⟩ (.int .i64 h)).setCell ⟨r, 1, none⟩ (.int .i64 l)) := (k.bel.setCell (p := ⟨r, 0, none⟩) k.lr _).setCell (p := ⟨r, 1, none⟩) k.lr _
  refine ⟨A', c', rfl, ?_, h1.trans (hb.mono h1.size), k.new⟩
  have h2 := k.sl.two (fun a e hn => (k.ap a e hn).2) (.int .i64 h) (.int .i64 l)
  have h3 : wr.heap.size = ((wr.setCell ⟨r, 0, none⟩ (.int .i64 h)).setCell ⟨r, 1, none⟩ (.int .i64 l)).heap.size := by simp
  rw [h3] at h2
  exact (h2.below hb).more hb.size
theorem PushAt.start {w : World} {n : Nat} {A : Option Addr} {ws : List Nat} (hs : Sl w w.heap.size A n (ws.map wv)) (h l : Int) (t t2 : TypeId) :
    PushAt w ((w.alloc (.cells #[.int .i64 h, .int .i64 l] t)).alloc (.cells #[.int .i64 0, .int .i64 0] t2)) w.heap.size (w.heap.size + 1) n A A ws h l := by
  have hb : Below w.heap.size w ((w.alloc (.cells #[.int .i64 h, .int .i64 l] t)).alloc (.cells #[.int .i64 0, .int .i64 0] t2)) := ((Below.refl _ _).alloc (Nat.le_refl _) _).alloc (by simp) _
  refine ⟨Nat.le_refl _, by omega, by omega, ?_, ?_, fun j => ?_, ?_, ?_, fun j => ?_, (hs.below hb).more hb.size, fun a e hn => ?_, Or.inl rfl, hb⟩
  · rw [World.cell?_alloc_past _ _ _ (by simp), World.cell?_alloc_at _ _ _ _ rfl]; rfl
  · rw [World.cell?_alloc_past _ _ _ (by simp), World.cell?_alloc_at _ _ _ _ rfl]; rfl
  · rw [World.frozen?_alloc_past _ _ _ (by simp), World.frozen?_alloc_at _ _ _ _ rfl]
  · rw [World.cell?_alloc_at _ _ _ _ (by simp)]; rfl
  · rw [World.cell?_alloc_at _ _ _ _ (by simp)]; rfl
  · rw [World.frozen?_alloc_at _ _ _ _ (by simp)]
  · obtain ⟨b, off, e2, hb2, _⟩ := hs.2 hn
    rw [e] at e2
    obtain rfl := Option.some.inj e2
    simp only
    omega
end

end Go.Proofs.YtcgfmpegakpddaaGreat
