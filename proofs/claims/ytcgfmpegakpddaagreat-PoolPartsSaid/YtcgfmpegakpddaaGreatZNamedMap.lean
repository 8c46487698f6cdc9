/- What In and Ints of the document's own answers to layer 3 return (alone: layers from 8 on need them). -/
import Derived.Test.YtcgfmpegakpddaaGreatZRows7
import Derived.Test.YtcgfmpegakpddaaGreatZRowWords
import Derived.Maps.OwnSet
import Derived.Maps.Ext
import Derived.WalkKit
import Derived.Laws.IdiomRangeMap
namespace Go.Proofs.YtcgfmpegakpddaaGreat
open Go.RowKit
set_option linter.unusedVariables false

theorem ref_bin (A : Option Addr) (n c : Nat) (zs : List Int) (v : Int) (w : World) (B : Nat) (hs : Sl w B A n (zs.map iv)) (hn : n ≤ 9223372036854775806) :
    Calls Tryz.prog 30 #[.slice A n c, .int .i64 v] w fun e w' => e = .returned (.bool (decide (v ∈ zs))) ∧ w = w' := by
  have l1 : zs.length = n := by have := hs.1; simpa using this
  have L1 := hidb l1
  have HS := hidb hs
  clear hs l1
  go_enter Tryz.func30, Tryz.ntmps30
  go_wp2
  go_loop [8] (fun k => ∃ j : Nat, j ≤ n ∧ Hid (∀ i, i < j → zs[i]? ≠ some v) ∧ k = .int .i64 j) (fun k => (n - intOf k).toNat)
  case atStart => exact ⟨0, by omega, hidb (fun i h => absurd h (Nat.not_lt_zero _)), rfl⟩
  case round =>
    obtain ⟨j, hj, HA, rfl⟩ := hrel
    by_cases hlt : j < n
    · obtain ⟨b, off, x, rfl, hx, hc⟩ := HS.out.int_ hlt
      have HX := hidb hx
      clear hx
      by_cases e : x = v
      · have HF : Hid (decide (v ∈ zs) = true) := hidb (decide_eq_true (by rw [← e]; exact List.mem_of_getElem? HX.out))
        have eb : (x == v) = true := by simpa using e
        clear e
        go_wp2
        go_ret
        exact ⟨by rw [HF.out]; rfl, rfl⟩
      · have eb : (x == v) = false := by simpa using e
        have HE := hidb e
        clear e
        go_wp2
        go_round
        case rel =>
          refine ⟨j + 1, by omega, hidb (fun i hi => ?_), by go_num⟩
          by_cases h : i = j
          · subst h; rw [HX.out]; intro h2; exact HE.out (by simpa using h2)
          · exact HA.out i (by omega)
        case measure => simp [intOf]; omega
    · have HF : Hid (decide (v ∈ zs) = false) := hidb (decide_eq_false (fun hmem => by
        obtain ⟨i, hi, e⟩ := List.getElem_of_mem hmem
        exact HA.out i (by have := L1.out; omega) (by rw [List.getElem?_eq_getElem hi, e])))
      go_wp2
      go_ret
      exact ⟨by rw [HF.out]; rfl, rfl⟩

end Go.Proofs.YtcgfmpegakpddaaGreat
/- Several texts in one: ChainMath, ChainRef, ChainWith, ChainPush. -/
/- Plain facts on layer 8 (chain): chains that stand in words. No program is named here. -/
namespace Go.Proofs.YtcgfmpegakpddaaGreat

/-- The rest of a chain's addresses, from h on, behind those in out; none: it isn't right. -/
def cGo (w : List Nat) (len : Int) : Nat → Int → List Int → Option (List Int)
  | 0, _, _ => none
  | k + 1, h, out =>
    if h = 0 then (if (out.length : Int) = len then some out else none)
    else if h < 0 ∨ (w.length : Int) < h ∨ (h - 1) ∈ out ∨ len ≤ (out.length : Int) then none
    else if w.length < w.getD (h - 1).toNat 0 then none
    else cGo w len k (w.getD (h - 1).toNat 0 : Nat) (out ++ [h - 1])
/-- A chain's addresses (its Head, its Len). -/
def cList (w : List Nat) (c : Int × Int) : Option (List Int) := cGo w c.2 (c.2.toNat + 1) c.1 []
/-- One block more, in front. -/
def cStep (s : List Nat × (Int × Int)) (a : Int) : List Nat × (Int × Int) := (s.1.set a.toNat s.2.1.toNat, (a + 1, s.2.2 + 1))
def cAll (s : List Nat × (Int × Int)) (at' : List Int) : List Nat × (Int × Int) := at'.foldl cStep s
def cIn (n : Nat) (at' : List Int) : Bool := at'.all fun a => decide (0 ≤ a ∧ a < (n : Int))
def cClash (l at' : List Int) : Bool := (List.range at'.length).any fun i => decide (at'.getD i 0 ∈ l ∨ at'.getD i 0 ∈ at'.take i)
def cPush (w : List Nat) (c : Int × Int) (at' : List Int) : List Nat × (Int × Int) × Int :=
  match cList w c with
  | none => (w, c, 9)
  | some l => if cIn w.length at' then (if cClash l at' then (w, c, 1) else ((cAll (w, c) at').1, (cAll (w, c) at').2, 0)) else (w, c, 2)
/-- The chain l, without a. -/
def cWithout (w : List Nat) (l : List Int) (a : Int) : List Nat × (Int × Int) := cAll (w.set a.toNat 0, (0, 0)) (l.reverse.filter (fun x => x != a))
def cPop (w : List Nat) (c : Int × Int) : List Nat × (Int × Int) × Int × Int :=
  match cList w c with
  | none => (w, c, 0, 9)
  | some [] => (w, c, 0, 6)
  | some (a :: l) => ((cWithout w (a :: l) a).1, (cWithout w (a :: l) a).2, a, 0)

theorem cGo_zero (w : List Nat) (len : Int) (k : Nat) (out : List Int) : cGo w len (k + 1) 0 out = if (out.length : Int) = len then some out else none := by simp [cGo]
theorem cGo_bad (w : List Nat) (len : Int) (k : Nat) (h : Int) (out : List Int) (h0 : h ≠ 0) (h1 : h < 0 ∨ (w.length : Int) < h ∨ (h - 1) ∈ out ∨ len ≤ (out.length : Int)) : cGo w len (k + 1) h out = none := by
  unfold cGo; rw [if_neg h0, if_pos h1]
theorem cGo_far (w : List Nat) (len : Int) (k : Nat) (h : Int) (out : List Int) (x : Nat) (h0 : h ≠ 0) (hx : w[(h - 1).toNat]? = some x) (h2 : w.length < x) : cGo w len (k + 1) h out = none := by
  have e : w.getD (h - 1).toNat 0 = x := by rw [List.getD_eq_getElem?_getD, hx]; rfl
  unfold cGo
  rw [if_neg h0]
  split
  · rfl
  · rw [e, if_pos h2]
theorem cGo_next (w : List Nat) (len : Int) (k : Nat) (h : Int) (out : List Int) (x : Nat) (h0 : h ≠ 0) (h1 : ¬ (h < 0 ∨ (w.length : Int) < h ∨ (h - 1) ∈ out ∨ len ≤ (out.length : Int))) (hx : w[(h - 1).toNat]? = some x) (h2 : ¬ w.length < x) : cGo w len (k + 1) h out = cGo w len k (x : Int) (out ++ [h - 1]) := by
  have e : w.getD (h - 1).toNat 0 = x := by rw [List.getD_eq_getElem?_getD, hx]; rfl
  conv => lhs; unfold cGo
  rw [if_neg h0, if_neg h1, e, if_neg h2]

/-- Different numbers below n are at most n. -/
theorem nodup_le : ∀ (n : Nat) (l : List Int), l.Nodup → (∀ x ∈ l, 0 ≤ x ∧ x < (n : Int)) → l.length ≤ n
  | 0, l, _, h => by
    cases l with
    | nil => exact Nat.le_refl _
    | cons a l => have := h a (List.mem_cons_self ..); omega
  | n + 1, l, hd, h => by
    have h1 := nodup_le n (l.erase (n : Int)) (hd.erase _) (fun x hx => by
      have h2 := h x (List.mem_of_mem_erase hx)
      have h3 : x ≠ (n : Int) := fun e => by subst e; exact absurd hx (by rw [hd.mem_erase_iff]; simp)
      omega)
    rw [List.length_erase] at h1
    split at h1 <;> omega
/-- What a chain's addresses are: different ones, in so many words. -/
theorem cGo_some {w : List Nat} {len : Int} : ∀ {k : Nat} {h : Int} {out l : List Int}, out.Nodup → (∀ x ∈ out, 0 ≤ x ∧ x < (w.length : Int)) → cGo w len k h out = some l → l.Nodup ∧ (∀ x ∈ l, 0 ≤ x ∧ x < (w.length : Int)) ∧ (l.length : Int) = len
  | 0, h, out, l, _, _, e => by cases e
  | k + 1, h, out, l, hd, hb, e => by
    unfold cGo at e
    split at e
    · split at e
      · rename_i h1
        obtain rfl := Option.some.inj e
        exact ⟨hd, hb, h1⟩
      · cases e
    · split at e
      · cases e
      · split at e
        · cases e
        · rename_i h0 h1 _
          simp only [not_or] at h1
          refine cGo_some (List.nodup_append.2 ⟨hd, by simp, fun a ha b hb' => ?_⟩) (fun x hx => ?_) e
          · obtain rfl := List.mem_singleton.1 hb'
            exact fun e => h1.2.2.1 (e ▸ ha)
          · rcases List.mem_append.1 hx with hx | hx
            · exact hb x hx
            · obtain rfl := List.mem_singleton.1 hx
              omega
theorem cList_some {w : List Nat} {c : Int × Int} {l : List Int} (h : cList w c = some l) : l.Nodup ∧ (∀ x ∈ l, 0 ≤ x ∧ x < (w.length : Int)) ∧ (l.length : Int) = c.2 := cGo_some List.nodup_nil (fun x hx => by cases hx) h

theorem cStep_length (s : List Nat × (Int × Int)) (a : Int) : (cStep s a).1.length = s.1.length := List.length_set ..
theorem cAll_snoc (s : List Nat × (Int × Int)) (l : List Int) (a : Int) : cAll s (l ++ [a]) = cStep (cAll s l) a := by unfold cAll; rw [List.foldl_append]; rfl
theorem cAll_length : ∀ (l : List Int) (s : List Nat × (Int × Int)), (cAll s l).1.length = s.1.length
  | [], _ => rfl
  | a :: l, s => (cAll_length l (cStep s a)).trans (cStep_length s a)
theorem cAll_count : ∀ (l : List Int) (s : List Nat × (Int × Int)), (cAll s l).2.2 = s.2.2 + l.length
  | [], s => by simp [cAll]
  | a :: l, s => by
    have := cAll_count l (cStep s a)
    show (cAll (cStep s a) l).2.2 = _
    rw [this]; simp only [cStep, List.length_cons]; omega
theorem cAll_head (l : List Int) (s : List Nat × (Int × Int)) (n : Nat) (hs : 0 ≤ s.2.1 ∧ s.2.1 ≤ (n : Int)) (h : ∀ x ∈ l, 0 ≤ x ∧ x < (n : Int)) : 0 ≤ (cAll s l).2.1 ∧ (cAll s l).2.1 ≤ (n : Int) := by
  induction l generalizing s with
  | nil => exact hs
  | cons a l ih =>
    have ha := h a (List.mem_cons_self ..)
    exact ih (cStep s a) (by show 0 ≤ a + 1 ∧ a + 1 ≤ (n : Int); omega) (fun x hx => h x (List.mem_cons_of_mem _ hx))
theorem cList_head {w : List Nat} {c : Int × Int} {l : List Int} (h : cList w c = some l) : 0 ≤ c.1 ∧ c.1 ≤ (w.length : Int) := by
  unfold cList cGo at h
  split at h
  · omega
  · split at h
    · cases h
    · rename_i h1
      simp only [not_or] at h1
      omega

end Go.Proofs.YtcgfmpegakpddaaGreat

/- What each function of the document's own answers to layer 8 (chain) returns. -/
namespace Go.Proofs.YtcgfmpegakpddaaGreat
open Go.RowKit
set_option linter.unusedVariables false

end Go.Proofs.YtcgfmpegakpddaaGreat

/- What 'with' of the document's own answers to layer 8 (chain) returns: words with another one. -/
namespace Go.Proofs.YtcgfmpegakpddaaGreat
open Go.RowKit
set_option linter.unusedVariables false

end Go.Proofs.YtcgfmpegakpddaaGreat

/- What Push of the document's own answers to layer 8 (chain) returns. -/
namespace Go.Proofs.YtcgfmpegakpddaaGreat
open Go.RowKit
set_option linter.unusedVariables false

theorem cClash_no {l at' : List Int} (h : ∀ i, i < at'.length → at'.getD i 0 ∉ l ∧ at'.getD i 0 ∉ at'.take i) : cClash l at' = false := by
  unfold cClash
  rw [List.any_eq_false]
  intro i hi
  have := h i (List.mem_range.1 hi)
  simp only [decide_eq_true_eq, not_or]
  exact this
theorem two_cells8 (w : World) (b : Nat) (u v x y : Value) (h0 : w.cell? ⟨b, 0, none⟩ = some x) (h1 : w.cell? ⟨b, 1, none⟩ = some y) :
    ((w.setCell ⟨b, 0, none⟩ u).setCell ⟨b, 1, none⟩ v).cell? ⟨b, 0, none⟩ = some u ∧ ((w.setCell ⟨b, 0, none⟩ u).setCell ⟨b, 1, none⟩ v).cell? ⟨b, 1, none⟩ = some v := by
  constructor
  · rw [World.cell?_setCell_other _ _ _ _ (by simp), World.cell?_setCell_same _ _ _ (by rw [h0])]
  · rw [World.cell?_setCell_same _ _ _ (by rw [World.cell?_setCell_other _ _ _ _ (by simp), h1])]
theorem two_aside (w : World) (b b' : Nat) (hb : b ≠ b') (u v : Value) (i : Nat) : ((w.setCell ⟨b, 0, none⟩ u).setCell ⟨b, 1, none⟩ v).cell? ⟨b', i, none⟩ = w.cell? ⟨b', i, none⟩ := by
  rw [World.cell?_setCell_other _ _ _ _ (by simp; try omega), World.cell?_setCell_other _ _ _ _ (by simp; try omega)]
theorem Sl.two {w : World} {B n : Nat} {A : Option Addr} {xs : List Value} (h : Sl w B A n xs) {b : Nat} (hp : ∀ a, A = some a → 0 < n → a.block ≠ b) (u v : Value) : Sl ((w.setCell ⟨b, 0, none⟩ u).setCell ⟨b, 1, none⟩ v) B A n xs :=
  ⟨h.1, fun hn => by
    obtain ⟨b2, off, e, hb, hc⟩ := h.2 hn
    refine ⟨b2, off, e, hb, fun j hj => ?_⟩
    rw [two_aside _ _ _ (fun e2 => hp _ e hn e2.symm)]; exact hc j hj⟩

section
variable {w wr W : World} {p r n : Nat} {A A' : Option Addr} {ws ws' : List Nat} {h l : Int}
end

end Go.Proofs.YtcgfmpegakpddaaGreat
/- A map of numbers that were named, or met. -/
namespace Go.Proofs.YtcgfmpegakpddaaGreat
open Go.RowKit Go.Maps
set_option linter.unusedVariables false

/-- The key of a number. -/
theorem in64_wf {i : Int} (h : in64 i) : (Lit.int .i64 i).wf = true := by
  have h1 : IntKind.i64.min = -9223372036854775808 := rfl
  have h2 : IntKind.i64.max = 9223372036854775807 := rfl
  unfold in64 at h
  simp only [Lit.wf, Bool.and_eq_true, decide_eq_true_eq]
  omega
theorem key_of {i : Int} (h : in64 i) : keyOf Tryz.prog 3 (.int .i64 i) = some (.int .i64 i) := Maps.keyOf_int_mk Tryz.underlying3 (in64_wf h)
theorem keyed : Maps.Keyed Tryz.prog 3 := Maps.int_keyed Tryz.underlying3
theorem lit_ne {a b : Int} (h : a ≠ b) : (Lit.int .i64 a) ≠ .int .i64 b := fun e => h (by injection e)

open Classical in
/-- A map of numbers that were named. -/
noncomputable def boolR (v : Value) : Option (DataW Unit × List MemPlace) := if h : ∃ b, v = .bool b then some (.lit (.bool h.choose), []) else none
theorem boolR_mk (b : Bool) : boolR (.bool b) = some (.lit (.bool b), []) := by
  unfold boolR
  have h : ∃ c, Value.bool b = .bool c := ⟨b, rfl⟩
  rw [dif_pos h]
  have := h.choose_spec
  injection this with this
  rw [← this]
theorem boolR_inv {v : Value} {z : DataW Unit × List MemPlace} (h : boolR v = some z) : ∃ b, v = .bool b ∧ z = (.lit (.bool b), []) := by
  unfold boolR at h
  split at h
  · next hs => exact ⟨hs.choose, hs.choose_spec, by injection h with h; exact h.symm⟩
  · cases h
structure NIs (D : DataW Unit) (J : List Int) : Prop where
  at_ : ∀ id, D.atKey (.int .i64 id) (.lit (.bool false)) = .lit (.bool (J.contains id))
theorem nis_nil : NIs (.map []) [] := ⟨fun _ => rfl⟩
theorem NIs.put {D : DataW Unit} {J : List Int} (h : NIs D J) (hD : Maps.IsMap D) {i : Int} (hi : in64 i) : NIs (D.put (.int .i64 i) (.lit (.bool true))) (J ++ [i]) := by
  refine ⟨fun id => ?_⟩
  by_cases c : id = i
  · subst c
    rw [Maps.atKey_put_same hD (keyed.key (key_of hi))]
    simp
  · rw [Maps.atKey_put_other (lit_ne c), h.at_]
    congr 2
    simp [c]
theorem zero_bool (w : World) : (zeroValue 4).run Tryz.prog w = .ok (.bool false) w := by kernel_rfl
theorem IsMap_any {w : World} {P : Program} {t : TypeId} {R : Value → Option (DataW Unit × List MemPlace)} {mb m : Nat} {D : DataW Unit} (h : w.ownsMap P t R mb m D) : Maps.IsMap D := by
  obtain ⟨_, _, _, _, _, rfl⟩ := h
  exact ⟨_, rfl⟩
/-- Was a number named? -/
theorem named_at {w : World} {nb n : Nat} {D : DataW Unit} {J : List Int} (hown : w.ownsMap Tryz.prog 3 boolR nb n D) (hn : NIs D J) (i : Int) (hi : in64 i) (T : TypeId) (hT : Tryz.prog.underlying T = some (.map 3 4)) :
    (Instr.lookup T (.map (some nb)) (.int .i64 i) false).run Tryz.prog w = .ok (.bool (J.contains i)) w := by
  obtain ⟨v, ps, hrun, hv⟩ := hown.lookup keyed hT (zero_bool w) (boolR_mk false) (key_of hi)
  obtain ⟨b, rfl, e⟩ := boolR_inv hv
  have e1 := congrArg Prod.fst e
  simp only at e1
  rw [hn.at_] at e1
  simp only [DataW.lit.injEq, Lit.bool.injEq] at e1
  rw [hrun, e1]


section
variable {w w' W W' : World} {mb m : Nat} {D : DataW Unit}
theorem ownsMap_block {P : Program} {t : TypeId} {R : Value → Option (DataW Unit × List MemPlace)} (hm : w.ownsMap P t R mb m D) (hb : w'.heap[mb]? = w.heap[mb]?) : w'.ownsMap P t R mb m D := by
  obtain ⟨es, clock, hb0, F, hs, hD⟩ := hm
  exact ⟨es, clock, hb.trans hb0, F, hs, hD⟩
theorem own_past {base size n b : Nat} {e : TypeId} {v : Value} {xs : List Value} (hr : W.ownsRow base e size v n xs) (hb : b < base) (hg : W.grownBy W' (some b)) : W'.ownsRow base e size v n xs := by
  refine hr.kept hg ?_
  rcases hr.2 with ⟨rfl, _⟩ | ⟨g, cap, cur, rfl, hbg, _⟩
  · exact .inl rfl
  · exact .inr fun e => by
      have e2 : some g = some b := e
      injection e2 with e2
      omega
theorem own_below {base size n : Nat} {e : TypeId} {v : Value} {xs : List Value} (hr : W.ownsRow base e size v n xs) (hb : Below W.heap.size W W') : W'.ownsRow base e size v n xs := by
  refine own_kept (S := fun _ => False) hr (Kept.of_below hb _) (fun _ _ => id)
end
theorem alloc_old {w : World} {a : Addr} {v : Value} (o : Obj) (h : w.cell? a = some v) : (w.alloc o).cell? a = some v := (World.cell?_alloc_lt w o a (lt_of_cell h)).trans h

end Go.Proofs.YtcgfmpegakpddaaGreat
