/- Reading the acts that layer 7's statements take. -/
import Derived.Test.YtlcdgmjinhbncaaGreatPRowWords
import Derived.WalkKit
import Derived.ProofKit
import Derived.WalkLawsBesides
import Derived.WalkSpells
import Derived.Deep.QuietTactic
import Derived.BigQuiet
import Derived.Laws.OwnMore
import Derived.Laws.StructEq
import Derived.Test.YtlcdgmjinhbncaaGreatPPoolSort
import Derived.Test.YtlcdgmjinhbncaaGreatPHeapMain
import Derived.Test.YtlcdgmjinhbncaaGreatPRunsMain
import Derived.Test.YtlcdgmjinhbncaaGreatPIndexAll
import Derived.Test.YtlcdgmjinhbncaaGreatPPoolTrim
import Derived.Test.YtlcdgmjinhbncaaGreatPChainAll
namespace Go.Proofs.YtlcdgmjinhbncaaGreat
open Go.RowKit
set_option linter.unusedVariables false

section
variable {H : Type} {enc : TypeId × Value → H} {W : World} {sp : Nat → Bool} {hd : Bool}
end

end Go.Proofs.YtlcdgmjinhbncaaGreat
/- Are two rows of runs the same? The document's own answer. -/
namespace Go.Proofs.YtlcdgmjinhbncaaGreat
open Go.RowKit
set_option linter.unusedVariables false

theorem neq_run (a b c d : Int) (W : World) : (binOp .neq 47 (.agg #[.int .i64 a, .int .i64 b]) (.agg #[.int .i64 c, .int .i64 d])).run Tryz.prog W = .ok (.bool (!(a == c && b == d))) W := by
  simp [go_sem]
  by_cases h1 : a = c <;> by_cases h2 : b = d <;> simp [h1, h2]

theorem ref_xsame (A A2 : Option Addr) (n c m d : Nat) (xs ys : List (Int × Int)) (w : World) (B B2 : Nat) (hs : Rn w B A n xs) (hs2 : Rn w B2 A2 m ys) (hn : n ≤ 9223372036854775806) (hm : m ≤ 9223372036854775806) :
    Calls Tryz.prog 27 #[.slice A n c, .slice A2 m d] w fun e w' => e = .returned (.bool (decide (xs = ys))) ∧ ∃ q, w' = w.drewN q := by
  have l1 : xs.length = n := hs.1
  have l2 : ys.length = m := hs2.1
  by_cases hnm : n = m
  · subst hnm
    have L1 := hidb l1
    have L2 := hidb l2
    have HS := hidb hs
    have HS2 := hidb hs2
    clear hs hs2 l1 l2
    go_enter Tryz.func27, Tryz.ntmps27
    go_wp2
    go_loopw [13] (fun k wr => ∃ j q : Nat, j ≤ n ∧ Hid (∀ i, i < j → xs[i]? = ys[i]?) ∧ k = .int .i64 j ∧ wr = w.drewN q) (fun k _ => (n - intOf k).toNat)
    case atStart => exact ⟨0, 0, by omega, hidb (fun i h => absurd h (Nat.not_lt_zero _)), rfl, rfl⟩
    case round =>
      obtain ⟨j, q, hj, HA, rfl, rfl⟩ := hrel
      by_cases hlt : j < n
      · obtain ⟨b, off, s, l, rfl, _, hx, hc1, hc1'⟩ := HS.out.at_ hlt
        obtain ⟨b2, off2, s2, l2, rfl, _, hy, hc2, hc2'⟩ := HS2.out.at_ hlt
        have HX := hidb hx
        have HY := hidb hy
        clear hx hy
        have hi0 : (0 : Int) ≤ (j : Int) := by omega
        have hi1 : (j : Int) < (n : Int) := by omega
        have hq := fun W => neq_run s l s2 l2 W
        by_cases e : s = s2 ∧ l = l2
        · obtain ⟨rfl, rfl⟩ := e
          rw [show (!(s == s && l == l)) = false by simp] at hq
          go_wp2
          go_quiet (fail)
          go_wp2
          go_roundw
          case rel =>
            refine ⟨j + 1, _, by omega, hidb (fun i hi => ?_), by go_num, rfl⟩
            by_cases h : i = j
            · subst h; rw [HX.out, HY.out]
            · exact HA.out i (by omega)
          case measure => simp [intOf]; omega
        · have e2 : (!(s == s2 && l == l2)) = true := by
            rw [Bool.not_eq_true', Bool.and_eq_false_iff]
            by_cases h : s = s2
            · exact Or.inr (by simpa using fun h2 => e ⟨h, h2⟩)
            · exact Or.inl (by simpa using h)
          rw [e2] at hq
          have HF : Hid (decide (xs = ys) = false) := hidb (decide_eq_false (fun h => e (by have := HX.out; rw [h, HY.out] at this; simpa [eq_comm] using this)))
          clear e e2
          go_wp2
          go_quiet (fail)
          go_wp2
          go_ret
          exact ⟨by rw [HF.out]; rfl, _, World.drewN_drewN _ _ _⟩
      · have HF : Hid (decide (xs = ys) = true) := hidb (decide_eq_true (List.ext_getElem? (fun i => by
          by_cases h : i < n
          · exact HA.out i (by omega)
          · rw [List.getElem?_eq_none (by rw [L1.out]; omega), List.getElem?_eq_none (by rw [L2.out]; omega)])))
        go_wp2
        go_ret
        exact ⟨by rw [HF.out]; rfl, _, rfl⟩
  · have HF : Hid (decide (xs = ys) = false) := hidb (decide_eq_false (fun h => hnm (by rw [← l1, ← l2, h])))
    have eb : ((n : Int) != (m : Int)) = true := by simp; omega
    clear hs hs2 l1 l2
    go_enter Tryz.func27, Tryz.ntmps27
    go_wp2
    go_ret
    exact ⟨by rw [HF.out]; rfl, 0, rfl⟩

end Go.Proofs.YtlcdgmjinhbncaaGreat
/- What layer 7's statements have in common: the document's example, and what each call does to a heap that the law has made. -/
namespace Go.Proofs.YtlcdgmjinhbncaaGreat
open Go.RowKit
set_option linter.unusedVariables false

/-- A heap that the law has made, behind k spans at most. -/
structure HeapSt (w W : World) (p : Nat) (S : Nat → Prop) (h : HeapV) (k : Nat) (pages : Int) : Prop where
  hp : Hp W S p h
  low : ∀ b, S b → w.heap.size ≤ b
  bel : Below w.heap.size w W
  la : h.last ≤ k
  pg : h.pages = pages
/-- A row that lies in no block of S. -/
def OwnAp (S : Nat → Prop) (W : World) (base : Nat) (e : TypeId) (s : Nat) (v : Value) (n : Nat) (xs : List Value) : Prop := W.ownsRow base e s v n xs ∧ ∀ k, v.ownBlock = some k → ¬ S k
section
variable {w W W' : World} {p : Nat} {S : Nat → Prop} {h : HeapV} {k : Nat} {pages : Int}
/-- A row that a call behind has made. -/
theorem HeapSt.new_ {e : TypeId} {s : Nat} {v : Value} {n : Nat} {xs : List Value} (st : HeapSt w W p S h k pages) (hr : W'.ownsRow W.heap.size e s v n xs) : OwnAp S W' W.heap.size e s v n xs :=
  ⟨hr, fun k hk c => by have h1 := (hr.lt k hk).1; have h2 := st.hp.lt k c; omega⟩
theorem HeapSt.below (s : HeapSt w W p S h k pages) (hb : Below W.heap.size W W') : HeapSt w W' p S h k pages := ⟨s.hp.below hb, s.low, s.bel.trans (hb.mono s.bel.size), s.la, s.pg⟩
theorem HeapSt.did {h' : HeapV} {k' : Nat} (s : HeapSt w W p S h k pages) (hp : Hp W' (more S W W') p h') (hK : Kept S W W') (hl : h'.last ≤ k') (hg : h'.pages = h.pages) : HeapSt w W' p (more S W W') h' k' pages :=
  ⟨hp, more_low s.bel.size s.low, s.bel.trans (hK.below s.bel.size s.low), hl, hg.trans s.pg⟩
end
/-- New. -/
theorem t_hnew (pages : Int) (w : World) (h0 : 4 ≤ pages) (h1 : pages ≤ 1024) : ∃ F, hNew pages = (⟨pages, F, [], 0⟩, 0) ∧ Calls Tryz.prog 61 #[.int .i64 pages] w fun e w' => ∃ p S, e = .returned (.tuple #[.pointer (some ⟨p, 0, none⟩), .int .i64 0]) ∧ HeapSt w w' p S ⟨pages, F, [], 0⟩ 0 pages := by
  obtain ⟨F, e1, _, _⟩ := hNew_ok h0 h1
  refine ⟨F, e1, (code_hnew pages w h0 h1 F e1).mono ?_⟩
  rintro e w' ⟨hb, p, S, rfl, hp, hl⟩
  exact ⟨p, S, rfl, hp, hl, hb, Int.le_refl _, rfl⟩

end Go.Proofs.YtlcdgmjinhbncaaGreat
/- What Free of a nil heap of layer 7 (heap) answers. -/
namespace Go.Proofs.YtlcdgmjinhbncaaGreat
open Go.RowKit Go.Maps
set_option linter.unusedVariables false

end Go.Proofs.YtlcdgmjinhbncaaGreat
/- What the calls of a nil pool return. -/
namespace Go.Proofs.YtlcdgmjinhbncaaGreat
open Go.RowKit Go.Maps
set_option linter.unusedVariables false

end Go.Proofs.YtlcdgmjinhbncaaGreat
/- slices.IndexFunc and slices.DeleteFunc of rows of numbers. Made by program out of one text. -/
namespace Go.Proofs.YtlcdgmjinhbncaaGreat
open Go.RowKit Go.Maps
set_option linter.unusedVariables false


/-- slices.IndexFunc at these elements, with a closure that reads or lays blocks. -/
theorem code_oidx (q : Int → Bool) (t : Nat) (A : Option Addr) (n c : Nat) (ds : List (Int)) (w : World) (hs : Sl w w.heap.size A n (ds.map iv)) (hn : n ≤ 4611686018427387903)
    (hq : ∀ W, Below w.heap.size w W → ∀ k ∈ ds, Calls Tryz.prog 84 #[iv k, .pointer (some ⟨t, 0, none⟩)] W fun e w' => e = .returned (.bool (q k)) ∧ Below W.heap.size W w') :
    Calls Tryz.prog 155 #[.slice A n c, .func (.func 84) #[] #[.pointer (some ⟨t, 0, none⟩)]] w fun e w' => (∃ r : Int, e = .returned (.int .i64 r) ∧ ((r = -1 ∧ ∀ k ∈ ds, q k = false) ∨ ∃ i : Nat, i < n ∧ r = i ∧ (∀ (j : Nat) x, j < i → ds[j]? = some x → q x = false) ∧ ∀ x, ds[i]? = some x → q x = true)) ∧ Below w.heap.size w w' := by
  have HL : Hid (ds.length = n) := hidb (by have := hs.1; simpa using this)
  have HS := hidb hs
  have HQ := hidb hq
  clear hs hq
  go_enter Tryz.func155, Tryz.ntmps155
  go_wp2
  go_loopw [8] (fun k wr => ∃ j : Nat, j ≤ n ∧ Hid (∀ (i : Nat) x, i < j → ds[i]? = some x → q x = false) ∧ k = .int .i64 j ∧ Hid (Below w.heap.size w wr)) (fun k _ => (n - intOf k).toNat)
  case atStart => exact ⟨0, by omega, hidb (fun i x h => absurd h (Nat.not_lt_zero _)), rfl, hidb (Below.refl _ _)⟩
  case round =>
    obtain ⟨j, hj, HA, rfl, HB⟩ := hrel
    by_cases hlt : j < n
    · obtain ⟨b, off, u, rfl, _, hx, hc⟩ := (HS.out.below HB.out).at_ hlt
      obtain ⟨x, hx2, rfl⟩ : ∃ x, ds[j]? = some x ∧ iv x = u := by
        rw [List.getElem?_map] at hx
        exact Option.map_eq_some_iff.1 hx
      have c1 := HQ.out wr HB.out x (List.mem_of_getElem? hx2)
      have hj0 : (0 : Int) ≤ (j : Int) := by omega
      have hj1 : (j : Int) < (n : Int) := by omega
      have HX := hidb hx2
      clear hx hx2
      unfold iv at hc c1
      cases hT : q x with
      | false =>
        rw [hT] at c1
        have HA2 : Hid (∀ (i : Nat) y, i < j + 1 → ds[i]? = some y → q y = false) := hidb (fun i y hi hy => by
          by_cases h : i = j
          · subst h
            rw [HX.out] at hy
            injection hy with hy
            rw [← hy]; exact hT
          · exact HA.out i y (by omega) hy)
        clear hT
        go_wp2_with (first | (go_at_call 84; (with_reducible refine c1.mono ?_); rintro e w1 ⟨rfl, hb1⟩))
        go_roundw
        case rel => exact ⟨j + 1, by omega, HA2, by go_num, hidb (HB.out.trans (hb1.mono HB.out.size))⟩
        case measure => simp [intOf]; omega
      | true =>
        rw [hT] at c1
        have HF : Hid (∀ y, ds[j]? = some y → q y = true) := hidb (fun y hy => by
          rw [HX.out] at hy
          injection hy with hy
          rw [← hy]; exact hT)
        clear hT
        go_wp2_with (first | (go_at_call 84; (with_reducible refine c1.mono ?_); rintro e w1 ⟨rfl, hb1⟩))
        go_ret
        exact ⟨⟨j, rfl, Or.inr ⟨j, hlt, rfl, HA.out, HF.out⟩⟩, HB.out.trans (hb1.mono HB.out.size)⟩
    · have HF : Hid (∀ k ∈ ds, q k = false) := hidb (fun k hk => by
        obtain ⟨i, hi, e⟩ := List.mem_iff_getElem.1 hk
        exact HA.out i k (by have := HL.out; omega) (by rw [List.getElem?_eq_getElem hi, e]))
      go_wp2
      go_ret
      exact ⟨⟨-1, rfl, Or.inl ⟨rfl, HF.out⟩⟩, HB.out⟩

/-- What DeleteFunc leaves of a row. -/
def DeletedO (w : World) (base : Nat) (row : Option Nat) (ds : List (Int)) (e : Ending) (w' : World) : Prop :=
  ∃ A c, e = .returned (.slice A ds.length c) ∧ w'.ownsRow base 3 1 (.slice A ds.length c) ds.length (ds.map iv) ∧ w.grownBy w' row
/-- Where DeleteFunc stands. -/
structure DelStO (w wr : World) (g n i j : Nat) (L : List Value) (q : Int → Bool) (ds : List (Int)) (L' : List Value) : Prop where
  row : Rw wr g 3 L'
  len : L'.length = L.length
  tk : L'.take i = ((ds.take j).filter fun x => !q x).map iv
  fl : ((ds.take j).filter fun x => !q x).length = i
  hi : ∀ m, j ≤ m → L'[m]? = L[m]?
  gr : w.grownBy wr (some g)
section
variable {w wr : World} {g n i j : Nat} {L L' : List Value} {q : Int → Bool} {ds : List (Int)}
theorem DelStO.below {w' : World} (h : DelStO w wr g n i j L q ds L') (hb : Below wr.heap.size wr w') : DelStO w w' g n i j L q ds L' :=
  ⟨h.row.below hb h.row.lt, h.len, h.tk, h.fl, h.hi, grown_trans h.gr (below_to_grown hb _)⟩
theorem DelStO.skip (h : DelStO w wr g n i j L q ds L') {x : Int} (hx : ds[j]? = some x) (hq : q x = true) : DelStO w wr g n i (j + 1) L q ds L' := by
  have e : (ds.take (j + 1)).filter (fun x => !q x) = (ds.take j).filter (fun x => !q x) := by
    rw [List.take_add_one, hx, List.filter_append]; simp [hq]
  exact ⟨h.row, h.len, by rw [e]; exact h.tk, by rw [e]; exact h.fl, fun m hm => h.hi m (by omega), h.gr⟩
theorem DelStO.keep (h : DelStO w wr g n i j L q ds L') (hij : i < j) (hj : j < L.length) {x : Int} (hx : ds[j]? = some x) (hq : q x = false) : DelStO w (wr.setCell ⟨g, i, none⟩ (iv x)) g n (i + 1) (j + 1) L q ds (L'.set i (iv x)) := by
  have hl := h.len
  have e : (ds.take (j + 1)).filter (fun x => !q x) = (ds.take j).filter (fun x => !q x) ++ [x] := by
    rw [List.take_add_one, hx, List.filter_append]; simp [hq]
  refine ⟨h.row.setCell i _, by rw [List.length_set]; exact hl, ?_, by rw [e, List.length_append, h.fl]; rfl, fun m hm => ?_, grown_row h.gr i _⟩
  · rw [List.take_add_one, List.take_set_of_le (Nat.le_refl _), h.tk, e, List.map_append, List.getElem?_set_self (by omega)]
    rfl
  · rw [List.getElem?_set_ne (by omega)]
    exact h.hi m (by omega)
end
theorem start_o {q : Int → Bool} {ds : List (Int)} {i : Nat} (hi : i < ds.length) (h1 : ∀ (j : Nat) x, j < i → ds[j]? = some x → q x = false) (h2 : ∀ x, ds[i]? = some x → q x = true) : (ds.take (i + 1)).filter (fun x => !q x) = ds.take i := by
  have e1 : (ds.take i).filter (fun x => !q x) = ds.take i := List.filter_eq_self.2 fun x hx => by
    obtain ⟨k, hk, e⟩ := List.mem_iff_getElem.1 hx
    rw [List.length_take] at hk
    have := h1 k x (by omega) (by rw [← e, List.getElem_take]; exact List.getElem?_eq_getElem _)
    simp [this]
  have hx := List.getElem?_eq_getElem hi
  rw [List.take_add_one, hx, List.filter_append, e1]
  simp [h2 _ hx]
theorem zero_o (w : World) : (zeroValue 3).run Tryz.prog w = .ok (.int .i64 0) w := by kernel_rfl
theorem zeros_o (n : Nat) : (Builtin.zeroCells (.int .i64 0 : Value).cells n).size = n := by simp [Builtin.zeroCells, Value.cells]
theorem zones_o (n : Nat) : ∀ v ∈ (Builtin.zeroCells (.int .i64 0 : Value).cells n).toList, v.oneCell' = true := fun v hv => by
  simp [Builtin.zeroCells, Value.cells, Nat.mod_one] at hv
  obtain ⟨_, rfl⟩ := hv
  rfl

set_option maxRecDepth 100000 in
theorem code_odel (q : Int → Bool) (t : Nat) (A : Option Addr) (n c : Nat) (ds : List (Int)) (w : World) (base : Nat) (hown : w.ownsRow base 3 1 (.slice A n c) n (ds.map iv)) (hl : ds.length = n) (hn : n ≤ 4611686018427387903)
    (hq : ∀ W, w.grownBy W (Value.slice A n c).ownBlock → ∀ k ∈ ds, Calls Tryz.prog 84 #[iv k, .pointer (some ⟨t, 0, none⟩)] W fun e w' => e = .returned (.bool (q k)) ∧ Below W.heap.size W w') :
    Calls Tryz.prog 82 #[.slice A n c, .func (.func 84) #[] #[.pointer (some ⟨t, 0, none⟩)]] w (DeletedO w base (Value.slice A n c).ownBlock (ds.filter fun x => !q x)) := by
  have ci := code_oidx q t A n c ds w (Sl.of_own hown) hn (fun W hb => hq W (below_to_grown hb _))
  have HD1 : Hid (∀ W, Below w.heap.size w W → (∀ k ∈ ds, q k = false) → DeletedO w base (Value.slice A n c).ownBlock (ds.filter fun x => !q x) (.returned (.slice A n c)) W) := hidb (fun W hb hk => by
    have e : (ds.filter fun x => !q x) = ds := List.filter_eq_self.2 fun x hx => by simp [hk x hx]
    rw [e]
    exact ⟨A, c, by rw [hl], by rw [hl]; exact own_below hown hb, below_to_grown hb _⟩)
  by_cases hne : n = 0
  · subst hne
    have hnil : ds = [] := List.eq_nil_of_length_eq_zero hl
    clear hown hq hl
    go_enter Tryz.func82, Tryz.ntmps82
    go_wp2_with (go_at_call 155; (with_reducible refine ci.mono ?_); rintro e w1 ⟨⟨r, rfl, (⟨rfl, _⟩ | ⟨i, hi, _⟩)⟩, hb1⟩)
    go_ret
    exact HD1.out _ hb1 (by rw [hnil]; intro k hk; cases hk)
  · obtain ⟨g, rfl⟩ : ∃ g, A = some ⟨g, 0, none⟩ := by
      rcases hown.2 with ⟨_, h⟩ | ⟨g, cap, cur, h, _⟩
      · exact absurd h hne
      · injection h with e1; exact ⟨g, e1⟩
    obtain ⟨L, hL, hbg, hnc, hcm, hLl, hxs⟩ := own_whole hown
    rw [Nat.mul_one] at hLl hxs
    have HQ : Hid (∀ W, w.grownBy W (some g) → ∀ k ∈ ds, Calls Tryz.prog 84 #[iv k, .pointer (some ⟨t, 0, none⟩)] W fun e w' => e = .returned (.bool (q k)) ∧ Below W.heap.size W w') := hidb hq
    have HST : Hid (∀ i, i < n → (∀ (j : Nat) x, j < i → ds[j]? = some x → q x = false) → (∀ x, ds[i]? = some x → q x = true) → ∀ W, Below w.heap.size w W → DelStO w W g n i (i + 1) L q ds L) := hidb (fun i hi h1 h2 W hb => by
      have e := start_o (by omega) h1 h2
      refine ⟨hL.below hb hL.lt, rfl, ?_, by rw [e, List.length_take]; omega, fun _ _ => rfl, below_to_grown hb _⟩
      rw [e, List.map_take, hxs, List.take_take, Nat.min_eq_left (by omega)])
    have HDL : Hid (∀ j, j < n → ∃ x, ds[j]? = some x ∧ L[j]? = some (iv x)) := hidb (fun j hj => by
      have h1 := List.getElem?_eq_getElem (l := ds) (i := j) (by omega)
      refine ⟨_, h1, ?_⟩
      have h2 : (L.take n)[j]? = L[j]? := by rw [List.getElem?_take, if_pos hj]
      rw [← h2, ← hxs, List.getElem?_map, h1]; rfl)
    have HFIN : Hid (∀ W i L3, Rw W g 3 L3 → L3.length = L.length → L3.take i = (ds.filter fun x => !q x).map iv → (ds.filter fun x => !q x).length = i → w.grownBy W (some g) → DeletedO w base (Value.slice (some ⟨g, 0, none⟩) n c).ownBlock (ds.filter fun x => !q x) (.returned (.slice (some ⟨g, 0, none⟩) i c)) W) := hidb (fun W i L3 h1 h2 h3 h4 h5 => by
      have hic : i ≤ c := by
        have := List.length_filter_le (fun x => !q x) ds
        omega
      have h6 := own_of_whole (base := base) (s := 1) (n := i) (c := c) h1 hbg hic hcm (by rw [h2, hLl]; omega)
      rw [Nat.mul_one, h3] at h6
      exact ⟨some ⟨g, 0, none⟩, c, by rw [h4], by rw [h4]; exact h6, h5⟩)
    have hg := hL.lt
    have HL := hidb hLl
    have HDS := hidb hl
    have hc2 : c ≤ 9223372036854775807 := hcm
    clear hown hq hL hLl hxs hl hbg hcm
    go_enter Tryz.func82, Tryz.ntmps82
    go_wp2_with (go_at_call 155; (with_reducible refine ci.mono ?_); rintro e w1 ⟨⟨r, rfl, (⟨rfl, hall⟩ | ⟨i0, hi0, rfl, h1, h2⟩)⟩, hb1⟩)
    · go_ret
      exact HD1.out _ hb1 hall
    have HI := hidb (HST.out i0 hi0 h1 h2 w1 hb1)
    have hne1 : ((i0 : Int) == -1) = false := beq_eq_false_iff_ne.2 (by omega)
    clear h1 h2 hb1 HST HD1
    go_wp2
    go_loopw [5, 6, 7] (fun s5 s6 _ wr => ∃ (i j : Nat) (L' : List Value), s5 = .int .i64 i ∧ s6 = .int .i64 j ∧ i < j ∧ j ≤ n ∧ Hid (DelStO w wr g n i j L q ds L')) (fun _ s6 _ _ => (n - intOf s6).toNat)
    case atStart => exact ⟨i0, i0 + 1, L, rfl, by go_num, by omega, by omega, HI⟩
    case round =>
      obtain ⟨i, j, L', rfl, rfl, hij, hjn, HST⟩ := hrel
      have hL' := HST.out.row
      have hlen' : L'.length = c := by rw [HST.out.len]; exact HL.out
      by_cases hlt : j < n
      · obtain ⟨x, hx, hLx⟩ := HDL.out j hlt
        have cj : wr.cell? ⟨g, j, none⟩ = some (iv x) := by rw [hL'.cell, HST.out.hi j (Nat.le_refl _)]; exact hLx
        have c1 := HQ.out wr HST.out.gr x (List.mem_of_getElem? hx)
        have HX := hidb hx
        have hj0 : (0 : Int) ≤ (j : Int) := by omega
        have hj1 : (j : Int) < (n : Int) := by omega
        have hi0' : (0 : Int) ≤ (i : Int) := by omega
        have hi1' : (i : Int) < (n : Int) := by omega
        have HIC : Hid (∀ W, Below wr.heap.size wr W → ∃ u, W.cell? ⟨g, i, none⟩ = some u ∧ W.frozen? ⟨g, i, none⟩ = false) := hidb (fun W hb => by
          have h := hL'.below hb hL'.lt
          exact ⟨L'[i]'(by omega), by rw [h.cell]; exact List.getElem?_eq_getElem _, h.free i⟩)
        clear hx hLx hL'
        unfold iv at cj c1
        cases hT : q x with
        | true =>
          rw [hT] at c1
          have HST2 := hidb (fun W hb => (HST.out.below (w' := W) hb).skip HX.out hT)
          clear hT
          go_wp2_with (go_at_call 84; (with_reducible refine c1.mono ?_); rintro e w2 ⟨rfl, hb2⟩)
          go_roundw
          case rel => refine ⟨_, _, _, _, _, _, _, _, _, _, _, _, _, _, _, _, _, _, _, _, _, _, _, ?_, rfl⟩; exact ⟨i, j + 1, L', rfl, by go_num, by omega, by omega, hidb (HST2.out _ hb2)⟩
          case measure => simp [intOf]; omega
        | false =>
          rw [hT] at c1
          have HST2 := hidb (fun W hb => (HST.out.below (w' := W) hb).keep hij (by have := HL.out; omega) HX.out hT)
          clear hT
          
          go_wp2_with (go_at_call 84; (with_reducible refine c1.mono ?_); rintro e w2 ⟨rfl, hb2⟩; obtain ⟨u, ci1, ci2⟩ := HIC.out _ hb2)
          go_roundw
          case rel => refine ⟨_, _, _, _, _, _, _, _, _, _, _, _, _, _, _, _, _, _, _, _, _, _, _, ?_, rfl⟩; exact ⟨i + 1, j + 1, _, by go_num, by go_num, by omega, by omega, hidb (HST2.out _ hb2)⟩
          case measure => simp [intOf]; omega
      · obtain rfl : j = n := by omega
        have HRW := hidb hL'
        have hi0' : (0 : Int) ≤ (i : Int) := by omega
        have hi1' : (i : Int) ≤ (j : Int) := by omega
        have hi2' : (i : Int) < (c : Int) := by omega
        have hs0 : ((j : Int) - (i : Int)).toNat = j - i := by omega
        have hs1 : ((c : Int) - (i : Int)).toNat = c - i := by omega
        clear hL'
        go_wp2_with (first
          | (refine wpList_clearK rfl (.tmp 38) 38 rfl 3 _ Tryz.underlying38 zero_o _ g i _ _ rfl _ _ HRW.out (zones_o _) (by intro _; exact ⟨rfl, by rw [zeros_o]; omega⟩) ?_; intro w3 L3 hL3 hb3))
        go_ret
        have htk : (ds.take j).filter (fun x => !q x) = ds.filter fun x => !q x := by rw [List.take_of_length_le (by have := HDS.out; omega)]
        exact HFIN.out _ i L3 hL3.out.1 (by rw [hL3.out.2.1]; exact HST.out.len) (by rw [hL3.out.2.2, HST.out.tk, htk]) (by rw [← htk]; exact HST.out.fl) (grown_trans HST.out.gr hb3.out)

end Go.Proofs.YtlcdgmjinhbncaaGreat
/- What List, Spans and Out of a pool return. -/
namespace Go.Proofs.YtlcdgmjinhbncaaGreat
open Go.RowKit Go.Maps
set_option linter.unusedVariables false

/-- A row under way: what the first j cut spans give. -/
structure ReadSt (W1 wr : World) (e : TypeId) (s : Nat) (E : Type) (enc : E → List Value) (ts : List CutV) (f : CutV → List E) (j : Nat) (A : Option Addr) (m c : Nat) : Prop where
  row : wr.ownsRow W1.heap.size e s (.slice A m c) m (cellsAll enc ((ts.take j).flatMap f))
  len : ((ts.take j).flatMap f).length = m
  bel : Below W1.heap.size W1 wr
theorem ReadSt.start (W1 : World) (e : TypeId) (s : Nat) (E : Type) (enc : E → List Value) (ts : List CutV) (f : CutV → List E) : ReadSt W1 W1 e s E enc ts f 0 none 0 0 :=
  ⟨World.ownsRow_nil _ _ _ _, rfl, Below.refl _ _⟩
def encI1 (x : Int) : List Value := [iv x]
theorem cellsAll_i (l : List Int) : cellsAll encI1 l = l.map iv := by
  induction l with
  | nil => rfl
  | cons x l ih => show encI1 x ++ cellsAll encI1 l = _; rw [ih]; rfl
theorem ReadSt.step {W1 wr w2 w3 : World} {e : TypeId} {s : Nat} {E : Type} {enc : E → List Value} {ts : List CutV} {f : CutV → List E} {j m c m2 : Nat} {A A' : Option Addr} {c' : Nat} (h : ReadSt W1 wr e s E enc ts f j A m c) {k : CutV} (hk : ts[j]? = some k) (hb : Below wr.heap.size wr w2) (hm : (f k).length = m2)
    (hr : w3.ownsRow W1.heap.size e s (.slice A' (m + m2) c') (m + m2) (cellsAll enc ((ts.take j).flatMap f) ++ cellsAll enc (f k))) (hg : w2.grownBy w3 (Value.slice A m c).ownBlock) : ReadSt W1 w3 e s E enc ts f (j + 1) A' (m + m2) c' := by
  have e1 : (ts.take (j + 1)).flatMap f = (ts.take j).flatMap f ++ f k := by rw [List.take_add_one, hk, List.flatMap_append]; simp
  have hb2 : Below W1.heap.size W1 w2 := h.bel.trans (hb.mono h.bel.size)
  exact ⟨by rw [e1, cellsAll_append]; exact hr, by rw [e1, List.length_append, h.len, hm], hb2.grown hg hb2.size (fun b hb => (h.row.lt b hb).1)⟩
theorem ReadSt.below {W1 wr w2 : World} {e : TypeId} {s : Nat} {E : Type} {enc : E → List Value} {ts : List CutV} {f : CutV → List E} {j m c : Nat} {A : Option Addr} (h : ReadSt W1 wr e s E enc ts f j A m c) (hb : Below wr.heap.size wr w2) : ReadSt W1 w2 e s E enc ts f j A m c :=
  ⟨own_below h.row hb, h.len, h.bel.trans (hb.mono h.bel.size)⟩
/-- A row that was handed over stays. -/
theorem row_of_cuts {w1 : World} {base N c : Nat} {A : Option Addr} {ts : List CutV} (h : w1.ownsRow base 135 1 (.slice A N c) N (cellsAll pcell ts)) : Sl w1 w1.heap.size A N (ts.map pv) := by
  rw [cellsAll_p] at h; exact Sl.of_own h
/-- What a read of all cut spans that are asked for returns. -/
def Reads9 (w : World) (ks : List CutV) (q : CutV → Bool) (f : CutV → List Int) (e : Ending) (w' : World) : Prop := ∃ ds, InOrderP ks ds ∧ OwnInts w ((ds.filter q).flatMap f) e w'

end Go.Proofs.YtlcdgmjinhbncaaGreat
/- What Spans and Out of a pool return. -/
namespace Go.Proofs.YtlcdgmjinhbncaaGreat
open Go.RowKit Go.Maps
set_option linter.unusedVariables false

/-- The blocks of a cut span that are out. -/
def outK (k : CutV) : List Int := (pBlocks k.s).filter fun x => !decide (x ∈ k.l)
theorem q_out2 (x : Int) (t : Nat) (A : Option Addr) (n d : Nat) (l : List Int) (W : World) (ht : W.cell? ⟨t, 0, none⟩ = some (.slice A n d)) (hs : Sl W W.heap.size A n (l.map iv)) (hn : n ≤ 131072) :
    Calls Tryz.prog 84 #[iv x, .pointer (some ⟨t, 0, none⟩)] W fun e w' => e = .returned (.bool (decide (x ∈ l))) ∧ Below W.heap.size W w' := by
  have ci := code_pcontains A n d l x W hs hn
  generalize decide (x ∈ l) = r at ci ⊢
  unfold iv
  clear hs
  go_enter Tryz.func84, Tryz.ntmps84
  go_wp2_with (go_at_call 79; (with_reducible refine ci.mono ?_); rintro e w' ⟨rfl, rfl⟩)
  go_ret
  exact ⟨rfl, Below.refl _ _⟩

set_option maxRecDepth 100000 in
theorem code_pout {w : World} {Sh : Nat → Prop} {p hp ap g mb n m : Nat} {D : DataW Unit} {v : PoolW} (k : PlAt w Sh p hp ap g mb n m D v) (o : PlOk n m v) (_ : Unit) :
    Calls Tryz.prog 22 #[.pointer (some ⟨p, 0, none⟩)] w (Reads9 w v.ks (fun _ => true) outK) := by
  have cr : Calls Tryz.prog 73 #[.pointer (some ⟨p, 0, none⟩), .func (.func 81) #[] #[]] w (Rising w v.ks (fun _ => true)) :=
    code_rising k o 81 #[] _ (fun W2 t hb2 ht c hc => r2_all c t W2 ((k.cuts c hc).below hb2) ht)
  obtain ⟨_, hks⟩ := o.starts k.hp_.ok
  have HLEN : Hid (∀ ds, InOrderP v.ks ds → (ds.filter (fun _ => true)).length ≤ 1024 ∧ (∀ c ∈ ds.filter (fun _ => true), c ∈ v.ks) ∧ ∀ c ∈ ds.filter (fun _ => true), c.l.length ≤ 65536) := hidb (fun ds hd => by
    have hp1 : ds.Perm v.ks := (List.perm_ext_iff_of_nodup (nodup_of_mapK hd.1) (nodup_of_mapK o.ids)).2 hd.2.1
    have hl : (ds.filter (fun _ => true)).length ≤ ds.length := List.length_filter_le _ _
    have hm : ∀ c ∈ ds.filter (fun _ => true), c ∈ v.ks := fun c hc => (hd.2.1 c).1 (List.mem_filter.1 hc).1
    exact ⟨by rw [hp1.length_eq] at hl; omega, hm, fun c hc => (cList_len (o.lst c (hm c hc)) (by rw [k.ar.hlen]; exact k.ar.small)).1⟩)
  have HCI : Hid (∀ W, Below w.heap.size w W → ∀ c ∈ v.ks, W.cell? ⟨p, 1, none⟩ = some (.pointer (some ⟨ap, 0, none⟩)) ∧ Calls Tryz.prog 77 #[.pointer (some ⟨c.b, 0, none⟩), .pointer (some ⟨ap, 0, none⟩)] W (InIs W c.l) ∧ Calls Tryz.prog 83 #[.pointer (some ⟨c.b, 0, none⟩)] W (OwnInts W (pBlocks c.s))) := hidb (fun W hb c hc => by
    obtain ⟨h1, h2, h3, h4, h5⟩ := o.cutOk k.hp_.ok hc
    exact ⟨(k.below hb).c1, code_pin (k.below hb) o hc, code_pblocks c W ((k.cuts c hc).below hb) h1 h2 h3 h4 h5⟩)
  have HBL : Hid (∀ c ∈ v.ks, (pBlocks c.s).length ≤ 16) := hidb (fun c hc => by
    obtain ⟨h1, h2, h3, h4, h5⟩ := o.cutOk k.hp_.ok hc
    rw [pBlocks_length, h1]
    exact (pMany_16 _ h4 h5).2.1)
  obtain ⟨i0, hi, hz0, hz1, hz2⟩ := info_parts info_int
  unfold Rising OwnCuts at cr
  clear k o hks
  go_enter Tryz.func22, Tryz.ntmps22
  go_wp2_with (first
    | (go_at_call 73; (with_reducible refine cr.mono ?_); rintro e w1 ⟨ds, hd, A, d, rfl, hrow, hb1⟩; obtain ⟨ts, hts⟩ : ∃ ts, (List.filter (fun _ : CutV => true) ds) = ts := ⟨_, rfl⟩; rw [hts] at hrow; rw [hts]; obtain ⟨N, hN⟩ : ∃ N, List.length ts = N := ⟨_, rfl⟩; rw [hN] at hrow; rw [hN]))
  obtain ⟨hNl, hsub, hll⟩ := HLEN.out ds hd
  rw [hts] at hNl hsub hll
  rw [hN] at hNl
  have hsl := row_of_cuts hrow
  have HSUB := hidb hsub
  have HLL := hidb hll
  have HNE := hidb hN
  have HTS := hidb hts
  have HD := hidb hd
  have HB1 := hidb hb1
  have hz1s := hb1.size
  have HSL : Hid (∀ W, Below w1.heap.size w1 W → Sl W W.heap.size A N (ts.map pv)) := hidb (fun W hb => (hsl.below hb).more hb.size)
  clear hsub hll hN hts hd hb1 hsl hrow cr HLEN
  go_loopw [3, 5, 6, 10] (fun s5 _ _ s12 wr => ∃ (j : Nat) (A' : Option Addr) (m' c' : Nat), s12 = .int .i64 j ∧ s5 = .slice A' m' c' ∧ j ≤ N ∧ m' ≤ 16 * j ∧ Hid (ReadSt w1 wr 3 1 Int encI1 ts outK j A' m' c')) (fun _ _ _ s12 _ => (N - intOf s12).toNat)
  case atStart => exact ⟨0, none, 0, 0, rfl, rfl, by omega, by omega, hidb (ReadSt.start _ _ _ _ _ _ _)⟩
  case round =>
    obtain ⟨j, A', m', c', rfl, rfl, hj, hm', HR⟩ := hrel
    by_cases hlt : j < N
    · obtain ⟨b, off, u, rfl, _, hx, hc⟩ := (HSL.out wr HR.out.bel).at_ hlt
      obtain ⟨q, hq, rfl⟩ : ∃ q, ts[j]? = some q ∧ pv q = u := by
        rw [List.getElem?_map] at hx
        exact Option.map_eq_some_iff.1 hx
      have hqk := HSUB.out q (List.mem_of_getElem? hq)
      have hbw := HB1.out.trans (HR.out.bel.mono HB1.out.size)
      obtain ⟨c1, ci, _⟩ := HCI.out wr hbw q hqk
      have hll := HLL.out q (List.mem_of_getElem? hq)
      have hbl := HBL.out q hqk
      have hj0 : (0 : Int) ≤ (j : Int) := by omega
      have hj1 : (j : Int) < (N : Int) := by omega
      have HQ := hidb hq
      unfold pv at hc
      unfold InIs at ci
      obtain ⟨ml, hml⟩ : ∃ ml, (outK q).length = ml := ⟨_, rfl⟩
      have hml16 : ml ≤ 16 := by
        rw [← hml]
        exact Nat.le_trans (List.length_filter_le _ _) hbl
      have HML := hidb hml
      have HST : Hid (∀ w2 w3 A3 c3, Below wr.heap.size wr w2 → w3.ownsRow w1.heap.size 3 1 (.slice A3 (m' + ml) c3) (m' + ml) (cellsAll encI1 ((ts.take j).flatMap outK) ++ (outK q).map iv) → w2.grownBy w3 (Value.slice A' m' c').ownBlock → ReadSt w1 w3 3 1 Int encI1 ts outK (j + 1) A3 (m' + ml) c3) := hidb (fun w2 w3 A3 c3 hb hr hg => HR.out.step HQ.out hb HML.out (by rw [cellsAll_i (outK q)]; exact hr) hg)
      have hsz := HR.out.bel.size
      -- blocks, and DeleteFunc of them, behind 'in'
      have HDEL : Hid (∀ w2 A2 d2, Below wr.heap.size wr w2 → Sl w2 w2.heap.size A2 q.l.length (q.l.map iv) → ∀ w3 A3 d3, Below (w2.heap.size + 1) (w2.alloc (.cells #[.slice A2 q.l.length d2] 38)) w3 → w3.ownsRow (w2.heap.size + 1) 3 1 (.slice A3 (pBlocks q.s).length d3) (pBlocks q.s).length ((pBlocks q.s).map iv) →
          Calls Tryz.prog 82 #[.slice A3 (pBlocks q.s).length d3, .func (.func 84) #[] #[.pointer (some ⟨w2.heap.size, 0, none⟩)]] w3 fun e w4 => ∃ A4 c4, e = .returned (.slice A4 ml c4) ∧ Sl w4 w4.heap.size A4 ml ((outK q).map iv) ∧ (A4 = none → ml = 0) ∧ Below wr.heap.size wr w4) := hidb (fun w2 A2 d2 hb2 hin w3 A3 d3 hb3 hrow => by
        have hza : (w2.alloc (.cells #[.slice A2 q.l.length d2] 38)).heap.size = w2.heap.size + 1 := by simp
        have hbx : (w2.alloc (.cells #[.slice A2 q.l.length d2] 38)).cell? ⟨w2.heap.size, 0, none⟩ = some (.slice A2 q.l.length d2) := World.cell?_alloc_at _ _ _ 0 (by simp)
        have hina : Sl (w2.alloc (.cells #[.slice A2 q.l.length d2] 38)) (w2.heap.size + 1) A2 q.l.length (q.l.map iv) := (hin.alloc (Nat.le_refl _) _).more (Nat.le_succ _)
        have hrb : ∀ b, (Value.slice A3 (pBlocks q.s).length d3).ownBlock = some b → w2.heap.size + 1 ≤ b := fun b hb => (hrow.lt b hb).1
        refine (code_odel (fun x => decide (x ∈ q.l)) w2.heap.size A3 (pBlocks q.s).length d3 (pBlocks q.s) w3 (w2.heap.size + 1) hrow rfl (by omega) (fun W hg x hx => ?_)).mono ?_
        · have hbW : Below (w2.heap.size + 1) (w2.alloc (.cells #[.slice A2 q.l.length d2] 38)) W := hb3.grown hg (by have := hb3.size; omega) hrb
          exact q_out2 x w2.heap.size A2 q.l.length d2 q.l W ((hbW.cell (p := ⟨w2.heap.size, 0, none⟩) (by show w2.heap.size < _; omega)).trans hbx) ((hina.below hbW).more (by have := hbW.size; omega)) (by omega)
        · rintro e w4 ⟨A4, c4, rfl, hrow4, hg4⟩
          have e4 : ((pBlocks q.s).filter fun x => !(fun x => decide (x ∈ q.l)) x) = outK q := rfl
          rw [e4, HML.out] at hrow4
          refine ⟨A4, c4, by rw [e4, HML.out], Sl.of_own hrow4, fun h => ?_, ?_⟩
          · rcases hrow4.2 with ⟨_, h0⟩ | ⟨g', _, _, h1, _⟩
            · exact h0
            · injection h1 with h1; rw [h] at h1; cases h1
          · have hb5 : Below (w2.heap.size + 1) (w2.alloc (.cells #[.slice A2 q.l.length d2] 38)) w4 := hb3.grown hg4 (by have := hb3.size; omega) hrb
            exact (hb2.alloc hb2.size _).trans (hb5.mono (by have := hb2.size; omega)))
      have HBK : Hid (∀ w2 o, Below wr.heap.size wr w2 → Calls Tryz.prog 83 #[.pointer (some ⟨q.b, 0, none⟩)] (w2.alloc o) (OwnInts (w2.alloc o) (pBlocks q.s))) := hidb (fun w2 o hb => (HCI.out (w2.alloc o) (hbw.trans ((hb.alloc hb.size o).mono hbw.size)) q hqk).2.2)
      unfold OwnInts at HBK
      clear hx hq hml hbl
      go_wp2_with (first
        | (go_at_call 77; (with_reducible refine ci.mono ?_); rintro e w2 ⟨A2, d2, rfl, q3, q4, hb2, q6⟩; have hb2s := hb2.size; have cbk := HBK.out w2 (.cells #[.slice A2 q.l.length d2] 38) hb2; have HQ3 := hidb q3; clear q3 q4 q6)
        | (go_at_call 83; (with_reducible refine cbk.mono ?_); rintro e w3 ⟨A3, d3, rfl, hown3, hb3⟩; (rw [show (w2.alloc (.cells #[.slice A2 q.l.length d2] 38)).heap.size = w2.heap.size + 1 by simp] at hown3 hb3); have cdl := HDEL.out w2 A2 d2 hb2 HQ3.out w3 A3 d3 hb3 hown3; clear hown3 hb3)
        | (go_at_call 82; (with_reducible refine cdl.mono ?_); rintro e w4 ⟨A4, d4, rfl, p3, p4, hb4⟩; have hb4s := hb4.size)
        | (at_builtin; refine wpList_append_rowN w4 rfl _ _ 38 rfl w1.heap.size 3 i0 (.int .i64 0) 1 8 Tryz.underlying38 hi hz0 hz1 hz2 rfl (by decide) _ m' _ rfl (by exact own_below HR.out.row hb4) (by omega) A4 ml d4 ((outK q).map iv) rfl (by rw [List.length_map, HML.out, Nat.mul_one]) (fun h => p4 h) (sl_cells p3) (ivs_one _) (by unfold maxLen; omega) (by omega) ?_; intro A5 c5 w5 hown5 hg5; have HR5 := hidb (HST.out w4 w5 A5 c5 hb4 hown5 hg5); clear hown5 hg5))
      go_roundw
      case rel => exact ⟨j + 1, A5, m' + ml, c5, by go_num, rfl, by omega, by omega, HR5⟩
      case measure => simp [intOf]; omega
    · obtain rfl : j = N := by omega
      have P : Hid (Reads9 w v.ks (fun _ => true) outK (.returned (.slice A' m' c')) wr) := hidb (by
        have h1 := HR.out.row
        have h2 := HR.out.len
        rw [List.take_of_length_le (by rw [HNE.out]; exact Nat.le_refl _)] at h1 h2
        rw [cellsAll_i] at h1
        refine ⟨ds, HD.out, A', c', ?_, ?_, ?_⟩
        · rw [HTS.out, h2]
        · rw [HTS.out, h2]
          exact own_lower h1 (by have := HB1.out.size; omega)
        · exact HB1.out.trans (HR.out.bel.mono HB1.out.size))
      go_wp2
      go_ret
      exact P.out

end Go.Proofs.YtlcdgmjinhbncaaGreat
