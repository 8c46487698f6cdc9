/- slices.DeleteFunc of rows of spans, whatever the closure. -/
import Derived.Test.YtlcdgmjinhbncaaGreatPLargeIdx
import Derived.Test.YtlcdgmjinhbncaaGreatPHeapMain
import Derived.Deep.RegionHeld3
import Derived.Deep.RegionLaw
import Derived.Deep.QuietTactic
import Derived.BigQuiet
import Derived.Test.YtlcdgmjinhbncaaGreatPPoolReads2
namespace Go.Proofs.YtlcdgmjinhbncaaGreat
open Go.RowKit Go.Maps
set_option linter.unusedVariables false

theorem take_set4 {α : Type} (a b c d : α) : ∀ (o : Nat) (L : List α), o + 4 ≤ L.length → ((((L.set o a).set (o + 1) b).set (o + 2) c).set (o + 3) d).take (o + 4) = L.take o ++ [a, b, c, d]
  | 0, x :: y :: z :: t :: L, _ => by simp
  | o + 1, x :: L, h => by
    have ih := take_set4 a b c d o L (by simpa using h)
    simpa [Nat.add_assoc, Nat.add_comm, Nat.add_left_comm] using ih
theorem get_set4 {α : Type} (a b c d : α) (o m : Nat) (L : List α) (h : m < o ∨ o + 4 ≤ m) : ((((L.set o a).set (o + 1) b).set (o + 2) c).set (o + 3) d)[m]? = L[m]? := by
  rw [List.getElem?_set_ne (by omega), List.getElem?_set_ne (by omega), List.getElem?_set_ne (by omega), List.getElem?_set_ne (by omega)]
/-- A struct of four cells goes into the middle of a row. -/
theorem wpList_store_rw4 {P : Program} {ops : Array Oper} {rest : List Oper} {op : Oper} {a : Act} {w : World} {Q : Exit → Act → World → Prop} (hgd : op.guard = none) (ty : TypeId) (x y : Operand) (ho : op.op = .store ty x y)
    (g o : Nat) (e : TypeId) (L : List Value) (hr : Rw w g e L) (hl : o + 4 ≤ L.length) (v0 v1 v2 v3 : Value) (hx : a.eval x = .pointer (some ⟨g, o, none⟩)) (hy : a.eval y = .agg #[v0, v1, v2, v3]) (hi : (P.info? ty).map (·.size) = some 4) (h1 : (#[v0, v1, v2, v3] : Array Value).all (·.oneCell') = true)
    (h : ∀ w', Hid (Rw w' g e ((((L.set o v0).set (o + 1) v1).set (o + 2) v2).set (o + 3) v3)) → Hid (w.grownBy w' (some g)) → wpList P ops Q rest (a.put op.dst undef) w') : wpList P ops Q (op :: rest) a w := by
  refine wpList_store_mid hgd ty x y ho g o #[v0, v1, v2, v3] hx hy (fun j hj => ⟨?_, hr.free _⟩) hi h1 (h _ ?_ ?_)
  · have : j < 4 := hj
    rw [hr.cell, List.getElem?_eq_getElem (by omega)]; rfl
  · have := (((hr.setCell o v0).setCell (o + 1) v1).setCell (o + 2) v2).setCell (o + 3) v3
    exact hidb (by simpa [World.setCells] using this)
  · have := grown_row (grown_row (grown_row (grown_row (grownSelf (some g) w) o v0) (o + 1) v1) (o + 2) v2) (o + 3) v3
    exact hidb (by simpa [World.setCells] using this)

theorem spans_len (l : List Spn) : (cellsAll scells l).length = l.length * 4 := cellsAll_length scells_len l
theorem spans_take (ds : List Spn) (i : Nat) : (cellsAll scells ds).take (i * 4) = cellsAll scells (ds.take i) := by
  by_cases h : i ≤ ds.length
  · have e : cellsAll scells ds = cellsAll scells (ds.take i) ++ cellsAll scells (ds.drop i) := by rw [← cellsAll_append, List.take_append_drop]
    have hl : (cellsAll scells (ds.take i)).length = i * 4 := by rw [spans_len, List.length_take, Nat.min_eq_left h]
    rw [e, ← hl, List.take_left']
    rw [hl]
  · have h1 := spans_len ds
    rw [List.take_of_length_le (l := ds) (by omega), List.take_of_length_le (by omega)]

/-- What DeleteFunc leaves of a row. -/
def DeletedS (w : World) (base : Nat) (row : Option Nat) (ds : List Spn) (e : Ending) (w' : World) : Prop :=
  ∃ A c, e = .returned (.slice A ds.length c) ∧ w'.ownsRow base 49 4 (.slice A ds.length c) ds.length (cellsAll scells ds) ∧ w.grownBy w' row ∧ (Value.slice A ds.length c).ownBlock = row
/-- Where DeleteFunc stands. -/
structure DelStS (w wr : World) (g n i j : Nat) (L : List Value) (q : Spn → Bool) (ds : List Spn) (L' : List Value) : Prop where
  row : Rw wr g 49 L'
  len : L'.length = L.length
  tk : L'.take (i * 4) = cellsAll scells ((ds.take j).filter fun x => !q x)
  fl : ((ds.take j).filter fun x => !q x).length = i
  hi : ∀ m, j * 4 ≤ m → L'[m]? = L[m]?
  gr : w.grownBy wr (some g)
section
variable {w wr : World} {g n i j : Nat} {L L' : List Value} {q : Spn → Bool} {ds : List Spn}
theorem DelStS.below {w' : World} (h : DelStS w wr g n i j L q ds L') (hb : Below wr.heap.size wr w') : DelStS w w' g n i j L q ds L' :=
  ⟨h.row.below hb h.row.lt, h.len, h.tk, h.fl, h.hi, grown_trans h.gr (below_to_grown hb _)⟩
theorem DelStS.skip (h : DelStS w wr g n i j L q ds L') {x : Spn} (hx : ds[j]? = some x) (hq : q x = true) : DelStS w wr g n i (j + 1) L q ds L' := by
  have e : (ds.take (j + 1)).filter (fun x => !q x) = (ds.take j).filter (fun x => !q x) := by
    rw [List.take_add_one, hx, List.filter_append]; simp [hq]
  exact ⟨h.row, h.len, by rw [e]; exact h.tk, by rw [e]; exact h.fl, fun m hm => h.hi m (by omega), h.gr⟩
theorem DelStS.keep {w' : World} (h : DelStS w wr g n i j L q ds L') (hij : i < j) (hj : j * 4 < L.length) {x : Spn} (hx : ds[j]? = some x) (hq : q x = false)
    (hr : Rw w' g 49 ((((L'.set (i * 4) (iv x.1)).set (i * 4 + 1) (iv x.2.1)).set (i * 4 + 2) (iv x.2.2.1)).set (i * 4 + 3) (iv x.2.2.2))) (hg : wr.grownBy w' (some g)) :
    DelStS w w' g n (i + 1) (j + 1) L q ds ((((L'.set (i * 4) (iv x.1)).set (i * 4 + 1) (iv x.2.1)).set (i * 4 + 2) (iv x.2.2.1)).set (i * 4 + 3) (iv x.2.2.2)) := by
  have hl := h.len
  have e : (ds.take (j + 1)).filter (fun x => !q x) = (ds.take j).filter (fun x => !q x) ++ [x] := by
    rw [List.take_add_one, hx, List.filter_append]; simp [hq]
  refine ⟨hr, by simp only [List.length_set]; exact hl, ?_, by rw [e, List.length_append, h.fl]; rfl, fun m hm => ?_, grown_trans h.gr hg⟩
  · rw [show (i + 1) * 4 = i * 4 + 4 by omega, take_set4 _ _ _ _ _ _ (by omega), h.tk, e, cellsAll_append, cellsAll_one]
    rfl
  · rw [get_set4 _ _ _ _ _ _ _ (Or.inr (by omega))]
    exact h.hi m (by omega)
end
theorem start_s {q : Spn → Bool} {ds : List Spn} {i : Nat} (hi : i < ds.length) (h1 : ∀ (j : Nat) x, j < i → ds[j]? = some x → q x = false) (h2 : ∀ x, ds[i]? = some x → q x = true) : (ds.take (i + 1)).filter (fun x => !q x) = ds.take i := by
  have e1 : (ds.take i).filter (fun x => !q x) = ds.take i := List.filter_eq_self.2 fun x hx => by
    obtain ⟨k, hk, e⟩ := List.mem_iff_getElem.1 hx
    rw [List.length_take] at hk
    have := h1 k x (by omega) (by rw [← e, List.getElem_take]; exact List.getElem?_eq_getElem _)
    simp [this]
  have hx := List.getElem?_eq_getElem hi
  rw [List.take_add_one, hx, List.filter_append, e1]
  simp [h2 _ hx]
theorem zero_s (w : World) : (zeroValue 49).run Tryz.prog w = .ok (.agg #[.int .i64 0, .int .i64 0, .int .i64 0, .int .i64 0]) w := by kernel_rfl
theorem zeros_s (n : Nat) : (Builtin.zeroCells (.agg #[.int .i64 0, .int .i64 0, .int .i64 0, .int .i64 0] : Value).cells n).size = n * 4 := by simp [Builtin.zeroCells, Value.cells]
theorem zones_s (n : Nat) : ∀ v ∈ (Builtin.zeroCells (.agg #[.int .i64 0, .int .i64 0, .int .i64 0, .int .i64 0] : Value).cells n).toList, v.oneCell' = true := fun v hv => by
  have : ∀ u ∈ [Value.int .i64 0, .int .i64 0, .int .i64 0, .int .i64 0], u.oneCell' = true := by simp [Value.oneCell']
  simp [Builtin.zeroCells, Value.cells] at hv
  obtain ⟨k, hk, rfl⟩ := hv
  refine this _ ?_
  have h4 : k % 4 = 0 ∨ k % 4 = 1 ∨ k % 4 = 2 ∨ k % 4 = 3 := by omega
  rcases h4 with h | h | h | h <;> simp [h]

set_option maxRecDepth 100000 in
set_option maxHeartbeats 1000000 in
theorem code_sdel (G : Nat) (cb : Array Value) (eg : ∀ args w, (callFunc G args).run Tryz.prog w = .ok (.enter G args) w) (q : Spn → Bool) (A : Option Addr) (n c : Nat) (ds : List Spn) (w : World) (base : Nat) (hown : w.ownsRow base 49 4 (.slice A n c) n (cellsAll scells ds)) (hl : ds.length = n) (hn : n ≤ 4611686018427387903)
    (hq : ∀ W, w.grownBy W (Value.slice A n c).ownBlock → ∀ k ∈ ds, Calls Tryz.prog G (#[spv k] ++ cb) W fun e w' => e = .returned (.bool (q k)) ∧ Below W.heap.size W w') :
    Calls Tryz.prog 192 #[.slice A n c, .func (.func G) #[] cb] w (DeletedS w base (Value.slice A n c).ownBlock (ds.filter fun x => !q x)) := by
  have ci := code_sidx G cb eg q A n c ds w (RowOf.of_own scells_len hown hl) hn (fun W hb => hq W (below_to_grown hb _))
  have HD1 : Hid (∀ W, Below w.heap.size w W → (∀ k ∈ ds, q k = false) → DeletedS w base (Value.slice A n c).ownBlock (ds.filter fun x => !q x) (.returned (.slice A n c)) W) := hidb (fun W hb hk => by
    have e : (ds.filter fun x => !q x) = ds := List.filter_eq_self.2 fun x hx => by simp [hk x hx]
    rw [e]
    exact ⟨A, c, by rw [hl], by rw [hl]; exact own_below hown hb, below_to_grown hb _, by rw [hl]⟩)
  by_cases hne : n = 0
  · subst hne
    have hnil : ds = [] := List.eq_nil_of_length_eq_zero hl
    clear hown hq hl
    go_enter Tryz.func192, Tryz.ntmps192
    go_wp2_with (go_at_call 238; (with_reducible refine ci.mono ?_); rintro e w1 ⟨⟨r, rfl, (⟨rfl, _⟩ | ⟨i, hi, _⟩)⟩, hb1⟩)
    go_ret
    exact HD1.out _ hb1 (by rw [hnil]; intro k hk; cases hk)
  · obtain ⟨g, rfl⟩ : ∃ g, A = some ⟨g, 0, none⟩ := by
      rcases hown.2 with ⟨_, h⟩ | ⟨g, cap, cur, h, _⟩
      · exact absurd h hne
      · injection h with e1; exact ⟨g, e1⟩
    obtain ⟨L, hL, hbg, hnc, hcm, hLl, hxs⟩ := own_whole hown
    have HQ : Hid (∀ W, w.grownBy W (some g) → ∀ k ∈ ds, Calls Tryz.prog G (#[spv k] ++ cb) W fun e w' => e = .returned (.bool (q k)) ∧ Below W.heap.size W w') := hidb hq
    have HST : Hid (∀ i, i < n → (∀ (j : Nat) x, j < i → ds[j]? = some x → q x = false) → (∀ x, ds[i]? = some x → q x = true) → ∀ W, Below w.heap.size w W → DelStS w W g n i (i + 1) L q ds L) := hidb (fun i hi h1 h2 W hb => by
      have e := start_s (by omega) h1 h2
      refine ⟨hL.below hb hL.lt, rfl, ?_, by rw [e, List.length_take]; omega, fun _ _ => rfl, below_to_grown hb _⟩
      rw [e, ← spans_take, hxs, List.take_take, Nat.min_eq_left (by omega)])
    have HDL : Hid (∀ j, j < n → ∃ x, ds[j]? = some x ∧ ∀ k, k < 4 → L[j * 4 + k]? = (scells x)[k]?) := hidb (fun j hj => by
      have h1 := List.getElem?_eq_getElem (l := ds) (i := j) (by omega)
      refine ⟨_, h1, fun k hk => ?_⟩
      have h2 : (L.take (n * 4))[j * 4 + k]? = L[j * 4 + k]? := by rw [List.getElem?_take, if_pos (by omega)]
      rw [← h2, ← hxs]
      exact cellsAll_at scells_len ds j _ h1 k hk)
    have HFIN : Hid (∀ W i L3, Rw W g 49 L3 → L3.length = L.length → L3.take (i * 4) = cellsAll scells (ds.filter fun x => !q x) → (ds.filter fun x => !q x).length = i → w.grownBy W (some g) → DeletedS w base (Value.slice (some ⟨g, 0, none⟩) n c).ownBlock (ds.filter fun x => !q x) (.returned (.slice (some ⟨g, 0, none⟩) i c)) W) := hidb (fun W i L3 h1 h2 h3 h4 h5 => by
      have hic : i ≤ c := by
        have := List.length_filter_le (fun x => !q x) ds
        omega
      have h6 := own_of_whole (base := base) (s := 4) (n := i) (c := c) h1 hbg hic hcm (by rw [h2, hLl])
      rw [h3] at h6
      exact ⟨some ⟨g, 0, none⟩, c, by rw [h4], by rw [h4]; exact h6, h5, rfl⟩)
    have hg := hL.lt
    have HL := hidb hLl
    have HDS := hidb hl
    have hc2 : c ≤ 9223372036854775807 := hcm
    clear hown hq hL hLl hxs hl hbg hcm
    go_enter Tryz.func192, Tryz.ntmps192
    go_wp2_with (go_at_call 238; (with_reducible refine ci.mono ?_); rintro e w1 ⟨⟨r, rfl, (⟨rfl, hall⟩ | ⟨i0, hi0, rfl, h1, h2⟩)⟩, hb1⟩)
    · go_ret
      exact HD1.out _ hb1 hall
    have HI := hidb (HST.out i0 hi0 h1 h2 w1 hb1)
    have hne1 : ((i0 : Int) == -1) = false := beq_eq_false_iff_ne.2 (by omega)
    clear h1 h2 hb1 HST HD1
    go_wp2
    go_loopw [5, 6, 7] (fun s5 s6 _ wr => ∃ (i j : Nat) (L' : List Value), s5 = .int .i64 i ∧ s6 = .int .i64 j ∧ i < j ∧ j ≤ n ∧ Hid (DelStS w wr g n i j L q ds L')) (fun _ s6 _ _ => (n - intOf s6).toNat)
    case atStart => exact ⟨i0, i0 + 1, L, rfl, by go_num, by omega, by omega, HI⟩
    case round =>
      obtain ⟨i, j, L', rfl, rfl, hij, hjn, HST⟩ := hrel
      have hL' := HST.out.row
      have hlen' : L'.length = c * 4 := by rw [HST.out.len]; exact HL.out
      by_cases hlt : j < n
      · obtain ⟨⟨a1, a2, a3, a4⟩, hx, hLx⟩ := HDL.out j hlt
        have cj : ∀ k, k < 4 → wr.cell? ⟨g, j * 4 + k, none⟩ = (scells (a1, a2, a3, a4))[k]? := fun k hk => by rw [hL'.cell, HST.out.hi _ (by omega)]; exact hLx k hk
        have cj0 : wr.cell? ⟨g, j * 4, none⟩ = some (.int .i64 a1) := cj 0 (by omega)
        have cj1 : wr.cell? ⟨g, j * 4 + 1, none⟩ = some (.int .i64 a2) := cj 1 (by omega)
        have cj2 : wr.cell? ⟨g, j * 4 + 2, none⟩ = some (.int .i64 a3) := cj 2 (by omega)
        have cj3 : wr.cell? ⟨g, j * 4 + 3, none⟩ = some (.int .i64 a4) := cj 3 (by omega)
        have c1 := HQ.out (wr.alloc (.cells #[.int .i64 a1, .int .i64 a2, .int .i64 a3, .int .i64 a4] 49)) (grown_trans HST.out.gr (World.grownBy_alloc wr _ _)) _ (List.mem_of_getElem? hx)
        have HX := hidb hx
        have hj0 : (0 : Int) ≤ (j : Int) := by omega
        have hj1 : (j : Int) < (n : Int) := by omega
        have hi0' : (0 : Int) ≤ (i : Int) := by omega
        have hi1' : (i : Int) < (n : Int) := by omega
        have HA : Hid (∀ W, Below (wr.alloc (.cells #[.int .i64 a1, .int .i64 a2, .int .i64 a3, .int .i64 a4] 49)).heap.size (wr.alloc (.cells #[.int .i64 a1, .int .i64 a2, .int .i64 a3, .int .i64 a4] 49)) W → Below wr.heap.size wr W ∧ SpAt W wr.heap.size (a1, a2, a3, a4)) := hidb (fun W hb => ⟨((Below.refl _ _).alloc (Nat.le_refl _) _).trans (hb.mono (by simp)), (SpAt.new_ wr (a1, a2, a3, a4) 49).below hb (by simp)⟩)
        have HRW : Hid (∀ W, Below wr.heap.size wr W → Rw W g 49 L') := hidb (fun W hb => hL'.below hb hL'.lt)
        clear hx hLx hL' cj
        unfold spv at c1
        simp only at c1
        cases hT : q (a1, a2, a3, a4) with
        | true =>
          rw [hT] at c1
          have HST2 := hidb (fun W hb => (HST.out.below (w' := W) hb).skip HX.out hT)
          clear hT
          go_wp2_with (go_at_fn G; (with_reducible refine c1.mono ?_); rintro e w2 ⟨rfl, hb2⟩)
          obtain ⟨hb3, _⟩ := HA.out _ hb2
          go_roundw
          case rel => refine ⟨_, _, _, _, _, _, _, _, _, _, _, _, _, _, _, _, _, _, _, _, _, _, _, ?_, rfl⟩; exact ⟨i, j + 1, L', rfl, by go_num, by omega, by omega, hidb (HST2.out _ hb3)⟩
          case measure => simp [intOf]; omega
        | false =>
          rw [hT] at c1
          have HST2 := hidb (fun W w3 (hb : Below wr.heap.size wr W) hr hg => (HST.out.below (w' := W) hb).keep (w' := w3) hij (by have := HL.out; omega) HX.out hT hr hg)
          clear hT
          go_wp2_with (first
            | (go_at_fn G; (with_reducible refine c1.mono ?_); rintro e w2 ⟨rfl, hb2⟩; obtain ⟨hb3, hsp⟩ := HA.out _ hb2; obtain ⟨y0, y1, y2, y3⟩ := hsp.cells)
            | (refine wpList_store_rw4 rfl 49 (.tmp 33) (.tmp 32) rfl g (i * 4) 49 L' (HRW.out _ hb3) (by omega) (.int .i64 a1) (.int .i64 a2) (.int .i64 a3) (.int .i64 a4) rfl rfl (by kernel_rfl) (by kernel_rfl) ?_; intro w3 hr3 hg3))
          have H4 := hidb (HST2.out w2 w3 hb3 hr3.out hg3.out)
          go_roundw
          case rel => refine ⟨_, _, _, _, _, _, _, _, _, _, _, _, _, _, _, _, _, _, _, _, _, _, _, ?_, rfl⟩; exact ⟨i + 1, j + 1, _, by go_num, by go_num, by omega, by omega, H4⟩
          case measure => simp [intOf]; omega
      · obtain rfl : j = n := by omega
        have HRW := hidb hL'
        have hi0' : (0 : Int) ≤ (i : Int) := by omega
        have hi1' : (i : Int) ≤ (j : Int) := by omega
        have hi2' : (i : Int) < (c : Int) := by omega
        have hs0 : ((j : Int) - (i : Int)).toNat = j - i := by omega
        have hs1 : ((c : Int) - (i : Int)).toNat = c - i := by omega
        clear hL'
        go_wp2_with (first
          | (refine wpList_clearK rfl (.tmp 38) 30 rfl 49 _ Tryz.underlying30 zero_s _ g (i * 4) _ _ rfl _ _ HRW.out (zones_s _) (by intro _; exact ⟨rfl, by rw [zeros_s]; omega⟩) ?_; intro w3 L3 hL3 hb3))
        go_ret
        have htk : (ds.take j).filter (fun x => !q x) = ds.filter fun x => !q x := by rw [List.take_of_length_le (by have := HDS.out; omega)]
        exact HFIN.out _ i L3 hL3.out.1 (by rw [hL3.out.2.1]; exact HST.out.len) (by rw [hL3.out.2.2, HST.out.tk, htk]) (by rw [← htk]; exact HST.out.fl) (grown_trans HST.out.gr hb3.out)

end Go.Proofs.YtlcdgmjinhbncaaGreat
/- Layer 10's keeper: where it lies, and what is read of it. -/
namespace Go.Proofs.YtlcdgmjinhbncaaGreat
open Go.RowKit Go.Maps
set_option linter.unusedVariables false

theorem bel_al2 {W X : World} (h : Below W.heap.size W X) (o : Obj) : Below W.heap.size W (X.alloc o) := h.alloc h.size o
theorem bel_dr2 {W X : World} (h : Below W.heap.size W X) : Below W.heap.size W X.drew := h.drew
theorem bel_tr2 {W X Y : World} (h : Below W.heap.size W X) (k : Below X.heap.size X Y) : Below W.heap.size W Y := h.trans (k.mono h.size)

/-- A slice's block. -/
def ab (A : Option Addr) : Option Nat := (Value.slice A 0 0).ownBlock
theorem ab_eq (A : Option Addr) (n c : Nat) : (Value.slice A n c).ownBlock = ab A := by cases A <;> rfl

/-- parts: a keeper's four cells. -/
theorem code_kparts (p : Nat) (hp : Option Addr) (K : Option Addr) (kn kc : Nat) (V : Option Addr) (vn vc : Nat) (held : Bool) (w : World) (h0 : w.cell? ⟨p, 0, none⟩ = some (.pointer hp)) (h1 : w.cell? ⟨p, 1, none⟩ = some (.slice K kn kc)) (h2 : w.cell? ⟨p, 2, none⟩ = some (.slice V vn vc)) (h3 : w.cell? ⟨p, 3, none⟩ = some (.bool held)) :
    Calls Tryz.prog 180 #[.pointer (some ⟨p, 0, none⟩)] w fun e w' => e = .returned (.agg #[.pointer hp, .slice K kn kc, .slice V vn vc, .bool held]) ∧ Below w.heap.size w w' := by
  replace h0 := alloc_old (.cells #[.pointer none, .slice none 0 0, .slice none 0 0, .bool false] 243) h0
  replace h1 := alloc_old (.cells #[.pointer none, .slice none 0 0, .slice none 0 0, .bool false] 243) h1
  replace h2 := alloc_old (.cells #[.pointer none, .slice none 0 0, .slice none 0 0, .bool false] 243) h2
  replace h3 := alloc_old (.cells #[.pointer none, .slice none 0 0, .slice none 0 0, .bool false] 243) h3
  go_enter Tryz.func180, Tryz.ntmps180
  go_wp2
  refine bodyPost_ret (v := .agg #[.pointer hp, .slice K kn kc, .slice V vn vc, .bool held]) (by simp [results, Tryz.results180, go_sem]) rfl ?_
  exact ⟨rfl, (Below.refl _ _).alloc (Nat.le_refl _) _⟩
theorem field_k0 (hp K V : Option Addr) (kn kc vn vc : Nat) (b : Bool) (w : World) : (Instr.field 243 (.agg #[.pointer hp, .slice K kn kc, .slice V vn vc, .bool b]) 0).run Tryz.prog w = .ok (.pointer hp) w := by kernel_rfl
theorem field_k1 (hp K V : Option Addr) (kn kc vn vc : Nat) (b : Bool) (w : World) : (Instr.field 243 (.agg #[.pointer hp, .slice K kn kc, .slice V vn vc, .bool b]) 1).run Tryz.prog w = .ok (.slice K kn kc) w := by kernel_rfl
theorem field_k2 (hp K V : Option Addr) (kn kc vn vc : Nat) (b : Bool) (w : World) : (Instr.field 243 (.agg #[.pointer hp, .slice K kn kc, .slice V vn vc, .bool b]) 2).run Tryz.prog w = .ok (.slice V vn vc) w := by kernel_rfl

/-- What parts answers, of a keeper or of none. -/
structure PartsOf (w : World) (kv : Option Addr) (hp K : Option Addr) (kc : Nat) (V : Option Addr) (vc : Nat) (kept waits : List Spn) (held : Bool) : Prop where
  call : ∀ W, Below w.heap.size w W → Calls Tryz.prog 180 #[.pointer kv] W fun e w' => e = .returned (.agg #[.pointer hp, .slice K kept.length kc, .slice V waits.length vc, .bool held]) ∧ Below W.heap.size W w'
  kn : Sn w w.heap.size K kept.length kept
  vn : Sn w w.heap.size V waits.length waits
  ks : kept.length ≤ 1024
  vs : waits.length ≤ 1024
theorem PartsOf.below {w w' : World} {kv hp K V : Option Addr} {kc vc : Nat} {kept waits : List Spn} {held : Bool} (h : PartsOf w kv hp K kc V vc kept waits held) (hb : Below w.heap.size w w') : PartsOf w' kv hp K kc V vc kept waits held :=
  ⟨fun W k => h.call W (bel_tr2 hb k), RowOf.more (RowOf.below h.kn hb) hb.size, RowOf.more (RowOf.below h.vn hb) hb.size, h.ks, h.vs⟩
section
variable {w : World} {kv hp K V : Option Addr} {kc vc : Nat} {kept waits : List Spn} {held : Bool}
/-- Kept. -/
theorem code_kkept (h : PartsOf w kv hp K kc V vc kept waits held) (n : Int) : Calls Tryz.prog 116 #[.pointer kv, .int .i64 n] w (OwnInts w ((lOf kept n).map (·.1))) := by
  have ks := h.ks
  have HP := hidb h
  have ff := @field_k1
  have cz := fun W => code_sized n W
  have HT : Hid (∀ W t (B : World), Below w.heap.size w B → Below B.heap.size B W → t < B.heap.size → B.cell? ⟨t, 0, none⟩ = some (.int .i64 n) → W.cell? ⟨t, 0, none⟩ = some (.int .i64 n)) := hidb (fun W t B _ hb ht hc => (hb.cell (p := ⟨t, 0, none⟩) ht).trans hc)
  obtain ⟨r, hr⟩ : ∃ r, lOf kept n = r := ⟨_, rfl⟩
  have hrl : r.length ≤ 1024 := by rw [← hr]; exact Nat.le_trans (List.length_filter_le _ _) ks
  have HC : Hid (∀ w1, Below w.heap.size w w1 → Calls Tryz.prog 179 #[.slice K kept.length kc, .func (.func 235) #[] #[.pointer (some ⟨w1.heap.size, 0, none⟩)]] (w1.alloc (.cells #[.int .i64 n] 3)) fun e w' => ∃ A c, e = .returned (.slice A r.length c) ∧ Sn w' w'.heap.size A r.length r ∧ Below w.heap.size w w') := hidb (fun w1 hb => by
    have hb2 := bel_al2 hb (.cells #[.int .i64 n] 3)
    refine (code_those K kept.length kc kept w1.heap.size n _ (RowOf.more (RowOf.below HP.out.kn hb2) hb2.size) (by omega) (by simp)).mono ?_
    rw [hr]
    rintro e w' ⟨A, c, rfl, h1, h2⟩
    exact ⟨A, c, rfl, RowOf.of_own scells_len h1 rfl, bel_tr2 hb2 h2⟩)
  have HN : Hid (∀ w2 A c, Below w.heap.size w w2 → Sn w2 w2.heap.size A r.length r → Calls Tryz.prog 178 #[.slice A r.length c] w2 (OwnInts w (r.map (·.1)))) := hidb (fun w2 A c hb hs => by
    refine (code_lnumbers A r.length c r w2 hs (by omega)).mono ?_
    rintro e w' ⟨A', c', rfl, h1, h2⟩
    exact ⟨A', c', rfl, own_lower h1 hb.size, bel_tr2 hb h2⟩)
  rw [hr]
  obtain ⟨kl, hkl⟩ : ∃ kl, kept.length = kl := ⟨_, rfl⟩
  have HCP : Hid (∀ W, Below w.heap.size w W → Calls Tryz.prog 180 #[.pointer kv] W fun e w' => e = .returned (.agg #[.pointer hp, .slice K kl kc, .slice V waits.length vc, .bool held]) ∧ Below W.heap.size W w') := hidb (by rw [← hkl]; exact HP.out.call)
  rw [hkl] at HC
  have HF := hidb ff
  clear hr hkl ff h HP ks
  go_enter Tryz.func116, Tryz.ntmps116
  have ff := HF.out
  go_wp2_with (first
    | (go_at_call 180; (with_reducible refine (HCP.out _ (Below.refl _ _)).mono ?_); rintro e w1 ⟨rfl, hb1⟩)
    | (go_at_call 181; (with_reducible refine (cz _).mono ?_); rintro e w2 ⟨rfl, rfl⟩)
    | (go_at_call 179; (with_reducible refine (HC.out _ hb1).mono ?_); rintro e w3 ⟨A3, c3, rfl, hs3, hb3⟩)
    | (go_at_call 178; (with_reducible refine (HN.out _ _ _ hb3 hs3).mono ?_); rintro e w4 h4; obtain ⟨A4, c4, h4e, h4r, h4b⟩ := h4; subst h4e))
  go_ret
  refine ⟨A4, c4, ?_, h4r, h4b⟩
  rw [List.length_map]; rfl
/-- What stack answers. -/
def StackIs (w : World) (r : Option Spn) (e : Ending) (w' : World) : Prop := e = .returned (.tuple #[spv (r.getD spanNone), .bool r.isSome]) ∧ Below w.heap.size w w'
theorem lStack_at {h : HeapV} (id : Int) : ((h.l.any fun s => s.1 == id) = false → lStack h id = none) ∧ ((h.l.any fun s => s.1 == id) = true → lStack h id = if lBig (spanOf h.l id) then some (spanOf h.l id) else none) := by
  unfold lStack spanOf
  cases e : h.l.find? (fun s => s.1 == id) with
  | none =>
    refine ⟨fun _ => rfl, fun h2 => ?_⟩
    obtain ⟨s, hs, hs2⟩ := List.any_eq_true.1 h2
    have := List.find?_eq_none.1 e s hs
    exact absurd hs2 this
  | some s =>
    refine ⟨fun h2 => ?_, fun _ => ?_⟩
    · have h3 : (h.l.any fun s => s.1 == id) = true := List.any_eq_true.2 ⟨s, List.mem_of_find?_eq_some e, by have := List.find?_some e; exact this⟩
      rw [h3] at h2; cases h2
    · simp only [Option.getD_some]
      cases hb : lBig s <;> simp [Option.filter, hb]
/-- stack: the large stack of a number. -/
theorem code_kstack (h : PartsOf w kv hp K kc V vc kept waits held) (id : Int) (s : Spn) (ok : Bool) (r : Option Spn) (hr : (ok = false → r = none) ∧ (ok = true → r = if lBig s then some s else none)) (hs : in64 s.2.2.1)
    (hcs : ∀ W, Below w.heap.size w W → Calls Tryz.prog 183 #[.pointer hp, .int .i64 id] W (SpanIs W s ok)) :
    Calls Tryz.prog 185 #[.pointer kv, .int .i64 id] w (StackIs w r) := by
  obtain ⟨s1, s2, s3, s4⟩ := s
  have HCP := hidb h.call
  have HCS : Hid (∀ W, Below w.heap.size w W → Calls Tryz.prog 183 #[.pointer hp, .int .i64 id] W fun e w' => e = .returned (.tuple #[.agg #[.int .i64 s1, .int .i64 s2, .int .i64 s3, .int .i64 s4], .bool ok]) ∧ Below W.heap.size W w') := hidb hcs
  have ff := @field_k0
  have hb0 : Below w.heap.size w (w.alloc (.cells #[.int .i64 0, .int .i64 0, .int .i64 0, .int .i64 0] 49)) := (Below.refl _ _).alloc (Nat.le_refl _) _
  have HB0 := hidb hb0
  have hzz : w.heap.size < (w.alloc (.cells #[.int .i64 0, .int .i64 0, .int .i64 0, .int .i64 0] 49)).heap.size := by simp
  have HC : Hid (∀ W, Below (w.alloc (.cells #[.int .i64 0, .int .i64 0, .int .i64 0, .int .i64 0] 49)).heap.size (w.alloc (.cells #[.int .i64 0, .int .i64 0, .int .i64 0, .int .i64 0] 49)) W →
      W.heap[w.heap.size]? = some (.cells #[.int .i64 0, .int .i64 0, .int .i64 0, .int .i64 0] 49 (0, 0))) := hidb (fun W hb => (hb.block _ hzz).trans (by show (w.heap.push _)[w.heap.size]? = _; simp))
  have hf64 := hs
  simp only at hf64
  have ci := fun W => code_isSize s3 W hf64
  clear hcs hb0 hs h
  have HAL : Hid (∀ (w2 w3 : World) (d : Int), Below (w.alloc (.cells #[.int .i64 0, .int .i64 0, .int .i64 0, .int .i64 0] 49)).heap.size (w.alloc (.cells #[.int .i64 0, .int .i64 0, .int .i64 0, .int .i64 0] 49)) w2 → Below (w2.alloc (.cells #[.int .i64 s1, .int .i64 s2, .int .i64 s3, .int .i64 d] 49)).heap.size (w2.alloc (.cells #[.int .i64 s1, .int .i64 s2, .int .i64 s3, .int .i64 d] 49)) w3 → Below (w.alloc (.cells #[.int .i64 0, .int .i64 0, .int .i64 0, .int .i64 0] 49)).heap.size (w.alloc (.cells #[.int .i64 0, .int .i64 0, .int .i64 0, .int .i64 0] 49)) w3) := hidb (fun w2 w3 d hb hb2 => bel_tr2 (bel_al2 hb _) hb2)
  have HSP : Hid (∀ (w2 w3 : World) (d : Int), Below (w2.alloc (.cells #[.int .i64 s1, .int .i64 s2, .int .i64 s3, .int .i64 d] 49)).heap.size (w2.alloc (.cells #[.int .i64 s1, .int .i64 s2, .int .i64 s3, .int .i64 d] 49)) w3 → SpAt w3 w2.heap.size (s1, s2, s3, d)) := hidb (fun w2 w3 d hb => (SpAt.new_ w2 (s1, s2, s3, d) 49).below hb (by simp))
  cases ok with
  | false =>
    rw [hr.1 rfl]
    clear hr
    go_enter Tryz.func185, Tryz.ntmps185
    go_wp2_with (first
      | (go_at_call 180; (with_reducible refine (HCP.out _ HB0.out).mono ?_); rintro e w1 ⟨rfl, hb1⟩; have hb2 := bel_tr2 HB0.out hb1)
      | (go_at_call 183; (with_reducible refine (HCS.out _ hb2).mono ?_); rintro e w2 ⟨rfl, hb3⟩; have hb4 := hb1.trans (hb3.mono hb1.size); obtain ⟨q0, q1, q2, q3, z0, z1, z2, z3⟩ := cells4 (HC.out _ hb4); have hlt1 : w.heap.size < w2.heap.size := lt_of_cell q0))
    obtain ⟨x0, x1, x2, x3⟩ := four_cellsH w2 w.heap.size (.int .i64 0) (.int .i64 0) (.int .i64 0) (.int .i64 0) _ _ _ _ q0 q1 q2 q3
    have y0 := alloc_old (.cells #[.int .i64 s1, .int .i64 s2, .int .i64 s3, .int .i64 s4] 49) x0
    have y1 := alloc_old (.cells #[.int .i64 s1, .int .i64 s2, .int .i64 s3, .int .i64 s4] 49) x1
    have y2 := alloc_old (.cells #[.int .i64 s1, .int .i64 s2, .int .i64 s3, .int .i64 s4] 49) x2
    have y3 := alloc_old (.cells #[.int .i64 s1, .int .i64 s2, .int .i64 s3, .int .i64 s4] 49) x3
    refine bodyPost_ret (v := .tuple #[.agg #[.int .i64 0, .int .i64 0, .int .i64 0, .int .i64 0], .bool false]) (by simp [results, Tryz.results185, go_sem, y0, y1, y2, y3]) rfl ?_
    exact ⟨rfl, bel_al2 (below_set4H (bel_tr2 HB0.out hb4) (Nat.le_refl _) _ _ _ _) _⟩
  | true =>
    have hr2 := hr.2 rfl
    unfold lBig at hr2
    simp only at hr2
    clear hr
    by_cases ho : s4 = -1
    · subst ho
      cases hf : lFits s3 with
      | false =>
        obtain rfl : r = none := by rw [hr2, hf]; rfl
        rw [hf] at ci
        clear hr2 hf
        go_enter Tryz.func185, Tryz.ntmps185
        go_wp2_with (first
          | (go_at_call 180; (with_reducible refine (HCP.out _ HB0.out).mono ?_); rintro e w1 ⟨rfl, hb1⟩; have hb2 := bel_tr2 HB0.out hb1)
          | (go_at_call 183; (with_reducible refine (HCS.out _ hb2).mono ?_); rintro e w2 ⟨rfl, hb3⟩; have hb4 := hb1.trans (hb3.mono hb1.size); obtain ⟨q0, q1, q2, q3, z0, z1, z2, z3⟩ := cells4 (HC.out _ hb4); have hlt1 : w.heap.size < w2.heap.size := lt_of_cell q0)
          | (go_at_call 191; (with_reducible refine (ci _).mono ?_); rintro e w3 ⟨rfl, hb5⟩; have hb6 := HAL.out w2 w3 (-1) hb4 hb5; obtain ⟨x0, x1, x2, x3, z4, z5, z6, z7⟩ := cells4 (HC.out _ hb6); have hlt3 : w.heap.size < w3.heap.size := lt_of_cell x0))
        obtain ⟨y0, y1, y2, y3⟩ := four_cellsH w3 w.heap.size (.int .i64 0) (.int .i64 0) (.int .i64 0) (.int .i64 0) _ _ _ _ x0 x1 x2 x3
        refine bodyPost_ret (v := .tuple #[.agg #[.int .i64 0, .int .i64 0, .int .i64 0, .int .i64 0], .bool false]) (by simp [results, Tryz.results185, go_sem, y0, y1, y2, y3]) rfl ?_
        exact ⟨rfl, below_set4H (bel_tr2 HB0.out hb6) (Nat.le_refl _) _ _ _ _⟩
      | true =>
        obtain rfl : r = some (s1, s2, s3, -1) := by rw [hr2, hf]; rfl
        rw [hf] at ci
        clear hr2 hf
        go_enter Tryz.func185, Tryz.ntmps185
        go_wp2_with (first
          | (go_at_call 180; (with_reducible refine (HCP.out _ HB0.out).mono ?_); rintro e w1 ⟨rfl, hb1⟩; have hb2 := bel_tr2 HB0.out hb1)
          | (go_at_call 183; (with_reducible refine (HCS.out _ hb2).mono ?_); rintro e w2 ⟨rfl, hb3⟩; have hb4 := hb1.trans (hb3.mono hb1.size); obtain ⟨q0, q1, q2, q3, z0, z1, z2, z3⟩ := cells4 (HC.out _ hb4); have hlt1 : w.heap.size < w2.heap.size := lt_of_cell q0)
          | (go_at_call 191; (with_reducible refine (ci _).mono ?_); rintro e w3 ⟨rfl, hb5⟩; have hb6 := HAL.out w2 w3 (-1) hb4 hb5; obtain ⟨x0, x1, x2, x3, z4, z5, z6, z7⟩ := cells4 (HC.out _ hb6); have hlt3 : w.heap.size < w3.heap.size := lt_of_cell x0; obtain ⟨t0, t1, t2, t3⟩ := (HSP.out w2 w3 (-1) hb5).cells))
        obtain ⟨y0, y1, y2, y3⟩ := four_cellsH w3 w.heap.size (.int .i64 s1) (.int .i64 s2) (.int .i64 s3) (.int .i64 (-1)) _ _ _ _ x0 x1 x2 x3
        refine bodyPost_ret (v := .tuple #[.agg #[.int .i64 s1, .int .i64 s2, .int .i64 s3, .int .i64 (-1)], .bool true]) (by simp [results, Tryz.results185, go_sem, y0, y1, y2, y3]) rfl ?_
        exact ⟨rfl, below_set4H (bel_tr2 HB0.out hb6) (Nat.le_refl _) _ _ _ _⟩
    · obtain rfl : r = none := by rw [hr2, decide_eq_false ho]; rfl
      have hd : (s4 != -1) = true := by simpa using ho
      clear hr2 ho
      go_enter Tryz.func185, Tryz.ntmps185
      go_wp2_with (first
        | (go_at_call 180; (with_reducible refine (HCP.out _ HB0.out).mono ?_); rintro e w1 ⟨rfl, hb1⟩; have hb2 := bel_tr2 HB0.out hb1)
        | (go_at_call 183; (with_reducible refine (HCS.out _ hb2).mono ?_); rintro e w2 ⟨rfl, hb3⟩; have hb4 := hb1.trans (hb3.mono hb1.size); obtain ⟨q0, q1, q2, q3, z0, z1, z2, z3⟩ := cells4 (HC.out _ hb4); have hlt1 : w.heap.size < w2.heap.size := lt_of_cell q0))
      obtain ⟨x0, x1, x2, x3⟩ := four_cellsH w2 w.heap.size (.int .i64 0) (.int .i64 0) (.int .i64 0) (.int .i64 0) _ _ _ _ q0 q1 q2 q3
      have y0 := alloc_old (.cells #[.int .i64 s1, .int .i64 s2, .int .i64 s3, .int .i64 s4] 49) x0
      have y1 := alloc_old (.cells #[.int .i64 s1, .int .i64 s2, .int .i64 s3, .int .i64 s4] 49) x1
      have y2 := alloc_old (.cells #[.int .i64 s1, .int .i64 s2, .int .i64 s3, .int .i64 s4] 49) x2
      have y3 := alloc_old (.cells #[.int .i64 s1, .int .i64 s2, .int .i64 s3, .int .i64 s4] 49) x3
      refine bodyPost_ret (v := .tuple #[.agg #[.int .i64 0, .int .i64 0, .int .i64 0, .int .i64 0], .bool false]) (by simp [results, Tryz.results185, go_sem, y0, y1, y2, y3]) rfl ?_
      exact ⟨rfl, bel_al2 (below_set4H (bel_tr2 HB0.out hb4) (Nat.le_refl _) _ _ _ _) _⟩
end

end Go.Proofs.YtlcdgmjinhbncaaGreat
/- slices.Concat at spans; which spans a keeper has. -/
namespace Go.Proofs.YtlcdgmjinhbncaaGreat
open Go.RowKit Go.Maps Go.Shelf
set_option linter.unusedVariables false

/-- Room for spans: a row of none. -/
def OwnRoomS (w : World) (e : Ending) (w' : World) : Prop := ∃ A c, e = .returned (.slice A 0 c) ∧ w'.ownsRow w.heap.size 49 4 (.slice A 0 c) 0 [] ∧ Below w.heap.size w w'

set_option maxRecDepth 100000 in
theorem code_sgrow (k : Nat) (w : World) (hk : k ≤ 131072) :
    Calls Tryz.prog 279 #[.slice none 0 0, .int .i64 (k : Int)] w (OwnRoomS w) := by
  obtain ⟨i0, hi, hz0, hz1, hz2⟩ := info_parts info_span
  by_cases h0 : k = 0
  · subst h0
    go_enter Tryz.func279, Tryz.ntmps279
    go_wp2
    go_ret
    exact ⟨none, 0, rfl, World.ownsRow_nil _ _ _ _, Below.refl _ _⟩
  · have hr := fun ty => Lib.run_append_nil_zeros (P := Tryz.prog) w 30 3 ty 49 i0 _ .i64 .i64 Tryz.underlying30 Tryz.underlying3 hi hz0 k (by omega) (by rw [hz1]; decide) (by omega) (by rw [hz2]; omega)
    have hge := grownCap_ge w k 0 49
    have hcm := grownCap_le_maxLen w k 0 49 (by unfold maxLen; omega)
    obtain ⟨G, hG⟩ : ∃ G, grownCap w k 0 49 = G := ⟨_, rfl⟩
    rw [hG] at hge hcm
    have hr2 : ∀ ty, ∃ W, (Builtin.append_ #[30, 3] ty #[.slice none 0 0, .int .i64 (k : Int)]).run Tryz.prog w = .ok (.slice (some ⟨w.heap.size, 0, none⟩) k G) W ∧ W.ownsRow w.heap.size 49 4 (.slice (some ⟨w.heap.size, 0, none⟩) 0 G) 0 [] ∧ Below w.heap.size w W := fun ty => by
      have h := hr ty
      rw [hG] at h
      refine ⟨_, h, ?_, (Below.refl _ _).drew.alloc (Nat.le_refl _) _⟩
      refine ⟨rfl, .inr ⟨w.heap.size, G, _, rfl, Nat.le_refl _, heap_alloc_new w.drew _, by omega, hcm, ?_, rfl⟩⟩
      simp only [Array.size_append, size_zeroCells]
      rw [← Nat.add_mul]
      show (k + (G - k)) * 4 = G * 4
      omega
    obtain ⟨W, hrun, hown, hbel⟩ := hr2 30
    have HO := hidb hown
    have HB := hidb hbel
    have hk1 : (0 : Int) < (k : Int) := by omega
    clear hr hr2 hG hown hbel
    go_enter Tryz.func279, Tryz.ntmps279
    go_wp2_with (first | (at_builtin; refine Lib.wpList_append_run _ rfl _ _ _ _ rfl _ _ rfl rfl _ _ hrun ?_))
    go_ret
    exact ⟨_, _, rfl, HO.out, HB.out⟩

set_option maxRecDepth 100000 in
set_option maxHeartbeats 2000000 in
theorem code_sconcat (N : Nat) (A1 A2 : Option Addr) (n1 c1 n2 c2 : Nat) (rs1 rs2 : List Spn) (w : World) (hN : N < w.heap.size) (h0 : w.cell? ⟨N, 0, none⟩ = some (.slice A1 n1 c1)) (h1 : w.cell? ⟨N, 1, none⟩ = some (.slice A2 n2 c2))
    (hs1 : Sn w w.heap.size A1 n1 rs1) (hs2 : Sn w w.heap.size A2 n2 rs2) (hn1 : n1 ≤ 65536) (hn2 : n2 ≤ 65536) :
    Calls Tryz.prog 240 #[.slice (some ⟨N, 0, none⟩) 2 2] w (OwnSpans w (rs1 ++ rs2)) := by
  obtain ⟨i0, hi, hz0, hz1, hz2⟩ := info_parts info_span
  have l1 : rs1.length = n1 := hs1.1
  have l2 : rs2.length = n2 := hs2.1
  have cg := code_sgrow (n1 + n2) w (by omega)
  rw [Int.natCast_add] at cg
  have nil0 : ∀ (A : Option Addr) (n : Nat) (rs : List Spn), Sn w w.heap.size A n rs → A = none → n = 0 := fun A n rs hs e => by
    refine Nat.eq_zero_of_not_pos fun h => ?_
    obtain ⟨b, off, e2, _⟩ := hs.2 h
    rw [e] at e2; cases e2
  have HA1 : Hid (A1 = none → n1 = 0) := hidb (fun e => nil0 A1 n1 rs1 hs1 e)
  have HA2 : Hid (A2 = none → n2 = 0) := hidb (fun e => nil0 A2 n2 rs2 hs2 e)
  have HC1 : Hid (∀ W, Below w.heap.size w W → CellsAt W A1 (cellsAll scells rs1)) := hidb (fun W hb => Sn.cellsAt (RowOf.below hs1 hb))
  have HC2 : Hid (∀ W, Below w.heap.size w W → CellsAt W A2 (cellsAll scells rs2)) := hidb (fun W hb => Sn.cellsAt (RowOf.below hs2 hb))
  have HQ : Hid (∀ W, Below w.heap.size w W → W.cell? ⟨N, 0, none⟩ = some (.slice A1 n1 c1) ∧ W.cell? ⟨N, 1, none⟩ = some (.slice A2 n2 c2)) := hidb (fun W hb => by
    rw [hb.cell (p := ⟨N, 0, none⟩) hN, hb.cell (p := ⟨N, 1, none⟩) hN]; exact ⟨h0, h1⟩)
  have HL1 := hidb l1
  have HL2 := hidb l2
  have o1 := hidb (scells_one (l := rs1))
  have o2 := hidb (scells_one (l := rs2))
  clear hs1 hs2 l1 l2 nil0
  go_enter Tryz.func240, Tryz.ntmps240
  go_wp2
  refine wp_loop_rounds 3 ?_
  rw [rounds_succ]
  go_wp2
  rw [rounds_succ]
  go_wp2
  rw [rounds_succ]
  go_wp2_with (first | (go_at_call 279; (with_reducible refine cg.mono ?_); rintro e w1 ⟨A3, c3, rfl, hown3, hb3⟩; obtain ⟨q0, q1⟩ := HQ.out _ hb3))
  have HO3 := hidb hown3
  have HB3 := hidb hb3
  clear hown3 hb3
  refine wp_loop_rounds 3 ?_
  rw [rounds_succ]
  go_wp2_with (first | (at_builtin; refine wpList_append_rowN _ rfl (.tmp 31) (.tmp 32) 30 rfl w.heap.size 49 i0 (.agg #[.int .i64 0, .int .i64 0, .int .i64 0, .int .i64 0]) 4 32 Tryz.underlying30 hi hz0 hz1 hz2 rfl (by decide) _ 0 [] rfl HO3.out HB3.out.size A1 n1 c1 (cellsAll scells rs1) rfl (by rw [spans_len, HL1.out]) HA1.out (HC1.out _ HB3.out) o1.out (by unfold maxLen; omega) (by omega) ?_; intro A4 c4 w4 hown4 hg4))
  rw [Nat.zero_add, List.nil_append] at hown4
  have HO4 := hidb hown4
  have HB4 : Hid (Below w.heap.size w w4) := hidb (HB3.out.grown hg4 HB3.out.size (fun k hk => (HO3.out.lt k hk).1))
  obtain ⟨r0, r1⟩ := HQ.out _ HB4.out
  clear hown4 hg4
  rw [rounds_succ]
  go_wp2_with (first | (at_builtin; refine wpList_append_rowN _ rfl (.tmp 31) (.tmp 32) 30 rfl w.heap.size 49 i0 (.agg #[.int .i64 0, .int .i64 0, .int .i64 0, .int .i64 0]) 4 32 Tryz.underlying30 hi hz0 hz1 hz2 rfl (by decide) _ n1 (cellsAll scells rs1) rfl HO4.out HB4.out.size A2 n2 c2 (cellsAll scells rs2) rfl (by rw [spans_len, HL2.out]) HA2.out (HC2.out _ HB4.out) o2.out (by unfold maxLen; omega) (by omega) ?_; intro A5 c5 w5 hown5 hg5))
  have HO5 := hidb hown5
  have HB5 : Hid (Below w.heap.size w w5) := hidb (HB4.out.grown hg5 HB4.out.size (fun k hk => (HO4.out.lt k hk).1))
  clear hown5 hg5
  rw [rounds_succ]
  go_wp2
  go_ret
  refine ⟨A5, c5, ?_, ?_, HB5.out⟩
  · rw [List.length_append, HL1.out, HL2.out]; rfl
  · rw [List.length_append, HL1.out, HL2.out, cellsAll_append]; exact HO5.out

theorem enters_same : ∀ args w, (callFunc 239 args).run Tryz.prog w = .ok (.enter 239 args) w := enters_of Tryz.func239 (by kernel_rfl) rfl
theorem enters_has : ∀ args w, (callFunc 241 args).run Tryz.prog w = .ok (.enter 241 args) w := enters_of Tryz.func241 (by kernel_rfl) rfl
theorem any_eq_mem (l : List Spn) (s : Spn) : (l.any fun x => decide (x = s)) = decide (s ∈ l) := by
  rw [Bool.eq_iff_iff, List.any_eq_true, decide_eq_true_iff]
  constructor
  · rintro ⟨x, hx, e⟩; rw [← of_decide_eq_true e]; exact hx
  · intro h; exact ⟨s, h, decide_eq_true rfl⟩
/-- Is a span in a row? -/
theorem code_sin (t : Nat) (o : Spn) (A : Option Addr) (n c : Nat) (ds : List Spn) (w : World) (hs : Sn w w.heap.size A n ds) (hn : n ≤ 4611686018427387903) (ht : SpAt w t o) :
    Calls Tryz.prog 186 #[.slice A n c, .func (.func 239) #[] #[.pointer (some ⟨t, 0, none⟩)]] w fun e w' => e = .returned (.bool (decide (o ∈ ds))) ∧ Below w.heap.size w w' := by
  have := code_scont 239 #[.pointer (some ⟨t, 0, none⟩)] enters_same (fun s => decide (s = o)) A n c ds w hs hn (fun W hb k _ => code_same1 k t o W (ht.below hb ht.lt))
  rw [any_eq_mem] at this
  exact this

/-- Is a span among those of the row that lies in a block? -/
theorem code_has1 (t : Nat) (s : Spn) (A : Option Addr) (n c : Nat) (ds : List Spn) (w : World) (hs : Sn w w.heap.size A n ds) (hn : n ≤ 65536) (hc : w.cell? ⟨t, 0, none⟩ = some (.slice A n c)) :
    Calls Tryz.prog 241 #[spv s, .pointer (some ⟨t, 0, none⟩)] w fun e w' => e = .returned (.bool (decide (s ∈ ds))) ∧ Below w.heap.size w w' := by
  obtain ⟨s1, s2, s3, s4⟩ := s
  have htl := lt_of_cell hc
  obtain ⟨W0, hW0⟩ : ∃ W0, W0 = w.alloc (.cells #[.int .i64 s1, .int .i64 s2, .int .i64 s3, .int .i64 s4] 49) := ⟨_, rfl⟩
  have HB0 : Hid (Below w.heap.size w W0) := hidb (by rw [hW0]; exact (Below.refl _ _).alloc (Nat.le_refl _) _)
  have hzz : W0.heap.size = w.heap.size + 1 := by rw [hW0]; simp
  have HX : Hid (∀ W, Below W0.heap.size W0 W → W.cell? ⟨t, 0, none⟩ = some (.slice A n c) ∧ W.cell? ⟨w.heap.size, 0, none⟩ = some (.int .i64 s1) ∧ W.cell? ⟨w.heap.size, 1, none⟩ = some (.int .i64 s2) ∧ W.cell? ⟨w.heap.size, 2, none⟩ = some (.int .i64 s3) ∧ W.cell? ⟨w.heap.size, 3, none⟩ = some (.int .i64 s4)) := hidb (fun W hb => by
    have h1 : SpAt W w.heap.size (s1, s2, s3, s4) := by
      rw [hW0] at hb
      exact (SpAt.new_ w (s1, s2, s3, s4) 49).below hb (by simp)
    exact ⟨((HB0.out.trans (hb.mono (by omega))).cell (p := ⟨t, 0, none⟩) htl).trans hc, h1⟩)
  have CS : Hid (∀ W, Below W0.heap.size W0 W → Calls Tryz.prog 187 #[.agg #[.int .i64 s1, .int .i64 s2, .int .i64 s3, .int .i64 s4]] W fun e w' => e = .returned (.func (.func 239) #[] #[.pointer (some ⟨W.heap.size, 0, none⟩)]) ∧ Below W0.heap.size W0 w' ∧ SpAt w' W.heap.size (s1, s2, s3, s4)) := hidb (fun W hb => by
    refine (code_same (s1, s2, s3, s4) W).mono ?_
    rintro e w' ⟨rfl, rfl⟩
    exact ⟨rfl, bel_al2 hb _, SpAt.new_ W (s1, s2, s3, s4) _⟩)
  have CI : Hid (∀ W b, Below W0.heap.size W0 W → SpAt W b (s1, s2, s3, s4) → Calls Tryz.prog 186 #[.slice A n c, .func (.func 239) #[] #[.pointer (some ⟨b, 0, none⟩)]] W fun e w' => e = .returned (.bool (decide ((s1, s2, s3, s4) ∈ ds))) ∧ Below W0.heap.size W0 w') := hidb (fun W b hb hsp => by
    have hb2 := HB0.out.trans (hb.mono (by omega))
    refine (code_sin b (s1, s2, s3, s4) A n c ds W (RowOf.more (RowOf.below hs hb2) hb2.size) (by omega) hsp).mono ?_
    rintro e w' ⟨rfl, h⟩
    exact ⟨rfl, bel_tr2 hb h⟩)
  obtain ⟨r, hr⟩ : ∃ r, decide ((s1, s2, s3, s4) ∈ ds) = r := ⟨_, rfl⟩
  rw [hr] at CI ⊢
  have HW0 := hidb hW0
  unfold spv
  simp only
  clear hr hs hc hW0 hzz
  go_enter Tryz.func241, Tryz.ntmps241
  go_wp2
  rw [← HW0.out]
  obtain ⟨c0, c1, c2, c3, c4⟩ := HX.out W0 (Below.refl _ _)
  go_region_held3 (fun W => W.cell? ⟨t, 0, none⟩ = some (.slice A n c) ∧ W.cell? ⟨w.heap.size, 0, none⟩ = some (.int .i64 s1) ∧ W.cell? ⟨w.heap.size, 1, none⟩ = some (.int .i64 s2) ∧ W.cell? ⟨w.heap.size, 2, none⟩ = some (.int .i64 s3) ∧ W.cell? ⟨w.heap.size, 3, none⟩ = some (.int .i64 s4))
    (with_reducible exact HX.out _ (by repeat (first | with_reducible exact Below.refl _ _ | with_reducible exact Hid.out (by assumption) | with_reducible apply bel_al2 | with_reducible apply bel_dr2)))
    (first
      | (go_at_call 187; ((with_reducible refine (CS.out _ (by repeat (first | with_reducible exact Below.refl _ _ | with_reducible apply bel_al2 | with_reducible apply bel_dr2))).mono ?_); rintro e w1 ⟨rfl, hb1, hsp1⟩; have HB1 := hidb hb1; have HSP1 : Hid (SpAt w1 W0.heap.size (s1, s2, s3, s4)) := hidb hsp1; clear hb1 hsp1))
      | (go_at_call 186; ((with_reducible refine (CI.out _ _ HB1.out HSP1.out).mono ?_); rintro e w2 ⟨rfl, hb2⟩; have HB2 := hidb hb2; clear hb2)))
  go_wp2
  go_ret
  exact ⟨rfl, HB0.out.trans (HB2.out.mono HB0.out.size)⟩

/-- What has answers: a function that tells whether a span is among these. -/
def HasIs (w : World) (l : List Spn) (e : Ending) (w' : World) : Prop := ∃ t A n c, e = .returned (.func (.func 241) #[] #[.pointer (some ⟨t, 0, none⟩)]) ∧ w'.cell? ⟨t, 0, none⟩ = some (.slice A n c) ∧ Sn w' w'.heap.size A n l ∧ Below w.heap.size w w'
theorem code_khas {w : World} {kv hp K V : Option Addr} {kc vc : Nat} {kept waits : List Spn} {held : Bool} (h : PartsOf w kv hp K kc V vc kept waits held) :
    Calls Tryz.prog 188 #[.pointer kv] w (HasIs w (kept ++ waits)) := by
  have HP := hidb h
  have f1 := @field_k1
  have f2 := @field_k2
  have ks := h.ks
  have vs := h.vs
  have HCAT : Hid (∀ w2, Below w.heap.size w w2 → Calls Tryz.prog 240 #[.slice (some ⟨w2.heap.size, 0, none⟩) 2 2] (w2.alloc (.cells #[.slice K kept.length kc, .slice V waits.length vc] 30)) fun e w' => ∃ A n c, e = .returned (.slice A n c) ∧ Hid (HasIs w (kept ++ waits) (.returned (.func (.func 241) #[] #[.pointer (some ⟨w'.heap.size, 0, none⟩)])) (w'.alloc (.cells #[.slice A n c] 30)))) := hidb (fun w2 hb => by
    have hb2 := bel_al2 hb (.cells #[.slice K kept.length kc, .slice V waits.length vc] 30)
    refine (code_sconcat w2.heap.size K V kept.length kc waits.length vc kept waits _ (by simp) (by simp) (by simp) (RowOf.more (RowOf.below HP.out.kn hb2) hb2.size) (RowOf.more (RowOf.below HP.out.vn hb2) hb2.size) (by omega) (by omega)).mono ?_
    rintro e w' ⟨A, c, rfl, h1, h2⟩
    have hb3 : Below w'.heap.size w' (w'.alloc (.cells #[.slice A (kept ++ waits).length c] 30)) := (Below.refl _ _).alloc (Nat.le_refl _) _
    have hs := RowOf.of_own scells_len h1 rfl
    exact ⟨A, _, c, rfl, hidb ⟨w'.heap.size, A, _, c, rfl, by simp, RowOf.more (RowOf.below hs hb3) hb3.size, bel_tr2 (bel_tr2 hb2 h2) hb3⟩⟩)
  obtain ⟨kl, hkl⟩ : ∃ kl, kept.length = kl := ⟨_, rfl⟩
  obtain ⟨vl, hvl⟩ : ∃ vl, waits.length = vl := ⟨_, rfl⟩
  have HCP : Hid (∀ W, Below w.heap.size w W → Calls Tryz.prog 180 #[.pointer kv] W fun e w' => e = .returned (.agg #[.pointer hp, .slice K kl kc, .slice V vl vc, .bool held]) ∧ Below w.heap.size w w') := hidb (fun W hb => by
    refine (HP.out.call W hb).mono ?_
    rw [hkl, hvl]
    rintro e w' ⟨rfl, h⟩
    exact ⟨rfl, bel_tr2 hb h⟩)
  rw [hkl, hvl] at HCAT
  clear hkl hvl h HP ks vs
  go_enter Tryz.func188, Tryz.ntmps188
  have hb0 := Below.refl w.heap.size w
  go_wp2_with (first
    | (go_at_call 180; (with_reducible refine (HCP.out _ hb0).mono ?_); rintro e w1 ⟨rfl, hb1⟩; clear hb0; have hb0 := hb1; clear hb1)
    | (go_at_call 240; (with_reducible refine (HCAT.out _ hb0).mono ?_); rintro e w3 ⟨A, n, c, rfl, hx⟩))
  go_ret
  exact hx.out

end Go.Proofs.YtlcdgmjinhbncaaGreat
/- Layer 10's keeper as an object: its blocks, and what a call leaves of it. -/
namespace Go.Proofs.YtlcdgmjinhbncaaGreat
open Go.RowKit Go.Maps
set_option linter.unusedVariables false

structure KpAt (w : World) (Sh : Nat → Prop) (p hp : Nat) (K : Option Addr) (kc : Nat) (V : Option Addr) (vc : Nat) (v : LargeV) : Prop where
  c0 : w.cell? ⟨p, 0, none⟩ = some (.pointer (some ⟨hp, 0, none⟩))
  c1 : w.cell? ⟨p, 1, none⟩ = some (.slice K v.kept.length kc)
  c2 : w.cell? ⟨p, 2, none⟩ = some (.slice V v.waits.length vc)
  c3 : w.cell? ⟨p, 3, none⟩ = some (.bool v.held)
  fz : ∀ j, w.frozen? ⟨p, j, none⟩ = false
  k1 : w.ownsRow 0 49 4 (.slice K v.kept.length kc) v.kept.length (cellsAll scells v.kept)
  k2 : w.ownsRow 0 49 4 (.slice V v.waits.length vc) v.waits.length (cellsAll scells v.waits)
  hp_ : Hp w Sh hp v.h
  lk : v.kept.length ≤ 1024
  lv : v.waits.length ≤ 1024
  n1 : ¬ Sh p
  n2 : ∀ b, ab K = some b → b ≠ p ∧ ¬ Sh b
  n3 : ∀ b, ab V = some b → b ≠ p ∧ ¬ Sh b
  n4 : ∀ b, ab K = some b → ab V ≠ some b
/-- A keeper's blocks. -/
def KpS (Sh : Nat → Prop) (p : Nat) (K V : Option Addr) (b : Nat) : Prop := Sh b ∨ b = p ∨ ab K = some b ∨ ab V = some b
/-- What a call leaves. -/
def KWent (w : World) (S : Nat → Prop) (p hp : Nat) (w' : World) (v' : LargeV) : Prop := ∃ Sh K kc V vc, KpAt w' Sh p hp K kc V vc v' ∧ Kept S w w' ∧ ∀ b, KpS Sh p K V b → S b ∨ w.heap.size ≤ b

theorem HOk.len_le {h : HeapV} (k : HOk h) : h.l.length ≤ 1024 := by
  have h1 : (h.l.map (·.2.1)).Nodup := by
    refine List.pairwise_map.2 ((List.pairwise_map.1 k.ids).imp_of_mem fun {a b} ha hb hne => ?_)
    have h2 := k.side ha hb (fun e => hne (by rw [e]))
    have h3 := k.start ha
    have h4 := k.start hb
    omega
  have h2 := nodup_bound 1024 (h.l.map fun c => c.2.1 + 1) (List.pairwise_map.2 ((List.pairwise_map.1 h1).imp fun {a b} h e => h (by omega))) (fun x hx => by
    obtain ⟨c, hc, rfl⟩ := List.mem_map.1 hx
    have h3 := k.start hc
    have h4 := k.p1
    omega)
  rw [List.length_map] at h2
  exact h2
theorem sub_len {α : Type} : ∀ {l m : List α}, l.Nodup → (∀ x ∈ l, x ∈ m) → l.length ≤ m.length
  | [], _, _, _ => Nat.zero_le _
  | x :: l, m, hd, hm => by
    obtain ⟨a, b, rfl⟩ := List.append_of_mem (hm x (List.mem_cons_self ..))
    have hd2 := List.nodup_cons.1 hd
    have ih := sub_len (l := l) (m := a ++ b) hd2.2 fun y hy => by
      have h1 := hm y (List.mem_cons_of_mem _ hy)
      rcases List.mem_append.1 h1 with h | h
      · exact List.mem_append_left _ h
      · rcases List.mem_cons.1 h with rfl | h
        · exact absurd hy hd2.1
        · exact List.mem_append_right _ h
    rw [List.length_append] at ih
    simp only [List.length_cons, List.length_append]
    omega
theorem LOk.lens {v : LargeV} (o : LOk v) : v.kept.length + v.waits.length ≤ 1024 := by
  have h1 := sub_len o.nd (fun s hs => (o.mem s hs).1)
  rw [List.length_append] at h1
  exact Nat.le_trans h1 o.hok.len_le
theorem LOk.ids64 {v : LargeV} (o : LOk v) (hl : v.h.last ≤ 1000000000) {s : Spn} (hs : s ∈ v.h.l) : in64 s.1 ∧ in64 s.2.2.1 := by
  have h1 := o.hok.idr s hs
  have h2 := o.hok.start hs
  have h3 := o.hok.p1
  unfold in64
  omega
theorem Hp.lbL {w : World} {S : Nat → Prop} {p : Nat} {h : HeapV} (k : Hp w S p h) : h.last ≤ 1000000000 := by
  obtain ⟨_, _, _, _, _, _, _, _, _, k, _⟩ := k
  exact k.lb

theorem own_block_lt {w : World} {base s n c : Nat} {A : Option Addr} {e : TypeId} {xs : List Value} (h : w.ownsRow base e s (.slice A n c) n xs) {b : Nat} (hb : ab A = some b) : b < w.heap.size := (h.lt b ((ab_eq A n c).trans hb)).2

section
variable {w w' w1 : World} {Sh : Nat → Prop} {p hp : Nat} {K V : Option Addr} {kc vc : Nat} {v : LargeV}
theorem KpAt.ltp (k : KpAt w Sh p hp K kc V vc v) : p < w.heap.size := lt_of_cell k.c0
theorem KpAt.lt (k : KpAt w Sh p hp K kc V vc v) : ∀ b, KpS Sh p K V b → b < w.heap.size := fun b hb => by
  rcases hb with h | rfl | h | h
  · exact k.hp_.lt b h
  · exact k.ltp
  · exact own_block_lt k.k1 h
  · exact own_block_lt k.k2 h
theorem KpAt.below (k : KpAt w Sh p hp K kc V vc v) (hb : Below w.heap.size w w') : KpAt w' Sh p hp K kc V vc v := by
  have hc : ∀ j, w'.cell? ⟨p, j, none⟩ = w.cell? ⟨p, j, none⟩ := fun j => hb.cell (p := ⟨p, j, none⟩) k.ltp
  exact ⟨(hc 0).trans k.c0, (hc 1).trans k.c1, (hc 2).trans k.c2, (hc 3).trans k.c3, fun j => (hb.frozen (p := ⟨p, j, none⟩) k.ltp).trans (k.fz j), own_below k.k1 hb, own_below k.k2 hb, k.hp_.below hb, k.lk, k.lv, k.n1, k.n2, k.n3, k.n4⟩
theorem KpAt.parts (k : KpAt w Sh p hp K kc V vc v) : PartsOf w (some ⟨p, 0, none⟩) (some ⟨hp, 0, none⟩) K kc V vc v.kept v.waits v.held :=
  ⟨fun W hb => by
    have k2 := k.below hb
    exact code_kparts p _ K _ kc V _ vc _ W k2.c0 k2.c1 k2.c2 k2.c3, RowOf.of_own scells_len k.k1 rfl, RowOf.of_own scells_len k.k2 rfl, k.lk, k.lv⟩
/-- What the heap does. -/
theorem KpAt.heap_ {h' : HeapV} (k : KpAt w Sh p hp K kc V vc v) (hh : Hp w' (more Sh w w') hp h') (hK : Kept Sh w w') : KpAt w' (more Sh w w') p hp K kc V vc { v with h := h' } ∧ ∀ b, KpS (more Sh w w') p K V b → KpS Sh p K V b ∨ w.heap.size ≤ b := by
  have hb := hK.block p k.ltp k.n1
  have hc : ∀ j, w'.cell? ⟨p, j, none⟩ = w.cell? ⟨p, j, none⟩ := fun j => World.cell?_of_block (w := w) (a := ⟨p, j, none⟩) hb
  have hn : ∀ b, b < w.heap.size → ¬ Sh b → ¬ more Sh w w' b := fun b hl h c => h (more_old hl c)
  refine ⟨⟨(hc 0).trans k.c0, (hc 1).trans k.c1, (hc 2).trans k.c2, (hc 3).trans k.c3, fun j => (World.frozen?_of_block (w := w) (a := ⟨p, j, none⟩) hb).trans (k.fz j), own_kept k.k1 hK (fun b e => (k.n2 b ((ab_eq K _ _).symm.trans e)).2), own_kept k.k2 hK (fun b e => (k.n3 b ((ab_eq V _ _).symm.trans e)).2), hh, k.lk, k.lv, hn p k.ltp k.n1, fun b e => ⟨(k.n2 b e).1, hn b (own_block_lt k.k1 e) (k.n2 b e).2⟩, fun b e => ⟨(k.n3 b e).1, hn b (own_block_lt k.k2 e) (k.n3 b e).2⟩, k.n4⟩, fun b hb => ?_⟩
  rcases hb with h | h | h | h
  · rcases h.1 with h | h
    · exact Or.inl (Or.inl h)
    · exact Or.inr h
  · exact Or.inl (Or.inr (Or.inl h))
  · exact Or.inl (Or.inr (Or.inr (Or.inl h)))
  · exact Or.inl (Or.inr (Or.inr (Or.inr h)))
theorem Hp.grownB {S : Nat → Prop} {q : Nat} {h : HeapV} {r : Option Nat} (k : Hp w S q h) (hg : w.grownBy w' r) (hn : ∀ b, r = some b → ¬ S b) : Hp w' S q h :=
  k.keep (S' := fun b => r = some b) ((Kept.refl _ w).grown hg fun b e => Or.inl e) fun b hS e => hn b e hS
theorem KpAt.cellsG (k : KpAt w Sh p hp K kc V vc v) {r : Option Nat} (hg : w.grownBy w' r) (hr : some p ≠ r) : (∀ j, w'.cell? ⟨p, j, none⟩ = w.cell? ⟨p, j, none⟩) ∧ ∀ j, w'.frozen? ⟨p, j, none⟩ = false := by
  have hb := hg.block p k.ltp hr
  exact ⟨fun j => World.cell?_of_block (w := w) (a := ⟨p, j, none⟩) hb, fun j => (World.frozen?_of_block (w := w) (a := ⟨p, j, none⟩) hb).trans (k.fz j)⟩
theorem own_setP {base s n : Nat} {e : TypeId} {u : Value} {xs : List Value} (h : w.ownsRow base e s u n xs) {q j : Nat} (hq : u.ownBlock ≠ some q) (x : Value) : (w.setCell ⟨q, j, none⟩ x).ownsRow base e s u n xs :=
  own_kept h ((Kept.refl (fun b => b = q) w).set (a := ⟨q, j, none⟩) (Or.inl rfl) x) fun k e h2 => hq (by rw [e]; exact congrArg some h2)
/-- Another row is kept. -/
theorem KpAt.kept_ {K' : Option Addr} {n' kc' : Nat} {l' : List Spn} (k : KpAt w Sh p hp K kc V vc v) (hg : w.grownBy w1 (ab K)) (ho : w1.ownsRow 0 49 4 (.slice K' n' kc') n' (cellsAll scells l')) (hat : ab K' = ab K ∨ ∀ b, ab K' = some b → w.heap.size ≤ b) (hl : l'.length = n') (h4 : n' ≤ 1024) :
    KpAt (w1.setCell ⟨p, 1, none⟩ (.slice K' n' kc')) Sh p hp K' kc' V vc { v with kept := l' } ∧ Kept (KpS Sh p K V) w (w1.setCell ⟨p, 1, none⟩ (.slice K' n' kc')) ∧ ∀ b, KpS Sh p K' V b → KpS Sh p K V b ∨ w.heap.size ≤ b := by
  have hpk : some p ≠ ab K := fun e => (k.n2 p e.symm).1 rfl
  have hpk' : ∀ b, ab K' = some b → b ≠ p ∧ ¬ Sh b := fun b e => by
    rcases hat with h | h
    · exact k.n2 b (h.symm.trans e)
    · have h1 := h b e
      exact ⟨fun c => by have := k.ltp; omega, fun c => by have := k.hp_.lt b c; omega⟩
  obtain ⟨hc, hf⟩ := k.cellsG hg hpk
  have ho' : ∀ j u, 1 ≠ j → (w1.setCell ⟨p, 1, none⟩ u).cell? ⟨p, j, none⟩ = w1.cell? ⟨p, j, none⟩ := fun j u hj => World.cell?_setCell_other _ _ _ _ (fun e => hj (by injection e))
  have h2 : w1.ownsRow 0 49 4 (.slice V v.waits.length vc) v.waits.length (cellsAll scells v.waits) := own_kept k.k2 ((Kept.refl (fun b => ab K = some b) w).grown hg fun b e => Or.inl e) fun b e e2 => k.n4 b e2 ((ab_eq V _ _).symm.trans e)
  have hh1 := k.hp_.grownB hg fun b e => (k.n2 b e).2
  have hh2 := hh1.keep (S' := fun b => b = p) ((Kept.refl (fun b => b = p) w1).set (a := ⟨p, 1, none⟩) (Or.inl rfl) (.slice K' n' kc')) fun b hS e => k.n1 (e ▸ hS)
  subst hl
  refine ⟨⟨(ho' 0 _ (by decide)).trans ((hc 0).trans k.c0), World.cell?_setCell_same _ _ _ ((hc 1).trans k.c1), (ho' 2 _ (by decide)).trans ((hc 2).trans k.c2), (ho' 3 _ (by decide)).trans ((hc 3).trans k.c3), fun j => (World.frozen?_setCell _ _ _ _).trans (hf j), own_setP ho (fun e => (hpk' p ((ab_eq K' _ _).symm.trans e)).1 rfl) _, own_setP h2 (fun e => (k.n3 p ((ab_eq V _ _).symm.trans e)).1 rfl) _, hh2, h4, k.lv, k.n1, hpk', k.n3, fun b e e2 => ?_⟩, ((Kept.refl (KpS Sh p K V) w).grown hg fun b e => Or.inl (Or.inr (Or.inr (Or.inl e)))).set (a := ⟨p, 1, none⟩) (Or.inl (Or.inr (Or.inl rfl))) _, fun b hb => ?_⟩
  · rcases hat with h | h
    · exact k.n4 b (h.symm.trans e) e2
    · have := h b e
      have := own_block_lt k.k2 e2
      omega
  · rcases hb with h | h | h | h
    · exact Or.inl (Or.inl h)
    · exact Or.inl (Or.inr (Or.inl h))
    · rcases hat with h1 | h1
      · exact Or.inl (Or.inr (Or.inr (Or.inl (h1.symm.trans h))))
      · exact Or.inr (h1 b h)
    · exact Or.inl (Or.inr (Or.inr (Or.inr h)))
theorem KpAt.waits_ {V' : Option Addr} {n' vc' : Nat} {l' : List Spn} (k : KpAt w Sh p hp K kc V vc v) (hg : w.grownBy w1 (ab V)) (ho : w1.ownsRow 0 49 4 (.slice V' n' vc') n' (cellsAll scells l')) (hat : ab V' = ab V ∨ ∀ b, ab V' = some b → w.heap.size ≤ b) (hl : l'.length = n') (h4 : n' ≤ 1024) :
    KpAt (w1.setCell ⟨p, 2, none⟩ (.slice V' n' vc')) Sh p hp K kc V' vc' { v with waits := l' } ∧ Kept (KpS Sh p K V) w (w1.setCell ⟨p, 2, none⟩ (.slice V' n' vc')) ∧ ∀ b, KpS Sh p K V' b → KpS Sh p K V b ∨ w.heap.size ≤ b := by
  have hpk : some p ≠ ab V := fun e => (k.n3 p e.symm).1 rfl
  have hpk' : ∀ b, ab V' = some b → b ≠ p ∧ ¬ Sh b := fun b e => by
    rcases hat with h | h
    · exact k.n3 b (h.symm.trans e)
    · have h1 := h b e
      exact ⟨fun c => by have := k.ltp; omega, fun c => by have := k.hp_.lt b c; omega⟩
  obtain ⟨hc, hf⟩ := k.cellsG hg hpk
  have ho' : ∀ j u, 2 ≠ j → (w1.setCell ⟨p, 2, none⟩ u).cell? ⟨p, j, none⟩ = w1.cell? ⟨p, j, none⟩ := fun j u hj => World.cell?_setCell_other _ _ _ _ (fun e => hj (by injection e))
  have h2 : w1.ownsRow 0 49 4 (.slice K v.kept.length kc) v.kept.length (cellsAll scells v.kept) := own_kept k.k1 ((Kept.refl (fun b => ab V = some b) w).grown hg fun b e => Or.inl e) fun b e e2 => k.n4 b ((ab_eq K _ _).symm.trans e) e2
  have hh1 := k.hp_.grownB hg fun b e => (k.n3 b e).2
  have hh2 := hh1.keep (S' := fun b => b = p) ((Kept.refl (fun b => b = p) w1).set (a := ⟨p, 2, none⟩) (Or.inl rfl) (.slice V' n' vc')) fun b hS e => k.n1 (e ▸ hS)
  subst hl
  refine ⟨⟨(ho' 0 _ (by decide)).trans ((hc 0).trans k.c0), (ho' 1 _ (by decide)).trans ((hc 1).trans k.c1), World.cell?_setCell_same _ _ _ ((hc 2).trans k.c2), (ho' 3 _ (by decide)).trans ((hc 3).trans k.c3), fun j => (World.frozen?_setCell _ _ _ _).trans (hf j), own_setP h2 (fun e => (k.n2 p ((ab_eq K _ _).symm.trans e)).1 rfl) _, own_setP ho (fun e => (hpk' p ((ab_eq V' _ _).symm.trans e)).1 rfl) _, hh2, k.lk, h4, k.n1, k.n2, hpk', fun b e e2 => ?_⟩, ((Kept.refl (KpS Sh p K V) w).grown hg fun b e => Or.inl (Or.inr (Or.inr (Or.inr e)))).set (a := ⟨p, 2, none⟩) (Or.inl (Or.inr (Or.inl rfl))) _, fun b hb => ?_⟩
  · rcases hat with h | h
    · exact k.n4 b e (h.symm.trans e2)
    · have := h b e2
      have := own_block_lt k.k1 e
      omega
  · rcases hb with h | h | h | h
    · exact Or.inl (Or.inl h)
    · exact Or.inl (Or.inr (Or.inl h))
    · exact Or.inl (Or.inr (Or.inr (Or.inl h)))
    · rcases hat with h1 | h1
      · exact Or.inl (Or.inr (Or.inr (Or.inr (h1.symm.trans h))))
      · exact Or.inr (h1 b h)
theorem KpAt.went (k : KpAt w Sh p hp K kc V vc v) {S : Nat → Prop} {w0 : World} (hK : Kept S w0 w) (hS : ∀ b, KpS Sh p K V b → S b ∨ w0.heap.size ≤ b) : KWent w0 S p hp w v := ⟨Sh, K, kc, V, vc, k, hK, hS⟩
theorem KpAt.stay (k : KpAt w Sh p hp K kc V vc v) (hb : Below w.heap.size w w') : KWent w (KpS Sh p K V) p hp w' v := (k.below hb).went (Kept.of_below hb _) fun b h => Or.inl h
/-- One call behind another. -/
theorem KWent.trans {S S1 : Nat → Prop} {w2 : World} {v2 : LargeV} (hK : Kept S w w1) (hS : ∀ b, S1 b → S b ∨ w.heap.size ≤ b) (h : KWent w1 S1 p hp w2 v2) : KWent w S p hp w2 v2 := by
  obtain ⟨Sh, K, kc, V, vc, k, h1, h2⟩ := h
  refine ⟨Sh, K, kc, V, vc, k, hK.trans h1 (fun b hb hs => ?_), fun b hb => ?_⟩
  · rcases hS b hs with h | h
    · exact h
    · omega
  · rcases h2 b hb with h | h
    · exact hS b h
    · exact Or.inr (Nat.le_trans hK.size h)
end

end Go.Proofs.YtlcdgmjinhbncaaGreat
/- Layer 10's keeper: New, free, put, Hold, Flush. -/
namespace Go.Proofs.YtlcdgmjinhbncaaGreat
open Go.RowKit Go.Maps
set_option linter.unusedVariables false

theorem Hp.sub {w : World} {S S2 : Nat → Prop} {p : Nat} {h : HeapV} (k : Hp w S p h) (h1 : ∀ b, S b → S2 b) (h2 : ∀ b, S2 b → b < w.heap.size) : Hp w S2 p h := by
  obtain ⟨ip, ig, fp, mb, n, m, ids, D, Sf, k1, k2, k3, k4, k5, k6, k7⟩ := k
  exact ⟨ip, ig, fp, mb, n, m, ids, D, Sf, k1, k2, ⟨h1 _ k3.1, h1 _ k3.2.1, h1 _ k3.2.2.1, h1 _ k3.2.2.2⟩, fun b hb => h1 b (k4 b hb), h2, k6, k7⟩
theorem Hp.late {w w1 w2 : World} {S : Nat → Prop} {p : Nat} {h : HeapV} (hb : w.heap.size ≤ w1.heap.size) (k : Hp w2 (more S w1 w2) p h) : Hp w2 (more S w w2) p h :=
  k.sub (fun b hb' => ⟨hb'.1.imp id (fun q => Nat.le_trans hb q), hb'.2⟩) fun b hb' => hb'.2
theorem Kept.late {w w1 w2 : World} {S : Nat → Prop} (hb : Below w.heap.size w w1) (k : Kept S w1 w2) : Kept S w w2 := (Kept.of_below hb S).trans k fun _ _ h => h

theorem code_knew {w : World} {Sh : Nat → Prop} {hp : Nat} {h : HeapV} (k : Hp w Sh hp h) :
    Calls Tryz.prog 110 #[.pointer (some ⟨hp, 0, none⟩)] w fun e w' => ∃ p, e = .returned (.pointer (some ⟨p, 0, none⟩)) ∧ KpAt w' Sh p hp none 0 none 0 ⟨h, [], [], false⟩ ∧ Below w.heap.size w w' ∧ w.heap.size ≤ p := by
  have HE : Hid (KpAt (w.alloc (.cells #[.pointer (some ⟨hp, 0, none⟩), .slice none 0 0, .slice none 0 0, .bool false] 243)) Sh w.heap.size hp none 0 none 0 ⟨h, [], [], false⟩ ∧ Below w.heap.size w (w.alloc (.cells #[.pointer (some ⟨hp, 0, none⟩), .slice none 0 0, .slice none 0 0, .bool false] 243))) := hidb (by
    have hb : Below w.heap.size w (w.alloc (.cells #[.pointer (some ⟨hp, 0, none⟩), .slice none 0 0, .slice none 0 0, .bool false] 243)) := (Below.refl _ _).alloc (Nat.le_refl _) _
    refine ⟨⟨World.cell?_alloc_at _ _ _ 0 (by simp), World.cell?_alloc_at _ _ _ 1 (by simp), World.cell?_alloc_at _ _ _ 2 (by simp), World.cell?_alloc_at _ _ _ 3 (by simp), fun j => frozen_new _ _ _ j, World.ownsRow_nil _ _ _ _, World.ownsRow_nil _ _ _ _, k.below hb, Nat.zero_le _, Nat.zero_le _, fun c => ?_, fun b c => (by cases c), fun b c => (by cases c), fun b c => (by cases c)⟩, hb⟩
    have := k.lt _ c
    omega)
  clear k
  go_enter Tryz.func110, Tryz.ntmps110
  go_wp2
  go_ret
  exact ⟨w.heap.size, rfl, HE.out.1, HE.out.2, Nat.le_refl _⟩

/-- What free does. -/
def FreedK (w : World) (Sh : Nat → Prop) (hp : Nat) (h : HeapV) (e : Ending) (w' : World) : Prop := e = .returned (.tuple #[]) ∧ Hp w' (more Sh w w') hp h ∧ Kept Sh w w'
section
variable {w : World} {Sh : Nat → Prop} {p hp : Nat} {K V : Option Addr} {kc vc : Nat} {v : LargeV}
theorem code_kfree (k : KpAt w Sh p hp K kc V vc v) (A : Option Addr) (m c : Nat) (ds : List Spn) (hs : Sn w w.heap.size A m ds) (hm : m ≤ 1024) (hid : ∀ s ∈ ds, in64 s.1) :
    Calls Tryz.prog 190 #[.pointer (some ⟨p, 0, none⟩), .slice A m c] w (FreedK w Sh hp (hDrop v.h (ds.map (·.1))).1) := by
  have HX : Hid (∀ W, Below w.heap.size w W → W.cell? ⟨p, 0, none⟩ = some (.pointer (some ⟨hp, 0, none⟩))) := hidb (fun W hb => (k.below hb).c0)
  have CN : Hid (∀ W, Below w.heap.size w W → Calls Tryz.prog 178 #[.slice A m c] W fun e w' => ∃ A' n' c', e = .returned (.slice A' n' c') ∧ Hid (Below w.heap.size w w' ∧ n' ≤ 1024 ∧ Sl w' w'.heap.size A' n' ((ds.map (·.1)).map iv))) := hidb (fun W hb => by
    have hl : ds.length = m := hs.1
    refine (code_lnumbers A m c ds W (RowOf.more (RowOf.below hs hb) hb.size) (by omega)).mono ?_
    rintro e w' ⟨A', c', rfl, h1, h2⟩
    exact ⟨A', _, c', rfl, hidb ⟨bel_tr2 hb h2, by rw [List.length_map]; omega, Sl.of_own h1⟩⟩)
  have CF : Hid (∀ W A' n' c', Hid (Below w.heap.size w W ∧ n' ≤ 1024 ∧ Sl W W.heap.size A' n' ((ds.map (·.1)).map iv)) → Calls Tryz.prog 205 #[.pointer (some ⟨hp, 0, none⟩), .slice A' n' c'] W fun e w' => (∃ no : Int, e = .returned (.int .i64 no)) ∧ Hid (FreedK w Sh hp (hDrop v.h (ds.map (·.1))).1 (.returned (.tuple #[])) w') ∧ w'.cell? ⟨p, 0, none⟩ = some (.pointer (some ⟨hp, 0, none⟩))) := hidb (fun W A' n' c' hx => by
    obtain ⟨hb, hn, hsl⟩ := hx.out
    refine (code_hfree (k.hp_.below hb) A' n' c' (ds.map (·.1)) hsl (by omega) (fun i hi => by
      obtain ⟨s, hs, rfl⟩ := List.mem_map.1 hi
      exact hid s hs)).mono ?_
    rintro e w' ⟨rfl, h1, h2⟩
    exact ⟨⟨_, rfl⟩, hidb ⟨rfl, h1.late hb.size, h2.late hb⟩, ((h2.late hb).cell (a := ⟨p, 0, none⟩) k.ltp k.n1).trans k.c0⟩)
  have c0 := k.c0
  clear k hs hm hid
  go_enter Tryz.func190, Tryz.ntmps190
  go_wp2
  go_region_held3 (fun W => W.cell? ⟨p, 0, none⟩ = some (.pointer (some ⟨hp, 0, none⟩)))
    (first | with_reducible assumption | with_reducible exact HX.out _ (by repeat (first | with_reducible exact Below.refl _ _ | with_reducible exact Hid.out (by assumption) | with_reducible apply bel_al2 | with_reducible apply bel_dr2)))
    (first
      | (go_at_call 178; ((with_reducible refine (CN.out _ (by repeat (first | with_reducible exact Below.refl _ _ | with_reducible apply bel_al2 | with_reducible apply bel_dr2))).mono ?_); rintro e w1 ⟨A', n', c', rfl, hx1⟩; have HB1 := hidb hx1.out.1))
      | (go_at_call 205; ((with_reducible refine (CF.out _ _ _ _ hx1).mono ?_); rintro e w2 ⟨⟨no, rfl⟩, hx2, hc2⟩)))
  exact bodyPost_ret (v := .tuple #[]) (by simp [results, Tryz.results190, go_sem]) rfl hx2.out

/-- A call that answers nothing. -/
def DoneK (w : World) (S : Nat → Prop) (p hp : Nat) (v' : LargeV) (e : Ending) (w' : World) : Prop := e = .returned (.tuple #[]) ∧ KWent w S p hp w' v'
theorem KpAt.pushK {X w5 : World} {A5 : Option Addr} {c5 : Nat} {s : Spn} (k : KpAt w Sh p hp K kc V vc v) (hb : Below w.heap.size w X) (h4 : v.kept.length + 1 ≤ 1024) (ho : w5.ownsRow 0 49 4 (.slice A5 (v.kept.length + 1) c5) (v.kept.length + 1) (cellsAll scells v.kept ++ scells s)) (hg : X.grownBy w5 (Value.slice K v.kept.length kc).ownBlock)
    (hat : (Value.slice A5 (v.kept.length + 1) c5).ownBlock = (Value.slice K v.kept.length kc).ownBlock ∨ (Value.slice A5 (v.kept.length + 1) c5).ownBlock = some X.heap.size) : KWent w (KpS Sh p K V) p hp (w5.setCell ⟨p, 1, none⟩ (.slice A5 (v.kept.length + 1) c5)) { v with kept := v.kept ++ [s] } := by
  rw [ab_eq] at hg
  rw [ab_eq, ab_eq] at hat
  obtain ⟨q1, q2, q3⟩ := (k.below hb).kept_ (l' := v.kept ++ [s]) hg (by rw [cellsAll_append, cellsAll_one]; exact ho) (hat.imp id (fun e b e2 => by rw [e] at e2; injection e2 with e2; omega)) (by simp) h4
  exact q1.went ((Kept.of_below hb _).trans q2 fun _ _ h => h) fun b h => (q3 b h).imp id (fun h => Nat.le_trans hb.size h)
theorem KpAt.pushV {X w5 : World} {A5 : Option Addr} {c5 : Nat} {s : Spn} (k : KpAt w Sh p hp K kc V vc v) (hb : Below w.heap.size w X) (h4 : v.waits.length + 1 ≤ 1024) (ho : w5.ownsRow 0 49 4 (.slice A5 (v.waits.length + 1) c5) (v.waits.length + 1) (cellsAll scells v.waits ++ scells s)) (hg : X.grownBy w5 (Value.slice V v.waits.length vc).ownBlock)
    (hat : (Value.slice A5 (v.waits.length + 1) c5).ownBlock = (Value.slice V v.waits.length vc).ownBlock ∨ (Value.slice A5 (v.waits.length + 1) c5).ownBlock = some X.heap.size) : KWent w (KpS Sh p K V) p hp (w5.setCell ⟨p, 2, none⟩ (.slice A5 (v.waits.length + 1) c5)) { v with waits := v.waits ++ [s] } := by
  rw [ab_eq] at hg
  rw [ab_eq, ab_eq] at hat
  obtain ⟨q1, q2, q3⟩ := (k.below hb).waits_ (l' := v.waits ++ [s]) hg (by rw [cellsAll_append, cellsAll_one]; exact ho) (hat.imp id (fun e b e2 => by rw [e] at e2; injection e2 with e2; omega)) (by simp) h4
  exact q1.went ((Kept.of_below hb _).trans q2 fun _ _ h => h) fun b h => (q3 b h).imp id (fun h => Nat.le_trans hb.size h)

theorem Sn.one_ (X : World) (s : Spn) (e : TypeId) : Sn (X.alloc (.cells #[.int .i64 s.1, .int .i64 s.2.1, .int .i64 s.2.2.1, .int .i64 s.2.2.2] e)) (X.alloc (.cells #[.int .i64 s.1, .int .i64 s.2.1, .int .i64 s.2.2.1, .int .i64 s.2.2.2] e)).heap.size (some ⟨X.heap.size, 0, none⟩) 1 [s] := by
  refine ⟨rfl, fun _ => ⟨X.heap.size, 0, rfl, by simp, fun j y hj => ?_⟩⟩
  match j, hj with
  | 0, hj =>
    obtain rfl : s = y := by simpa using hj
    refine ⟨scells s, rfl, fun k hk => ?_, rfl⟩
    obtain ⟨h0, h1, h2, h3⟩ := SpAt.new_ X s e
    match k, hk with
    | 0, _ => exact h0
    | 1, _ => exact h1
    | 2, _ => exact h2
    | 3, _ => exact h3
  | j + 1, hj => simp at hj
set_option maxRecDepth 100000 in
set_option maxHeartbeats 1000000 in
theorem code_kput (k : KpAt w Sh p hp K kc V vc v) (o : LOk v) (s : Spn) (hs : Out v s) :
    Calls Tryz.prog 189 #[.pointer (some ⟨p, 0, none⟩), spv s] w (DoneK w (KpS Sh p K V) p hp (lPut v s)) := by
  obtain ⟨i0, hi, hz0, hz1, hz2⟩ := info_parts info_span
  have o2 := (o.put hs).1
  have hlens := o2.lens
  have hlb := k.hp_.lbL
  obtain ⟨hid, hlen64⟩ := o.ids64 hlb hs.1
  cases hh : v.held with
  | true =>
    have e : lPut v s = { v with waits := v.waits ++ [s] } := by unfold lPut; rw [hh]; rfl
    rw [e] at hlens ⊢
    have hwl : v.waits.length + 1 ≤ 1024 := by simp at hlens; omega
    obtain ⟨s1, s2, s3, s4⟩ := s
    have c2 := k.c2
    have c3 := k.c3
    have HX : Hid (∀ X w5 A5 c5, X = ((w.alloc (.cells #[.int .i64 s1, .int .i64 s2, .int .i64 s3, .int .i64 s4] 49)).alloc (.cells #[.int .i64 s1, .int .i64 s2, .int .i64 s3, .int .i64 s4] 49)).drew → w5.ownsRow 0 49 4 (.slice A5 (v.waits.length + 1) c5) (v.waits.length + 1) (cellsAll scells v.waits ++ scells (s1, s2, s3, s4)) → X.grownBy w5 (Value.slice V v.waits.length vc).ownBlock → ((Value.slice A5 (v.waits.length + 1) c5).ownBlock = (Value.slice V v.waits.length vc).ownBlock ∨ (Value.slice A5 (v.waits.length + 1) c5).ownBlock = some X.heap.size) → (∃ u, w5.cell? ⟨p, 2, none⟩ = some u) ∧ w5.frozen? ⟨p, 2, none⟩ = false ∧ Hid (DoneK w (KpS Sh p K V) p hp { v with waits := v.waits ++ [(s1, s2, s3, s4)] } (.returned (.tuple #[])) (w5.setCell ⟨p, 2, none⟩ (.slice A5 (v.waits.length + 1) c5)))) := hidb (fun X w5 A5 c5 hX h1 h2 h3 => by
      have hbX : Below w.heap.size w X := by rw [hX]; exact bel_dr2 (bel_al2 (bel_al2 (Below.refl _ _) _) _)
      have kX := k.below hbX
      obtain ⟨hc, hf⟩ := kX.cellsG h2 (fun e => (k.n3 p ((ab_eq V _ _).symm.trans e.symm)).1 rfl)
      exact ⟨⟨_, (hc 2).trans kX.c2⟩, hf 2, hidb ⟨rfl, k.pushV hbX hwl h1 h2 h3⟩⟩)
    have HOWN := hidb ((k.k2.alloc (.cells #[.int .i64 s1, .int .i64 s2, .int .i64 s3, .int .i64 s4] 49)).alloc (.cells #[.int .i64 s1, .int .i64 s2, .int .i64 s3, .int .i64 s4] 49)).drew
    have HCE : Hid (CellsAt (((w.alloc (.cells #[.int .i64 s1, .int .i64 s2, .int .i64 s3, .int .i64 s4] 49)).alloc (.cells #[.int .i64 s1, .int .i64 s2, .int .i64 s3, .int .i64 s4] 49)).drew) (some ⟨w.heap.size + 1, 0, none⟩) (scells (s1, s2, s3, s4))) := hidb (CellsAt.drew (cells_new' (w.alloc (.cells #[.int .i64 s1, .int .i64 s2, .int .i64 s3, .int .i64 s4] 49)) (scells (s1, s2, s3, s4)) _ _ (by simp)))
    have HON := hidb (scells_one1 (s1, s2, s3, s4))
    rw [hh] at c3
    have hpl : p < w.heap.size := k.ltp
    obtain ⟨wl, hwle⟩ : ∃ wl, v.waits.length = wl := ⟨_, rfl⟩
    rw [hwle] at HX HOWN c2 hwl
    obtain ⟨xs, hxs⟩ : ∃ xs, cellsAll scells v.waits = xs := ⟨_, rfl⟩
    rw [hxs] at HX HOWN
    unfold spv
    simp only
    clear k o o2 hs hlens hlb hid hlen64 e hwle hxs hh
    go_enter Tryz.func189, Tryz.ntmps189
    go_wp2
    go_region_law (refine step_append_rowA rfl (.tmp 17) (.tmp 19) 30 rfl 0 49 i0 (.agg #[.int .i64 0, .int .i64 0, .int .i64 0, .int .i64 0]) 4 32 Tryz.underlying30 hi hz0 hz1 hz2 rfl (by decide) _ wl xs rfl (by exact HOWN.out) (Nat.zero_le _) (some ⟨w.heap.size + 1, 0, none⟩) 1 1 (scells (s1, s2, s3, s4)) rfl rfl (fun h => by cases h) HCE.out HON.out (by unfold maxLen; omega) (by omega) ?_; intro A5 c5 w5 ho5 hg5 hat5; obtain ⟨⟨u5, hu5⟩, hf5, HP⟩ := HX.out _ w5 A5 c5 rfl ho5 hg5 hat5; clear ho5 hg5 hat5)
    all_goals go_wp2
    all_goals exact bodyPost_ret (v := .tuple #[]) (by simp [results, Tryz.results189, go_sem]) rfl HP.out
  | false =>
    have hsl : ∀ (X : World), Sn (X.alloc (.cells #[.int .i64 s.1, .int .i64 s.2.1, .int .i64 s.2.2.1, .int .i64 s.2.2.2] 49)) (X.alloc (.cells #[.int .i64 s.1, .int .i64 s.2.1, .int .i64 s.2.2.1, .int .i64 s.2.2.2] 49)).heap.size (some ⟨X.heap.size, 0, none⟩) 1 [s] := fun X => Sn.one_ X s _
    obtain ⟨r, hr⟩ : ∃ r, (lOf v.kept s.2.2.1).length = r := ⟨_, rfl⟩
    have he1 : r < 2 → lPut v s = { v with kept := v.kept ++ [s] } := fun h => by unfold lPut; rw [hh, hr, if_neg (by simp), if_pos h]
    have he2 : ¬ r < 2 → lPut v s = { v with h := (hDrop v.h [s.1]).1 } := fun h => by unfold lPut; rw [hh, hr, if_neg (by simp), if_neg h]
    obtain ⟨s1, s2, s3, s4⟩ := s
    simp only at hr hid hsl he1 he2
    have CK : Hid (Calls Tryz.prog 116 #[.pointer (some ⟨p, 0, none⟩), .int .i64 s3] (w.alloc (.cells #[.int .i64 s1, .int .i64 s2, .int .i64 s3, .int .i64 s4] 49)) fun e w' => ∃ A c, e = .returned (.slice A r c) ∧ Hid (Below w.heap.size w w' ∧ SpAt w' w.heap.size (s1, s2, s3, s4))) := hidb (by
      have hb1 : Below w.heap.size w (w.alloc (.cells #[.int .i64 s1, .int .i64 s2, .int .i64 s3, .int .i64 s4] 49)) := (Below.refl _ _).alloc (Nat.le_refl _) _
      refine (code_kkept (k.below hb1).parts s3).mono ?_
      rintro e w' ⟨A, c, rfl, _, hb⟩
      rw [List.length_map, hr]
      exact ⟨A, c, rfl, hidb ⟨bel_tr2 hb1 hb, (SpAt.new_ w (s1, s2, s3, s4) _).below hb (by simp)⟩⟩)
    have c3 := k.c3
    rw [hh] at c3
    have hpl : p < w.heap.size := k.ltp
    have HQ : Hid (∀ W, Below w.heap.size w W → W.cell? ⟨p, 1, none⟩ = some (.slice K v.kept.length kc) ∧ p < W.heap.size ∧ w.heap.size ≤ W.heap.size) := hidb (fun W hb => ⟨(k.below hb).c1, (k.below hb).ltp, hb.size⟩)
    by_cases hrl : r < 2
    · rw [he1 hrl] at hlens ⊢
      have hkl : v.kept.length + 1 ≤ 1024 := by simp at hlens; omega
      have HX : Hid (∀ w3 X w5 A5 c5, Below w.heap.size w w3 → X = (w3.alloc (.cells #[.int .i64 s1, .int .i64 s2, .int .i64 s3, .int .i64 s4] 49)).drew → w5.ownsRow 0 49 4 (.slice A5 (v.kept.length + 1) c5) (v.kept.length + 1) (cellsAll scells v.kept ++ scells (s1, s2, s3, s4)) → X.grownBy w5 (Value.slice K v.kept.length kc).ownBlock → ((Value.slice A5 (v.kept.length + 1) c5).ownBlock = (Value.slice K v.kept.length kc).ownBlock ∨ (Value.slice A5 (v.kept.length + 1) c5).ownBlock = some X.heap.size) → (∃ u, w5.cell? ⟨p, 1, none⟩ = some u) ∧ w5.frozen? ⟨p, 1, none⟩ = false ∧ Hid (DoneK w (KpS Sh p K V) p hp { v with kept := v.kept ++ [(s1, s2, s3, s4)] } (.returned (.tuple #[])) (w5.setCell ⟨p, 1, none⟩ (.slice A5 (v.kept.length + 1) c5)))) := hidb (fun w3 X w5 A5 c5 hb3 hX h1 h2 h3 => by
        have hbX : Below w.heap.size w X := by rw [hX]; exact bel_dr2 (bel_al2 hb3 _)
        have kX := k.below hbX
        obtain ⟨hc, hf⟩ := kX.cellsG h2 (fun e => (k.n2 p ((ab_eq K _ _).symm.trans e.symm)).1 rfl)
        exact ⟨⟨_, (hc 1).trans kX.c1⟩, hf 1, hidb ⟨rfl, k.pushK hbX hkl h1 h2 h3⟩⟩)
      have HOWN : Hid (∀ w3, Below w.heap.size w w3 → (w3.alloc (.cells #[.int .i64 s1, .int .i64 s2, .int .i64 s3, .int .i64 s4] 49)).drew.ownsRow 0 49 4 (.slice K v.kept.length kc) v.kept.length (cellsAll scells v.kept)) := hidb (fun w3 hb3 => ((k.below hb3).k1.alloc (.cells #[.int .i64 s1, .int .i64 s2, .int .i64 s3, .int .i64 s4] 49)).drew)
      have HCE : Hid (∀ (w3 : World), CellsAt ((w3.alloc (.cells #[.int .i64 s1, .int .i64 s2, .int .i64 s3, .int .i64 s4] 49)).drew) (some ⟨w3.heap.size, 0, none⟩) (scells (s1, s2, s3, s4))) := hidb (fun w3 => CellsAt.drew (cells_new w3 (scells (s1, s2, s3, s4)) _))
      have HON := hidb (scells_one1 (s1, s2, s3, s4))
      obtain ⟨kl, hkle⟩ : ∃ kl, v.kept.length = kl := ⟨_, rfl⟩
      rw [hkle] at HX HOWN HQ hkl
      obtain ⟨xs, hxs⟩ : ∃ xs, cellsAll scells v.kept = xs := ⟨_, rfl⟩
      rw [hxs] at HX HOWN
      have hr2 : (r : Int) < 2 := by omega
      unfold spv
      simp only
      clear k o o2 hs hlens hlb hid hlen64 hkle hxs hh hr he1 he2 hsl
      go_enter Tryz.func189, Tryz.ntmps189
      go_wp2_with (go_at_call 116; (with_reducible refine CK.out.mono ?_); rintro e w3 ⟨A3, c3', rfl, hx3⟩; obtain ⟨q1, q2, q3⟩ := HQ.out w3 hx3.out.1; obtain ⟨t0, t1, t2, t3⟩ := hx3.out.2.cells)
      have HO3 := hidb (HOWN.out w3 hx3.out.1)
      have HC3 := hidb (HCE.out w3)
      have HX3 := hidb (fun X w5 A5 c5 => HX.out w3 X w5 A5 c5 hx3.out.1)
      go_region_law (refine step_append_rowA rfl (.tmp 35) (.tmp 37) 30 rfl 0 49 i0 (.agg #[.int .i64 0, .int .i64 0, .int .i64 0, .int .i64 0]) 4 32 Tryz.underlying30 hi hz0 hz1 hz2 rfl (by decide) _ kl xs rfl (by exact HO3.out) (Nat.zero_le _) (some ⟨w3.heap.size, 0, none⟩) 1 1 (scells (s1, s2, s3, s4)) rfl rfl (fun h => by cases h) HC3.out HON.out (by unfold maxLen; omega) (by omega) ?_; intro A5 c5 w5 ho5 hg5 hat5; obtain ⟨⟨u5, hu5⟩, hf5, HP⟩ := HX3.out _ w5 A5 c5 rfl ho5 hg5 hat5; clear ho5 hg5 hat5)
      all_goals go_wp2
      all_goals exact bodyPost_ret (v := .tuple #[]) (by simp [results, Tryz.results189, go_sem]) rfl HP.out
    · rw [he2 hrl]
      have CF : Hid (∀ w3, Below w.heap.size w w3 → Calls Tryz.prog 190 #[.pointer (some ⟨p, 0, none⟩), .slice (some ⟨w3.heap.size, 0, none⟩) 1 1] (w3.alloc (.cells #[.int .i64 s1, .int .i64 s2, .int .i64 s3, .int .i64 s4] 49)) fun e w' => e = .returned (.tuple #[]) ∧ Hid (DoneK w (KpS Sh p K V) p hp { v with h := (hDrop v.h [s1]).1 } (.returned (.tuple #[])) w')) := hidb (fun w3 hb3 => by
        have hbX := bel_al2 hb3 (.cells #[.int .i64 s1, .int .i64 s2, .int .i64 s3, .int .i64 s4] 49)
        have kX := k.below hbX
        refine (code_kfree kX _ 1 1 [(s1, s2, s3, s4)] (hsl w3) (by omega) (fun x hx => by obtain rfl := List.mem_singleton.1 hx; exact hid)).mono ?_
        rintro e w' ⟨rfl, h1, h2⟩
        obtain ⟨q1, q2⟩ := kX.heap_ h1 h2
        exact ⟨rfl, hidb ⟨rfl, q1.went ((Kept.of_below hbX _).trans h2 fun b _ h => Or.inl h) fun b h => (q2 b h).imp id (fun h => Nat.le_trans hbX.size h)⟩⟩)
      have hr2 : ¬ (r : Int) < 2 := by omega
      unfold spv
      simp only
      clear k o o2 hs hlens hlb hid hlen64 hh hr he1 he2 hsl
      go_enter Tryz.func189, Tryz.ntmps189
      go_wp2_with (first
        | (go_at_call 116; (with_reducible refine CK.out.mono ?_); rintro e w3 ⟨A3, c3', rfl, hx3⟩; obtain ⟨q1, q2, q3⟩ := HQ.out w3 hx3.out.1; obtain ⟨t0, t1, t2, t3⟩ := hx3.out.2.cells)
        | (go_at_call 190; (with_reducible refine (CF.out _ hx3.out.1).mono ?_); rintro e w4 ⟨rfl, HP⟩))
      exact bodyPost_ret (v := .tuple #[]) (by simp [results, Tryz.results189, go_sem]) rfl HP.out
/-- A call that answers this. -/
def SaidK (w : World) (S : Nat → Prop) (p hp : Nat) (v' : LargeV) (x : Value) (e : Ending) (w' : World) : Prop := e = .returned x ∧ KWent w S p hp w' v'
end

end Go.Proofs.YtlcdgmjinhbncaaGreat
