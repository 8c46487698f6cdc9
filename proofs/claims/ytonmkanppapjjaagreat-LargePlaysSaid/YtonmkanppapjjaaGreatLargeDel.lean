/- slices.DeleteFunc of rows of spans, whatever the closure. -/
import Derived.Test.YtonmkanppapjjaaGreatLargeIdx
namespace Go.Proofs.YtonmkanppapjjaaGreat
open Go.RowKit Go.Maps
set_option linter.unusedVariables false

theorem take_set4 {α : Type} (a b c d : α) : ∀ (o : Nat) (L : List α), o + 4 ≤ L.length → ((((L.set o a).set (o + 1) b).set (o + 2) c).set (o + 3) d).take (o + 4) = L.take o ++ [a, b, c, d]
  | 0, x :: y :: z :: t :: L, _ => by simp
  | o + 1, x :: L, h => by
    have ih := take_set4 a b c d o L (by simpa using h)
    simpa [Nat.add_assoc, Nat.add_comm, Nat.add_left_comm] using ih
theorem get_set4 {α : Type} (a b c d : α) (o m : Nat) (L : List α) (h : m < o ∨ o + 4 ≤ m) : ((((L.set o a).set (o + 1) b).set (o + 2) c).set (o + 3) d)[m]? = L[m]? := by
  rw [List.getElem?_set_ne (by omega), List.getElem?_set_ne (by omega), List.getElem?_set_ne (by omega), List.getElem?_set_ne (by omega)]
/-- A struct of four cells goes into the middle of a row. -/
theorem wpList_store_rw4 {P : Program} {ops : Array Oper} {rest : List Oper} {op : Oper} {a : Act} {w : World} {Q : Exit → Act → World → Prop} (hgd : op.guard = none) (ty : TypeId) (x y : Operand) (ho : op.op = .store ty x y)
    (g o : Nat) (e : TypeId) (L : List Value) (hr : Rw w g e L) (hl : o + 4 ≤ L.length) (v0 v1 v2 v3 : Value) (hx : a.eval x = .pointer (some ⟨g, o, none⟩)) (hy : a.eval y = .agg #[v0, v1, v2, v3]) (hi : (P.info? ty).map (·.size) = some 4) (h1 : (#[v0, v1, v2, v3] : Array Value).all (·.oneCell') = true)
    (h : ∀ w', Hid (Rw w' g e ((((L.set o v0).set (o + 1) v1).set (o + 2) v2).set (o + 3) v3)) → Hid (w.grownBy w' (some g)) → wpList P ops Q rest (a.put op.dst undef) w') : wpList P ops Q (op :: rest) a w := by
  refine wpList_store_mid hgd ty x y ho g o #[v0, v1, v2, v3] hx hy (fun j hj => ⟨?_, hr.free _⟩) hi h1 (h _ ?_ ?_)
  · have : j < 4 := hj
    rw [hr.cell, List.getElem?_eq_getElem (by omega)]; rfl
  · have := (((hr.setCell o v0).setCell (o + 1) v1).setCell (o + 2) v2).setCell (o + 3) v3
    exact hidb (by simpa [World.setCells] using this)
  · have := grown_row (grown_row (grown_row (grown_row (grownSelf (some g) w) o v0) (o + 1) v1) (o + 2) v2) (o + 3) v3
    exact hidb (by simpa [World.setCells] using this)

theorem spans_len (l : List Spn) : (cellsAll scells l).length = l.length * 4 := cellsAll_length scells_len l
theorem spans_take (ds : List Spn) (i : Nat) : (cellsAll scells ds).take (i * 4) = cellsAll scells (ds.take i) := by
  by_cases h : i ≤ ds.length
  · have e : cellsAll scells ds = cellsAll scells (ds.take i) ++ cellsAll scells (ds.drop i) := by rw [← cellsAll_append, List.take_append_drop]
    have hl : (cellsAll scells (ds.take i)).length = i * 4 := by rw [spans_len, List.length_take, Nat.min_eq_left h]
    rw [e, ← hl, List.take_left']
    rw [hl]
  · have h1 := spans_len ds
    rw [List.take_of_length_le (l := ds) (by omega), List.take_of_length_le (by omega)]

/-- What DeleteFunc leaves of a row. -/
def DeletedS (w : World) (base : Nat) (row : Option Nat) (ds : List Spn) (e : Ending) (w' : World) : Prop :=
  ∃ A c, e = .returned (.slice A ds.length c) ∧ w'.ownsRow base 50 4 (.slice A ds.length c) ds.length (cellsAll scells ds) ∧ w.grownBy w' row ∧ (Value.slice A ds.length c).ownBlock = row
/-- Where DeleteFunc stands. -/
structure DelStS (w wr : World) (g n i j : Nat) (L : List Value) (q : Spn → Bool) (ds : List Spn) (L' : List Value) : Prop where
  row : Rw wr g 50 L'
  len : L'.length = L.length
  tk : L'.take (i * 4) = cellsAll scells ((ds.take j).filter fun x => !q x)
  fl : ((ds.take j).filter fun x => !q x).length = i
  hi : ∀ m, j * 4 ≤ m → L'[m]? = L[m]?
  gr : w.grownBy wr (some g)
section
variable {w wr : World} {g n i j : Nat} {L L' : List Value} {q : Spn → Bool} {ds : List Spn}
theorem DelStS.below {w' : World} (h : DelStS w wr g n i j L q ds L') (hb : Below wr.heap.size wr w') : DelStS w w' g n i j L q ds L' :=
  ⟨h.row.below hb h.row.lt, h.len, h.tk, h.fl, h.hi, grown_trans h.gr (below_to_grown hb _)⟩
theorem DelStS.skip (h : DelStS w wr g n i j L q ds L') {x : Spn} (hx : ds[j]? = some x) (hq : q x = true) : DelStS w wr g n i (j + 1) L q ds L' := by
  have e : (ds.take (j + 1)).filter (fun x => !q x) = (ds.take j).filter (fun x => !q x) := by
    rw [List.take_add_one, hx, List.filter_append]; simp [hq]
  exact ⟨h.row, h.len, by rw [e]; exact h.tk, by rw [e]; exact h.fl, fun m hm => h.hi m (by omega), h.gr⟩
theorem DelStS.keep {w' : World} (h : DelStS w wr g n i j L q ds L') (hij : i < j) (hj : j * 4 < L.length) {x : Spn} (hx : ds[j]? = some x) (hq : q x = false)
    (hr : Rw w' g 50 ((((L'.set (i * 4) (iv x.1)).set (i * 4 + 1) (iv x.2.1)).set (i * 4 + 2) (iv x.2.2.1)).set (i * 4 + 3) (iv x.2.2.2))) (hg : wr.grownBy w' (some g)) :
    DelStS w w' g n (i + 1) (j + 1) L q ds ((((L'.set (i * 4) (iv x.1)).set (i * 4 + 1) (iv x.2.1)).set (i * 4 + 2) (iv x.2.2.1)).set (i * 4 + 3) (iv x.2.2.2)) := by
  have hl := h.len
  have e : (ds.take (j + 1)).filter (fun x => !q x) = (ds.take j).filter (fun x => !q x) ++ [x] := by
    rw [List.take_add_one, hx, List.filter_append]; simp [hq]
  refine ⟨hr, by simp only [List.length_set]; exact hl, ?_, by rw [e, List.length_append, h.fl]; rfl, fun m hm => ?_, grown_trans h.gr hg⟩
  · rw [show (i + 1) * 4 = i * 4 + 4 by omega, take_set4 _ _ _ _ _ _ (by omega), h.tk, e, cellsAll_append, cellsAll_one]
    rfl
  · rw [get_set4 _ _ _ _ _ _ _ (Or.inr (by omega))]
    exact h.hi m (by omega)
end
theorem start_s {q : Spn → Bool} {ds : List Spn} {i : Nat} (hi : i < ds.length) (h1 : ∀ (j : Nat) x, j < i → ds[j]? = some x → q x = false) (h2 : ∀ x, ds[i]? = some x → q x = true) : (ds.take (i + 1)).filter (fun x => !q x) = ds.take i := by
  have e1 : (ds.take i).filter (fun x => !q x) = ds.take i := List.filter_eq_self.2 fun x hx => by
    obtain ⟨k, hk, e⟩ := List.mem_iff_getElem.1 hx
    rw [List.length_take] at hk
    have := h1 k x (by omega) (by rw [← e, List.getElem_take]; exact List.getElem?_eq_getElem _)
    simp [this]
  have hx := List.getElem?_eq_getElem hi
  rw [List.take_add_one, hx, List.filter_append, e1]
  simp [h2 _ hx]
theorem zero_s (w : World) : (zeroValue 50).run Tryz.prog w = .ok (.agg #[.int .i64 0, .int .i64 0, .int .i64 0, .int .i64 0]) w := by kernel_rfl
theorem zeros_s (n : Nat) : (Builtin.zeroCells (.agg #[.int .i64 0, .int .i64 0, .int .i64 0, .int .i64 0] : Value).cells n).size = n * 4 := by simp [Builtin.zeroCells, Value.cells]
theorem zones_s (n : Nat) : ∀ v ∈ (Builtin.zeroCells (.agg #[.int .i64 0, .int .i64 0, .int .i64 0, .int .i64 0] : Value).cells n).toList, v.oneCell' = true := fun v hv => by
  have : ∀ u ∈ [Value.int .i64 0, .int .i64 0, .int .i64 0, .int .i64 0], u.oneCell' = true := by simp [Value.oneCell']
  simp [Builtin.zeroCells, Value.cells] at hv
  obtain ⟨k, hk, rfl⟩ := hv
  refine this _ ?_
  have h4 : k % 4 = 0 ∨ k % 4 = 1 ∨ k % 4 = 2 ∨ k % 4 = 3 := by omega
  rcases h4 with h | h | h | h <;> simp [h]

set_option maxRecDepth 100000 in
set_option maxHeartbeats 1000000 in
theorem code_sdel (G : Nat) (cb : Array Value) (eg : ∀ args w, (callFunc G args).run Tryz.prog w = .ok (.enter G args) w) (q : Spn → Bool) (A : Option Addr) (n c : Nat) (ds : List Spn) (w : World) (base : Nat) (hown : w.ownsRow base 50 4 (.slice A n c) n (cellsAll scells ds)) (hl : ds.length = n) (hn : n ≤ 4611686018427387903)
    (hq : ∀ W, w.grownBy W (Value.slice A n c).ownBlock → ∀ k ∈ ds, Calls Tryz.prog G (#[spv k] ++ cb) W fun e w' => e = .returned (.bool (q k)) ∧ Below W.heap.size W w') :
    Calls Tryz.prog 81 #[.slice A n c, .func (.func G) #[] cb] w (DeletedS w base (Value.slice A n c).ownBlock (ds.filter fun x => !q x)) := by
  have ci := code_sidx G cb eg q A n c ds w (RowOf.of_own scells_len hown hl) hn (fun W hb => hq W (below_to_grown hb _))
  have HD1 : Hid (∀ W, Below w.heap.size w W → (∀ k ∈ ds, q k = false) → DeletedS w base (Value.slice A n c).ownBlock (ds.filter fun x => !q x) (.returned (.slice A n c)) W) := hidb (fun W hb hk => by
    have e : (ds.filter fun x => !q x) = ds := List.filter_eq_self.2 fun x hx => by simp [hk x hx]
    rw [e]
    exact ⟨A, c, by rw [hl], by rw [hl]; exact own_below hown hb, below_to_grown hb _, by rw [hl]⟩)
  by_cases hne : n = 0
  · subst hne
    have hnil : ds = [] := List.eq_nil_of_length_eq_zero hl
    clear hown hq hl
    go_enter Tryz.func81, Tryz.ntmps81
    go_wp2_with (go_at_call 130; (with_reducible refine ci.mono ?_); rintro e w1 ⟨⟨r, rfl, (⟨rfl, _⟩ | ⟨i, hi, _⟩)⟩, hb1⟩)
    go_ret
    exact HD1.out _ hb1 (by rw [hnil]; intro k hk; cases hk)
  · obtain ⟨g, rfl⟩ : ∃ g, A = some ⟨g, 0, none⟩ := by
      rcases hown.2 with ⟨_, h⟩ | ⟨g, cap, cur, h, _⟩
      · exact absurd h hne
      · injection h with e1; exact ⟨g, e1⟩
    obtain ⟨L, hL, hbg, hnc, hcm, hLl, hxs⟩ := own_whole hown
    have HQ : Hid (∀ W, w.grownBy W (some g) → ∀ k ∈ ds, Calls Tryz.prog G (#[spv k] ++ cb) W fun e w' => e = .returned (.bool (q k)) ∧ Below W.heap.size W w') := hidb hq
    have HST : Hid (∀ i, i < n → (∀ (j : Nat) x, j < i → ds[j]? = some x → q x = false) → (∀ x, ds[i]? = some x → q x = true) → ∀ W, Below w.heap.size w W → DelStS w W g n i (i + 1) L q ds L) := hidb (fun i hi h1 h2 W hb => by
      have e := start_s (by omega) h1 h2
      refine ⟨hL.below hb hL.lt, rfl, ?_, by rw [e, List.length_take]; omega, fun _ _ => rfl, below_to_grown hb _⟩
      rw [e, ← spans_take, hxs, List.take_take, Nat.min_eq_left (by omega)])
    have HDL : Hid (∀ j, j < n → ∃ x, ds[j]? = some x ∧ ∀ k, k < 4 → L[j * 4 + k]? = (scells x)[k]?) := hidb (fun j hj => by
      have h1 := List.getElem?_eq_getElem (l := ds) (i := j) (by omega)
      refine ⟨_, h1, fun k hk => ?_⟩
      have h2 : (L.take (n * 4))[j * 4 + k]? = L[j * 4 + k]? := by rw [List.getElem?_take, if_pos (by omega)]
      rw [← h2, ← hxs]
      exact cellsAll_at scells_len ds j _ h1 k hk)
    have HFIN : Hid (∀ W i L3, Rw W g 50 L3 → L3.length = L.length → L3.take (i * 4) = cellsAll scells (ds.filter fun x => !q x) → (ds.filter fun x => !q x).length = i → w.grownBy W (some g) → DeletedS w base (Value.slice (some ⟨g, 0, none⟩) n c).ownBlock (ds.filter fun x => !q x) (.returned (.slice (some ⟨g, 0, none⟩) i c)) W) := hidb (fun W i L3 h1 h2 h3 h4 h5 => by
      have hic : i ≤ c := by
        have := List.length_filter_le (fun x => !q x) ds
        omega
      have h6 := own_of_whole (base := base) (s := 4) (n := i) (c := c) h1 hbg hic hcm (by rw [h2, hLl])
      rw [h3] at h6
      exact ⟨some ⟨g, 0, none⟩, c, by rw [h4], by rw [h4]; exact h6, h5, rfl⟩)
    have hg := hL.lt
    have HL := hidb hLl
    have HDS := hidb hl
    have hc2 : c ≤ 9223372036854775807 := hcm
    clear hown hq hL hLl hxs hl hbg hcm
    go_enter Tryz.func81, Tryz.ntmps81
    go_wp2_with (go_at_call 130; (with_reducible refine ci.mono ?_); rintro e w1 ⟨⟨r, rfl, (⟨rfl, hall⟩ | ⟨i0, hi0, rfl, h1, h2⟩)⟩, hb1⟩)
    · go_ret
      exact HD1.out _ hb1 hall
    have HI := hidb (HST.out i0 hi0 h1 h2 w1 hb1)
    have hne1 : ((i0 : Int) == -1) = false := beq_eq_false_iff_ne.2 (by omega)
    clear h1 h2 hb1 HST HD1
    go_wp2
    go_loopw [5, 6, 7] (fun s5 s6 _ wr => ∃ (i j : Nat) (L' : List Value), s5 = .int .i64 i ∧ s6 = .int .i64 j ∧ i < j ∧ j ≤ n ∧ Hid (DelStS w wr g n i j L q ds L')) (fun _ s6 _ _ => (n - intOf s6).toNat)
    case atStart => exact ⟨i0, i0 + 1, L, rfl, by go_num, by omega, by omega, HI⟩
    case round =>
      obtain ⟨i, j, L', rfl, rfl, hij, hjn, HST⟩ := hrel
      have hL' := HST.out.row
      have hlen' : L'.length = c * 4 := by rw [HST.out.len]; exact HL.out
      by_cases hlt : j < n
      · obtain ⟨⟨a1, a2, a3, a4⟩, hx, hLx⟩ := HDL.out j hlt
        have cj : ∀ k, k < 4 → wr.cell? ⟨g, j * 4 + k, none⟩ = (scells (a1, a2, a3, a4))[k]? := fun k hk => by rw [hL'.cell, HST.out.hi _ (by omega)]; exact hLx k hk
        have cj0 : wr.cell? ⟨g, j * 4, none⟩ = some (.int .i64 a1) := cj 0 (by omega)
        have cj1 : wr.cell? ⟨g, j * 4 + 1, none⟩ = some (.int .i64 a2) := cj 1 (by omega)
        have cj2 : wr.cell? ⟨g, j * 4 + 2, none⟩ = some (.int .i64 a3) := cj 2 (by omega)
        have cj3 : wr.cell? ⟨g, j * 4 + 3, none⟩ = some (.int .i64 a4) := cj 3 (by omega)
        have c1 := HQ.out (wr.alloc (.cells #[.int .i64 a1, .int .i64 a2, .int .i64 a3, .int .i64 a4] 50)) (grown_trans HST.out.gr (World.grownBy_alloc wr _ _)) _ (List.mem_of_getElem? hx)
        have HX := hidb hx
        have hj0 : (0 : Int) ≤ (j : Int) := by omega
        have hj1 : (j : Int) < (n : Int) := by omega
        have hi0' : (0 : Int) ≤ (i : Int) := by omega
        have hi1' : (i : Int) < (n : Int) := by omega
        have HA : Hid (∀ W, Below (wr.alloc (.cells #[.int .i64 a1, .int .i64 a2, .int .i64 a3, .int .i64 a4] 50)).heap.size (wr.alloc (.cells #[.int .i64 a1, .int .i64 a2, .int .i64 a3, .int .i64 a4] 50)) W → Below wr.heap.size wr W ∧ SpAt W wr.heap.size (a1, a2, a3, a4)) := hidb (fun W hb => ⟨((Below.refl _ _).alloc (Nat.le_refl _) _).trans (hb.mono (by simp)), (SpAt.new_ wr (a1, a2, a3, a4) 50).below hb (by simp)⟩)
        have HRW : Hid (∀ W, Below wr.heap.size wr W → Rw W g 50 L') := hidb (fun W hb => hL'.below hb hL'.lt)
        clear hx hLx hL' cj
        unfold spv at c1
        simp only at c1
        cases hT : q (a1, a2, a3, a4) with
        | true =>
          rw [hT] at c1
          have HST2 := hidb (fun W hb => (HST.out.below (w' := W) hb).skip HX.out hT)
          clear hT
          go_wp2_with (go_at_fn G; (with_reducible refine c1.mono ?_); rintro e w2 ⟨rfl, hb2⟩)
          obtain ⟨hb3, _⟩ := HA.out _ hb2
          go_roundw
          case rel => refine ⟨_, _, _, _, _, _, _, _, _, _, _, _, _, _, _, _, _, _, _, _, _, _, _, ?_, rfl⟩; exact ⟨i, j + 1, L', rfl, by go_num, by omega, by omega, hidb (HST2.out _ hb3)⟩
          case measure => simp [intOf]; omega
        | false =>
          rw [hT] at c1
          have HST2 := hidb (fun W w3 (hb : Below wr.heap.size wr W) hr hg => (HST.out.below (w' := W) hb).keep (w' := w3) hij (by have := HL.out; omega) HX.out hT hr hg)
          clear hT
          go_wp2_with (first
            | (go_at_fn G; (with_reducible refine c1.mono ?_); rintro e w2 ⟨rfl, hb2⟩; obtain ⟨hb3, hsp⟩ := HA.out _ hb2; obtain ⟨y0, y1, y2, y3⟩ := hsp.cells)
            | (refine wpList_store_rw4 rfl 50 (.tmp 33) (.tmp 32) rfl g (i * 4) 50 L' (HRW.out _ hb3) (by omega) (.int .i64 a1) (.int .i64 a2) (.int .i64 a3) (.int .i64 a4) rfl rfl (by kernel_rfl) (by kernel_rfl) ?_; intro w3 hr3 hg3))
          have H4 := hidb (HST2.out w2 w3 hb3 hr3.out hg3.out)
          go_roundw
          case rel => refine ⟨_, _, _, _, _, _, _, _, _, _, _, _, _, _, _, _, _, _, _, _, _, _, _, ?_, rfl⟩; exact ⟨i + 1, j + 1, _, by go_num, by go_num, by omega, by omega, H4⟩
          case measure => simp [intOf]; omega
      · obtain rfl : j = n := by omega
        have HRW := hidb hL'
        have hi0' : (0 : Int) ≤ (i : Int) := by omega
        have hi1' : (i : Int) ≤ (j : Int) := by omega
        have hi2' : (i : Int) < (c : Int) := by omega
        have hs0 : ((j : Int) - (i : Int)).toNat = j - i := by omega
        have hs1 : ((c : Int) - (i : Int)).toNat = c - i := by omega
        clear hL'
        go_wp2_with (first
          | (refine wpList_clearK rfl (.tmp 38) 30 rfl 50 _ Tryz.underlying30 zero_s _ g (i * 4) _ _ rfl _ _ HRW.out (zones_s _) (by intro _; exact ⟨rfl, by rw [zeros_s]; omega⟩) ?_; intro w3 L3 hL3 hb3))
        go_ret
        have htk : (ds.take j).filter (fun x => !q x) = ds.filter fun x => !q x := by rw [List.take_of_length_le (by have := HDS.out; omega)]
        exact HFIN.out _ i L3 hL3.out.1 (by rw [hL3.out.2.1]; exact HST.out.len) (by rw [hL3.out.2.2, HST.out.tk, htk]) (by rw [← htk]; exact HST.out.fl) (grown_trans HST.out.gr hb3.out)

end Go.Proofs.YtonmkanppapjjaaGreat
