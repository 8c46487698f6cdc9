/- slices.IndexFunc and slices.DeleteFunc of rows of numbers. Made by program out of one text. -/
import Derived.Test.YtcgfmpegakpddaaGreatPoolSort
import Derived.Test.YtcgfmpegakpddaaGreatChainAll
namespace Go.Proofs.YtcgfmpegakpddaaGreat
open Go.RowKit Go.Maps
set_option linter.unusedVariables false


/-- slices.IndexFunc at these elements, with a closure that reads or lays blocks. -/
theorem code_oidx (q : Int → Bool) (t : Nat) (A : Option Addr) (n c : Nat) (ds : List (Int)) (w : World) (hs : Sl w w.heap.size A n (ds.map iv)) (hn : n ≤ 4611686018427387903)
    (hq : ∀ W, Below w.heap.size w W → ∀ k ∈ ds, Calls Tryz.prog 68 #[iv k, .pointer (some ⟨t, 0, none⟩)] W fun e w' => e = .returned (.bool (q k)) ∧ Below W.heap.size W w') :
    Calls Tryz.prog 118 #[.slice A n c, .func (.func 68) #[] #[.pointer (some ⟨t, 0, none⟩)]] w fun e w' => (∃ r : Int, e = .returned (.int .i64 r) ∧ ((r = -1 ∧ ∀ k ∈ ds, q k = false) ∨ ∃ i : Nat, i < n ∧ r = i ∧ (∀ (j : Nat) x, j < i → ds[j]? = some x → q x = false) ∧ ∀ x, ds[i]? = some x → q x = true)) ∧ Below w.heap.size w w' := by
  have HL : Hid (ds.length = n) := hidb (by have := hs.1; simpa using this)
  have HS := hidb hs
  have HQ := hidb hq
  clear hs hq
  go_enter Tryz.func118, Tryz.ntmps118
  go_wp2
  go_loopw [8] (fun k wr => ∃ j : Nat, j ≤ n ∧ Hid (∀ (i : Nat) x, i < j → ds[i]? = some x → q x = false) ∧ k = .int .i64 j ∧ Hid (Below w.heap.size w wr)) (fun k _ => (n - intOf k).toNat)
  case atStart => exact ⟨0, by omega, hidb (fun i x h => absurd h (Nat.not_lt_zero _)), rfl, hidb (Below.refl _ _)⟩
  case round =>
    obtain ⟨j, hj, HA, rfl, HB⟩ := hrel
    by_cases hlt : j < n
    · obtain ⟨b, off, u, rfl, _, hx, hc⟩ := (HS.out.below HB.out).at_ hlt
      obtain ⟨x, hx2, rfl⟩ : ∃ x, ds[j]? = some x ∧ iv x = u := by
        rw [List.getElem?_map] at hx
        exact Option.map_eq_some_iff.1 hx
      have c1 := HQ.out wr HB.out x (List.mem_of_getElem? hx2)
      have hj0 : (0 : Int) ≤ (j : Int) := by omega
      have hj1 : (j : Int) < (n : Int) := by omega
      have HX := hidb hx2
      clear hx hx2
      unfold iv at hc c1
      cases hT : q x with
      | false =>
        rw [hT] at c1
        have HA2 : Hid (∀ (i : Nat) y, i < j + 1 → ds[i]? = some y → q y = false) := hidb (fun i y hi hy => by
          by_cases h : i = j
          · subst h
            rw [HX.out] at hy
            injection hy with hy
            rw [← hy]; exact hT
          · exact HA.out i y (by omega) hy)
        clear hT
        go_wp2_with (first | (go_at_call 68; (with_reducible refine c1.mono ?_); rintro e w1 ⟨rfl, hb1⟩))
        go_roundw
        case rel => exact ⟨j + 1, by omega, HA2, by go_num, hidb (HB.out.trans (hb1.mono HB.out.size))⟩
        case measure => simp [intOf]; omega
      | true =>
        rw [hT] at c1
        have HF : Hid (∀ y, ds[j]? = some y → q y = true) := hidb (fun y hy => by
          rw [HX.out] at hy
          injection hy with hy
          rw [← hy]; exact hT)
        clear hT
        go_wp2_with (first | (go_at_call 68; (with_reducible refine c1.mono ?_); rintro e w1 ⟨rfl, hb1⟩))
        go_ret
        exact ⟨⟨j, rfl, Or.inr ⟨j, hlt, rfl, HA.out, HF.out⟩⟩, HB.out.trans (hb1.mono HB.out.size)⟩
    · have HF : Hid (∀ k ∈ ds, q k = false) := hidb (fun k hk => by
        obtain ⟨i, hi, e⟩ := List.mem_iff_getElem.1 hk
        exact HA.out i k (by have := HL.out; omega) (by rw [List.getElem?_eq_getElem hi, e]))
      go_wp2
      go_ret
      exact ⟨⟨-1, rfl, Or.inl ⟨rfl, HF.out⟩⟩, HB.out⟩

/-- What DeleteFunc leaves of a row. -/
def DeletedO (w : World) (base : Nat) (row : Option Nat) (ds : List (Int)) (e : Ending) (w' : World) : Prop :=
  ∃ A c, e = .returned (.slice A ds.length c) ∧ w'.ownsRow base 3 1 (.slice A ds.length c) ds.length (ds.map iv) ∧ w.grownBy w' row
/-- Where DeleteFunc stands. -/
structure DelStO (w wr : World) (g n i j : Nat) (L : List Value) (q : Int → Bool) (ds : List (Int)) (L' : List Value) : Prop where
  row : Rw wr g 3 L'
  len : L'.length = L.length
  tk : L'.take i = ((ds.take j).filter fun x => !q x).map iv
  fl : ((ds.take j).filter fun x => !q x).length = i
  hi : ∀ m, j ≤ m → L'[m]? = L[m]?
  gr : w.grownBy wr (some g)
section
variable {w wr : World} {g n i j : Nat} {L L' : List Value} {q : Int → Bool} {ds : List (Int)}
theorem DelStO.below {w' : World} (h : DelStO w wr g n i j L q ds L') (hb : Below wr.heap.size wr w') : DelStO w w' g n i j L q ds L' :=
  ⟨h.row.below hb h.row.lt, h.len, h.tk, h.fl, h.hi, grown_trans h.gr (below_to_grown hb _)⟩
theorem DelStO.skip (h : DelStO w wr g n i j L q ds L') {x : Int} (hx : ds[j]? = some x) (hq : q x = true) : DelStO w wr g n i (j + 1) L q ds L' := by
  have e : (ds.take (j + 1)).filter (fun x => !q x) = (ds.take j).filter (fun x => !q x) := by
    rw [List.take_add_one, hx, List.filter_append]; simp [hq]
  exact ⟨h.row, h.len, by rw [e]; exact h.tk, by rw [e]; exact h.fl, fun m hm => h.hi m (by omega), h.gr⟩
theorem DelStO.keep (h : DelStO w wr g n i j L q ds L') (hij : i < j) (hj : j < L.length) {x : Int} (hx : ds[j]? = some x) (hq : q x = false) : DelStO w (wr.setCell ⟨g, i, none⟩ (iv x)) g n (i + 1) (j + 1) L q ds (L'.set i (iv x)) := by
  have hl := h.len
  have e : (ds.take (j + 1)).filter (fun x => !q x) = (ds.take j).filter (fun x => !q x) ++ [x] := by
    rw [List.take_add_one, hx, List.filter_append]; simp [hq]
  refine ⟨h.row.setCell i _, by rw [List.length_set]; exact hl, ?_, by rw [e, List.length_append, h.fl]; rfl, fun m hm => ?_, grown_row h.gr i _⟩
  · rw [List.take_add_one, List.take_set_of_le (Nat.le_refl _), h.tk, e, List.map_append, List.getElem?_set_self (by omega)]
    rfl
  · rw [List.getElem?_set_ne (by omega)]
    exact h.hi m (by omega)
end
theorem start_o {q : Int → Bool} {ds : List (Int)} {i : Nat} (hi : i < ds.length) (h1 : ∀ (j : Nat) x, j < i → ds[j]? = some x → q x = false) (h2 : ∀ x, ds[i]? = some x → q x = true) : (ds.take (i + 1)).filter (fun x => !q x) = ds.take i := by
  have e1 : (ds.take i).filter (fun x => !q x) = ds.take i := List.filter_eq_self.2 fun x hx => by
    obtain ⟨k, hk, e⟩ := List.mem_iff_getElem.1 hx
    rw [List.length_take] at hk
    have := h1 k x (by omega) (by rw [← e, List.getElem_take]; exact List.getElem?_eq_getElem _)
    simp [this]
  have hx := List.getElem?_eq_getElem hi
  rw [List.take_add_one, hx, List.filter_append, e1]
  simp [h2 _ hx]
theorem zero_o (w : World) : (zeroValue 3).run Tryz.prog w = .ok (.int .i64 0) w := by kernel_rfl
theorem zeros_o (n : Nat) : (Builtin.zeroCells (.int .i64 0 : Value).cells n).size = n := by simp [Builtin.zeroCells, Value.cells]
theorem zones_o (n : Nat) : ∀ v ∈ (Builtin.zeroCells (.int .i64 0 : Value).cells n).toList, v.oneCell' = true := fun v hv => by
  simp [Builtin.zeroCells, Value.cells, Nat.mod_one] at hv
  obtain ⟨_, rfl⟩ := hv
  rfl

set_option maxRecDepth 100000 in
theorem code_odel (q : Int → Bool) (t : Nat) (A : Option Addr) (n c : Nat) (ds : List (Int)) (w : World) (base : Nat) (hown : w.ownsRow base 3 1 (.slice A n c) n (ds.map iv)) (hl : ds.length = n) (hn : n ≤ 4611686018427387903)
    (hq : ∀ W, w.grownBy W (Value.slice A n c).ownBlock → ∀ k ∈ ds, Calls Tryz.prog 68 #[iv k, .pointer (some ⟨t, 0, none⟩)] W fun e w' => e = .returned (.bool (q k)) ∧ Below W.heap.size W w') :
    Calls Tryz.prog 66 #[.slice A n c, .func (.func 68) #[] #[.pointer (some ⟨t, 0, none⟩)]] w (DeletedO w base (Value.slice A n c).ownBlock (ds.filter fun x => !q x)) := by
  have ci := code_oidx q t A n c ds w (Sl.of_own hown) hn (fun W hb => hq W (below_to_grown hb _))
  have HD1 : Hid (∀ W, Below w.heap.size w W → (∀ k ∈ ds, q k = false) → DeletedO w base (Value.slice A n c).ownBlock (ds.filter fun x => !q x) (.returned (.slice A n c)) W) := hidb (fun W hb hk => by
    have e : (ds.filter fun x => !q x) = ds := List.filter_eq_self.2 fun x hx => by simp [hk x hx]
    rw [e]
    exact ⟨A, c, by rw [hl], by rw [hl]; exact own_below hown hb, below_to_grown hb _⟩)
  by_cases hne : n = 0
  · subst hne
    have hnil : ds = [] := List.eq_nil_of_length_eq_zero hl
    clear hown hq hl
    go_enter Tryz.func66, Tryz.ntmps66
    go_wp2_with (go_at_call 118; (with_reducible refine ci.mono ?_); rintro e w1 ⟨⟨r, rfl, (⟨rfl, _⟩ | ⟨i, hi, _⟩)⟩, hb1⟩)
    go_ret
    exact HD1.out _ hb1 (by rw [hnil]; intro k hk; cases hk)
  · obtain ⟨g, rfl⟩ : ∃ g, A = some ⟨g, 0, none⟩ := by
      rcases hown.2 with ⟨_, h⟩ | ⟨g, cap, cur, h, _⟩
      · exact absurd h hne
      · injection h with e1; exact ⟨g, e1⟩
    obtain ⟨L, hL, hbg, hnc, hcm, hLl, hxs⟩ := own_whole hown
    rw [Nat.mul_one] at hLl hxs
    have HQ : Hid (∀ W, w.grownBy W (some g) → ∀ k ∈ ds, Calls Tryz.prog 68 #[iv k, .pointer (some ⟨t, 0, none⟩)] W fun e w' => e = .returned (.bool (q k)) ∧ Below W.heap.size W w') := hidb hq
    have HST : Hid (∀ i, i < n → (∀ (j : Nat) x, j < i → ds[j]? = some x → q x = false) → (∀ x, ds[i]? = some x → q x = true) → ∀ W, Below w.heap.size w W → DelStO w W g n i (i + 1) L q ds L) := hidb (fun i hi h1 h2 W hb => by
      have e := start_o (by omega) h1 h2
      refine ⟨hL.below hb hL.lt, rfl, ?_, by rw [e, List.length_take]; omega, fun _ _ => rfl, below_to_grown hb _⟩
      rw [e, List.map_take, hxs, List.take_take, Nat.min_eq_left (by omega)])
    have HDL : Hid (∀ j, j < n → ∃ x, ds[j]? = some x ∧ L[j]? = some (iv x)) := hidb (fun j hj => by
      have h1 := List.getElem?_eq_getElem (l := ds) (i := j) (by omega)
      refine ⟨_, h1, ?_⟩
      have h2 : (L.take n)[j]? = L[j]? := by rw [List.getElem?_take, if_pos hj]
      rw [← h2, ← hxs, List.getElem?_map, h1]; rfl)
    have HFIN : Hid (∀ W i L3, Rw W g 3 L3 → L3.length = L.length → L3.take i = (ds.filter fun x => !q x).map iv → (ds.filter fun x => !q x).length = i → w.grownBy W (some g) → DeletedO w base (Value.slice (some ⟨g, 0, none⟩) n c).ownBlock (ds.filter fun x => !q x) (.returned (.slice (some ⟨g, 0, none⟩) i c)) W) := hidb (fun W i L3 h1 h2 h3 h4 h5 => by
      have hic : i ≤ c := by
        have := List.length_filter_le (fun x => !q x) ds
        omega
      have h6 := own_of_whole (base := base) (s := 1) (n := i) (c := c) h1 hbg hic hcm (by rw [h2, hLl]; omega)
      rw [Nat.mul_one, h3] at h6
      exact ⟨some ⟨g, 0, none⟩, c, by rw [h4], by rw [h4]; exact h6, h5⟩)
    have hg := hL.lt
    have HL := hidb hLl
    have HDS := hidb hl
    have hc2 : c ≤ 9223372036854775807 := hcm
    clear hown hq hL hLl hxs hl hbg hcm
    go_enter Tryz.func66, Tryz.ntmps66
    go_wp2_with (go_at_call 118; (with_reducible refine ci.mono ?_); rintro e w1 ⟨⟨r, rfl, (⟨rfl, hall⟩ | ⟨i0, hi0, rfl, h1, h2⟩)⟩, hb1⟩)
    · go_ret
      exact HD1.out _ hb1 hall
    have HI := hidb (HST.out i0 hi0 h1 h2 w1 hb1)
    have hne1 : ((i0 : Int) == -1) = false := beq_eq_false_iff_ne.2 (by omega)
    clear h1 h2 hb1 HST HD1
    go_wp2
    go_loopw [5, 6, 7] (fun s5 s6 _ wr => ∃ (i j : Nat) (L' : List Value), s5 = .int .i64 i ∧ s6 = .int .i64 j ∧ i < j ∧ j ≤ n ∧ Hid (DelStO w wr g n i j L q ds L')) (fun _ s6 _ _ => (n - intOf s6).toNat)
    case atStart => exact ⟨i0, i0 + 1, L, rfl, by go_num, by omega, by omega, HI⟩
    case round =>
      obtain ⟨i, j, L', rfl, rfl, hij, hjn, HST⟩ := hrel
      have hL' := HST.out.row
      have hlen' : L'.length = c := by rw [HST.out.len]; exact HL.out
      by_cases hlt : j < n
      · obtain ⟨x, hx, hLx⟩ := HDL.out j hlt
        have cj : wr.cell? ⟨g, j, none⟩ = some (iv x) := by rw [hL'.cell, HST.out.hi j (Nat.le_refl _)]; exact hLx
        have c1 := HQ.out wr HST.out.gr x (List.mem_of_getElem? hx)
        have HX := hidb hx
        have hj0 : (0 : Int) ≤ (j : Int) := by omega
        have hj1 : (j : Int) < (n : Int) := by omega
        have hi0' : (0 : Int) ≤ (i : Int) := by omega
        have hi1' : (i : Int) < (n : Int) := by omega
        have HIC : Hid (∀ W, Below wr.heap.size wr W → ∃ u, W.cell? ⟨g, i, none⟩ = some u ∧ W.frozen? ⟨g, i, none⟩ = false) := hidb (fun W hb => by
          have h := hL'.below hb hL'.lt
          exact ⟨L'[i]'(by omega), by rw [h.cell]; exact List.getElem?_eq_getElem _, h.free i⟩)
        clear hx hLx hL'
        unfold iv at cj c1
        cases hT : q x with
        | true =>
          rw [hT] at c1
          have HST2 := hidb (fun W hb => (HST.out.below (w' := W) hb).skip HX.out hT)
          clear hT
          go_wp2_with (go_at_call 68; (with_reducible refine c1.mono ?_); rintro e w2 ⟨rfl, hb2⟩)
          go_roundw
          case rel => refine ⟨_, _, _, _, _, _, _, _, _, _, _, _, _, _, _, _, _, _, _, _, _, _, _, ?_, rfl⟩; exact ⟨i, j + 1, L', rfl, by go_num, by omega, by omega, hidb (HST2.out _ hb2)⟩
          case measure => simp [intOf]; omega
        | false =>
          rw [hT] at c1
          have HST2 := hidb (fun W hb => (HST.out.below (w' := W) hb).keep hij (by have := HL.out; omega) HX.out hT)
          clear hT
          
          go_wp2_with (go_at_call 68; (with_reducible refine c1.mono ?_); rintro e w2 ⟨rfl, hb2⟩; obtain ⟨u, ci1, ci2⟩ := HIC.out _ hb2)
          go_roundw
          case rel => refine ⟨_, _, _, _, _, _, _, _, _, _, _, _, _, _, _, _, _, _, _, _, _, _, _, ?_, rfl⟩; exact ⟨i + 1, j + 1, _, by go_num, by go_num, by omega, by omega, hidb (HST2.out _ hb2)⟩
          case measure => simp [intOf]; omega
      · obtain rfl : j = n := by omega
        have HRW := hidb hL'
        have hi0' : (0 : Int) ≤ (i : Int) := by omega
        have hi1' : (i : Int) ≤ (j : Int) := by omega
        have hi2' : (i : Int) < (c : Int) := by omega
        have hs0 : ((j : Int) - (i : Int)).toNat = j - i := by omega
        have hs1 : ((c : Int) - (i : Int)).toNat = c - i := by omega
        clear hL'
        go_wp2_with (first
          | (refine wpList_clearK rfl (.tmp 38) 38 rfl 3 _ Tryz.underlying38 zero_o _ g i _ _ rfl _ _ HRW.out (zones_o _) (by intro _; exact ⟨rfl, by rw [zeros_o]; omega⟩) ?_; intro w3 L3 hL3 hb3))
        go_ret
        have htk : (ds.take j).filter (fun x => !q x) = ds.filter fun x => !q x := by rw [List.take_of_length_le (by have := HDS.out; omega)]
        exact HFIN.out _ i L3 hL3.out.1 (by rw [hL3.out.2.1]; exact HST.out.len) (by rw [hL3.out.2.2, HST.out.tk, htk]) (by rw [← htk]; exact HST.out.fl) (grown_trans HST.out.gr hb3.out)

end Go.Proofs.YtcgfmpegakpddaaGreat
