/- What the document's own 'with', Push and Lay of layers 14 and 15 return. -/
import Derived.Test.YtlniakcoikhilaaGreatDoorWlkAll
import Derived.Test.YtlniakcoikhilaaGreatDoorSlsAll
import Derived.Test.YtlniakcoikhilaaGreatDoorFrmAll
namespace Go.Proofs.YtlniakcoikhilaaGreatDoor
open Go.RowKit
set_option linter.unusedVariables false

/-- Words of the call's own. -/
def OwnW (w : World) (l : List Nat) (e : Ending) (w' : World) : Prop := ∃ A c, e = .returned (.slice A l.length c) ∧ w'.ownsRow w.heap.size 59 1 (.slice A l.length c) l.length (l.map wv) ∧ Below w.heap.size w w'
theorem ref_frwith (A A2 : Option Addr) (len c n2 c2 : Nat) (xs ys : List Nat) (at' : Nat) (w : World) (hs : Sl w w.heap.size A len (xs.map wv)) (hs2 : Sl w w.heap.size A2 n2 (ys.map wv)) (h0 : 0 < len) (hl : len ≤ 65536) (hin : at' + n2 ≤ len) :
    Calls Tryz.prog 78 #[.slice A len c, .int .i64 (at' : Int), .slice A2 n2 c2] w (OwnW w (aStore xs at' ys)) := by
  obtain ⟨i0, hi, hz0, hz1, hz2⟩ := info_parts info_u64
  have l1 : xs.length = len := by have := hs.1; simpa using this
  have l2 : ys.length = n2 := by have := hs2.1; simpa using this
  have L1 := hidb l1
  have L2 := hidb l2
  have HS2 := hidb hs2
  obtain ⟨b, off, rfl, hb, hcell⟩ := hs.2 h0
  have hc1 : ∀ j u, (xs.map wv)[j]? = some u → (w.alloc (.cells #[] 59)).cell? ((⟨b, off, none⟩ : Addr).add j) = some u := fun j u hj => by
    have hjl : j < len := by
      rcases Nat.lt_or_ge j len with h | h
      · exact h
      · rw [List.getElem?_eq_none (by rw [List.length_map, l1]; exact h)] at hj; cases hj
    rw [Go.WideShapes.add_plain, World.cell?_alloc_lt _ _ _ hb, hcell j hjl]; exact hj
  have h1 : ∀ u ∈ xs.map wv, u.oneCell' = true := fun u hu => by
    obtain ⟨x, _, rfl⟩ := List.mem_map.1 hu; rfl
  have C1 := hidb hc1
  have C2 := hidb h1
  clear hs hs2 l1 l2 hc1 h1 hcell hb
  go_enter Tryz.func78, Tryz.ntmps78
  go_wp2_with (first
    | (at_builtin; refine wpList_append_own (w.alloc (.cells #[] 59)) rfl _ _ 22 rfl w.heap.size 59 i0 (.int .u64 0) 1 8 Tryz.underlying22 hi hz0 hz1 hz2 rfl (by decide) _ 0 [] rfl (by exact ownsRow_empty w _) ⟨b, off, none⟩ len c (xs.map wv) rfl (by have := L1.out; simp; omega) C1.out C2.out (by unfold maxLen; omega) (by omega) (by simp) ?_; intro v1 w1 hown1 hg1 hnil1))
  obtain ⟨g, cap, rfl, hgb, hglt⟩ := hown1.form (by omega)
  have hbel0 : Below w.heap.size w w1 := ((Below.refl _ _).alloc (Nat.le_refl _) _).grown hg1 (by simp) (fun k hk => by cases hk; exact Nat.le_refl _)
  rw [Nat.zero_add, List.nil_append] at hown1
  rw [Nat.zero_add]
  have HO1 := hidb hown1
  have HB0 := hidb hbel0
  clear hown1 hg1 hnil1 hbel0 hglt C1 C2
  go_loopw [14, 8] (fun k _ wr => ∃ j : Nat, j ≤ n2 ∧ k = .int .i64 j ∧ wr.ownsRow w.heap.size 59 1 (.slice (some ⟨g, 0, none⟩) len cap) len ((aStore xs at' (ys.take j)).map wv) ∧ Below w.heap.size w wr) (fun k _ _ => (n2 - intOf k).toNat)
  case atStart => exact ⟨0, by omega, rfl, by rw [List.take_zero, aStore_nil]; exact HO1.out, HB0.out⟩
  case round =>
    obtain ⟨j, hj, rfl, hown, hbel⟩ := hrel
    by_cases hlt : j < n2
    · obtain ⟨b2, off2, y, rfl, hy, hc2⟩ := (HS2.out.below hbel).word hlt
      have hlen : (aStore xs at' (ys.take j)).length = len := by
        rw [aStore_length _ _ _ (by rw [List.length_take]; have := L1.out; have := L2.out; omega)]; exact L1.out
      obtain ⟨o, ho⟩ : ∃ o, wr.cell? ⟨g, at' + j, none⟩ = some o := by
        rw [hown.cellAt (at' + j) (by omega), List.getElem?_eq_getElem (by rw [List.length_map, hlen]; omega)]; exact ⟨_, rfl⟩
      have hf := hown.frozenAt (at' + j)
      have hst := hown.stored (at' + j) (wv y)
      have HST : Hid ((wr.setCell ⟨g, at' + j, none⟩ (.int .u64 (y : Int))).ownsRow w.heap.size 59 1 (.slice (some ⟨g, 0, none⟩) len cap) len ((aStore xs at' (ys.take (j + 1))).map wv)) := hidb (by
        rw [aStore_take xs at' ys j y hy (by have := L1.out; have := L2.out; omega), List.map_set]; exact hst.1)
      have HB := hidb (hbel.setCell (p := ⟨g, at' + j, none⟩) hgb (.int .u64 (y : Int)))
      clear hst hy hown hbel hlen
      go_wp2
      go_roundw
      case rel => exact ⟨j + 1, by omega, by go_num, HST.out, HB.out⟩
      case measure => simp [intOf]; omega
    · have hje : j = n2 := by omega
      have P : Hid (OwnW w (aStore xs at' ys) (.returned (.slice (some ⟨g, 0, none⟩) len cap)) wr) := hidb (by
        have ht : ys.take j = ys := List.take_of_length_le (by have := L2.out; omega)
        rw [ht] at hown
        have hlen : (aStore xs at' ys).length = len := by
          rw [aStore_length _ _ _ (by have := L1.out; have := L2.out; omega)]; exact L1.out
        exact ⟨_, _, by rw [hlen], by rw [hlen]; exact hown, hbel⟩)
      clear hown hbel
      subst hje
      go_wp2
      go_ret
      exact P.out


/-- Words that a call answers, a base, and an error's number. -/
def ResP (w : World) (A : Option Addr) (n : Nat) (r : List Nat × Int × Int) (e : Ending) (w' : World) : Prop := ∃ B k, e = .returned (.tuple #[.slice B n k, .int .i64 r.2.1, .int .i64 r.2.2]) ∧ Sl w' w'.heap.size B n (r.1.map wv) ∧ (B = none → k = 0) ∧ Below w.heap.size w w' ∧ (B = A ∨ ∀ a, B = some a → w.heap.size ≤ a.block)
set_option maxRecDepth 100000 in
set_option maxHeartbeats 4000000 in
theorem ref_frpush {w : World} {A A2 : Option Addr} {n c n2 c2 lo' hi' : Nat} {xs : List Nat} {ys : List FnV} (hs : Sl w w.heap.size A n (xs.map wv)) (hA0 : A = none → c = 0) (h0 : 0 < n) (hn : n ≤ 65536) (hr : FnRow w lo' hi' A2 n2 ys) (hhi : hi' ≤ w.heap.size) (hn2 : n2 ≤ 1000) (hl : ∀ x ∈ vals ys, 0 ≤ x.1 ∧ x.1 ≤ 1000) (lo sp f link : Int) (h1 : in64 lo) (h2 : in64 sp) (h3 : in64 link) :
    Calls Tryz.prog 54 #[.slice A n c, .slice A2 n2 c2, .int .i64 lo, .int .i64 sp, .int .i64 f, .int .i64 link] w (ResP w A n (frPush xs (vals ys) lo sp f link)) := by
  have hlen : xs.length = n := by have := hs.1; simpa using this
  have cw := ref_fwordsR A2 n2 c2 ys lo' hi' w f hr hn2 (by have := fSize_range hl f; omega) (by have := fSize_range hl f; omega)
  have hc := fWords_cases (vals ys) hl f
  have hl2 : (vals ys).length = n2 := by rw [vals_length]; exact hr.len
  obtain ⟨i0, hi, hz0, hz1, hz2⟩ := info_parts info_u64
  unfold frPush
  rw [hlen]
  generalize fWords (vals ys) f = m at *
  have PN : Hid (∀ no, ResP w A n (xs, 0, no) (.returned (.tuple #[.slice A n c, .int .i64 0, .int .i64 no])) w) := hidb (fun no => ⟨A, c, rfl, hs, hA0, Below.refl _ _, Or.inl rfl⟩)
  obtain ⟨k0, k1⟩ := h3
  obtain ⟨s0, s1⟩ := h2
  obtain ⟨o0, o1⟩ := h1
  by_cases a1 : m < 0
  · rw [if_pos (Or.inl a1)]
    clear hs hr hl hc hA0
    --@1
    go_enter Tryz.func54, Tryz.ntmps54
    go_wp2_with (first | (go_at_call 50; (with_reducible refine cw.mono ?_); rintro e w1 ⟨rfl, rfl⟩))
    exact bodyPost_ret (v := .tuple #[.slice A n c, .int .i64 0, .int .i64 1]) (by simp [results, Tryz.results54, go_sem]) rfl (PN.out 1)
  by_cases a2 : link < -1
  · rw [if_pos (Or.inr (Or.inl a2))]
    clear hs hr hl hc hA0
    --@2
    go_enter Tryz.func54, Tryz.ntmps54
    go_wp2_with (first | (go_at_call 50; (with_reducible refine cw.mono ?_); rintro e w1 ⟨rfl, rfl⟩))
    exact bodyPost_ret (v := .tuple #[.slice A n c, .int .i64 0, .int .i64 1]) (by simp [results, Tryz.results54, go_sem]) rfl (PN.out 1)
  by_cases a3 : (n : Int) ≤ link
  · rw [if_pos (Or.inr (Or.inr a3))]
    clear hs hr hl hc hA0
    --@3
    go_enter Tryz.func54, Tryz.ntmps54
    go_wp2_with (first | (go_at_call 50; (with_reducible refine cw.mono ?_); rintro e w1 ⟨rfl, rfl⟩))
    exact bodyPost_ret (v := .tuple #[.slice A n c, .int .i64 0, .int .i64 1]) (by simp [results, Tryz.results54, go_sem]) rfl (PN.out 1)
  rw [if_neg (by omega)]
  by_cases b1 : lo < 0
  · rw [if_pos (Or.inl b1)]
    clear hs hr hl hc hA0
    --@4
    go_enter Tryz.func54, Tryz.ntmps54
    go_wp2_with (first | (go_at_call 50; (with_reducible refine cw.mono ?_); rintro e w1 ⟨rfl, rfl⟩))
    exact bodyPost_ret (v := .tuple #[.slice A n c, .int .i64 0, .int .i64 2]) (by simp [results, Tryz.results54, go_sem]) rfl (PN.out 2)
  by_cases b0 : (n : Int) < lo
  · rw [if_pos (by omega)]
    clear hs hr hl hc hA0
    --@5
    go_enter Tryz.func54, Tryz.ntmps54
    go_wp2_with (first | (go_at_call 50; (with_reducible refine cw.mono ?_); rintro e w1 ⟨rfl, rfl⟩))
    exact bodyPost_ret (v := .tuple #[.slice A n c, .int .i64 0, .int .i64 2]) (by simp [results, Tryz.results54, go_sem]) rfl (PN.out 2)
  by_cases b2 : (n : Int) < sp
  · rw [if_pos (Or.inr (Or.inl b2))]
    clear hs hr hl hc hA0
    --@6
    go_enter Tryz.func54, Tryz.ntmps54
    go_wp2_with (first | (go_at_call 50; (with_reducible refine cw.mono ?_); rintro e w1 ⟨rfl, rfl⟩))
    exact bodyPost_ret (v := .tuple #[.slice A n c, .int .i64 0, .int .i64 2]) (by simp [results, Tryz.results54, go_sem]) rfl (PN.out 2)
  by_cases b3 : sp < lo
  · rw [if_pos (Or.inr (Or.inr (Or.inl b3)))]
    clear hs hr hl hc hA0
    --@7
    go_enter Tryz.func54, Tryz.ntmps54
    go_wp2_with (first | (go_at_call 50; (with_reducible refine cw.mono ?_); rintro e w1 ⟨rfl, rfl⟩))
    exact bodyPost_ret (v := .tuple #[.slice A n c, .int .i64 0, .int .i64 2]) (by simp [results, Tryz.results54, go_sem]) rfl (PN.out 2)
  have hw : wrap64 (sp - lo) = sp - lo := by unfold wrap64; omega
  by_cases b4 : sp - lo < m
  · rw [if_pos (Or.inr (Or.inr (Or.inr b4)))]
    clear hs hr hl hc hA0
    --@8
    go_enter Tryz.func54, Tryz.ntmps54
    go_wp2_with (first | (go_at_call 50; (with_reducible refine cw.mono ?_); rintro e w1 ⟨rfl, rfl⟩))
    exact bodyPost_ret (v := .tuple #[.slice A n c, .int .i64 0, .int .i64 2]) (by simp [results, Tryz.results54, go_sem]) rfl (PN.out 2)
  rw [if_neg (by omega)]
  obtain ⟨j, rfl⟩ : ∃ j : Nat, m = (j : Int) + 2 := ⟨(m - 2).toNat, by omega⟩
  obtain ⟨s, rfl⟩ : ∃ s : Nat, sp = (s : Int) + ((j : Int) + 2) := ⟨(sp - (j + 2)).toNat, by omega⟩
  obtain ⟨u, rfl⟩ : ∃ u : Nat, link = (u : Int) - 1 := ⟨(link + 1).toNat, by omega⟩
  obtain ⟨v, rfl⟩ : ∃ v : Nat, f = (v : Int) - 1 := ⟨(f + 1).toNat, by omega⟩
  have hu : u ≤ 65536 := by omega
  have hv : v ≤ 1000 := by omega
  have hsn : s + (j + 2) ≤ n := by omega
  have hj9 : j ≤ 1000 := by omega
  have HFR : Hid (u :: v :: List.replicate j 0 = frRow (j + 2) ((v : Int) - 1) ((u : Int) - 1)) := hidb (by
    unfold frRow; rw [show ((u : Int) - 1 + 1).toNat = u by omega, show ((v : Int) - 1 + 1).toNat = v by omega]; rfl)
  have HE : Hid (aStore xs ((s : Int) + ((j : Int) + 2) - ((j : Int) + 2)).toNat (frRow ((j : Int) + 2).toNat ((v : Int) - 1) ((u : Int) - 1)) = aStore xs s (u :: v :: List.replicate j 0)) := hidb (by
    rw [show ((s : Int) + ((j : Int) + 2) - ((j : Int) + 2)).toNat = s by omega, show ((j : Int) + 2).toNat = j + 2 by omega, HFR.out])
  have E2 : Hid (List.replicate (j + 2) 0 = 0 :: 0 :: List.replicate j 0) := hidb rfl
  have HSB : Hid ((s : Int) + ((j : Int) + 2) - ((j : Int) + 2) = (s : Int)) := hidb (by omega)
  have hrl : (u :: v :: List.replicate j 0).length = j + 2 := by simp
  have HW : Hid (∀ W B k, Below w.heap.size w W → W.ownsRow w.heap.size 59 1 (.slice B (j + 2) k) (j + 2) ((u :: v :: List.replicate j 0).map wv) → Calls Tryz.prog 78 #[.slice A n c, .int .i64 (s : Int), .slice B (j + 2) k] W fun e w' => ∃ D q, e = .returned (.slice D n q) ∧ Hid (Sl w' w'.heap.size D n ((aStore xs s (u :: v :: List.replicate j 0)).map wv)) ∧ Hid (D = none → q = 0) ∧ Hid (Below w.heap.size w w' ∧ ∀ a, D = some a → w.heap.size ≤ a.block)) := hidb (fun W B k hb ho => by
    refine (ref_frwith A B n c (j + 2) k xs (u :: v :: List.replicate j 0) s W ((hs.below hb).more hb.size) (Sl.of_own ho) h0 hn (by omega)).mono ?_
    rintro e w' ⟨D, q, rfl, ho2, hb2⟩
    have hal : (aStore xs s (u :: v :: List.replicate j 0)).length = n := by rw [aStore_length _ _ _ (by rw [hlen, hrl]; omega)]; exact hlen
    rw [hal] at ho2 ⊢
    exact ⟨D, q, rfl, hidb (Sl.of_own ho2), hidb (own_caps ho2).2.2, hidb ⟨hb.trans (hb2.mono hb.size), fun a ha => Nat.le_trans hb.size (ho2.lt a.block (by rw [ha]; rfl)).1⟩⟩)
  rw [HE.out, HSB.out]
  clear hs hr hl hc hA0 hl2 hlen hrl k0 k1 s0 s1 HSB HE
  --@9
  go_enter Tryz.func54, Tryz.ntmps54
  go_wp2_with (first
    | (go_at_call 50; (with_reducible refine cw.mono ?_); rintro e w1 ⟨rfl, rfl⟩)
    | (at_make; refine wpList_make_full w rfl _ _ 22 rfl w.heap.size 59 i0 (.int .u64 0) 1 Tryz.underlying22 hi hz0 hz1 .i64 .i64 _ _ (j + 2) rfl rfl (by omega) (by omega) (by rw [hz2]; omega) (by unfold maxLen; omega) (Nat.le_refl _) ?_; intro w2 hown hgrow; go_loud (rw [zero_words] at hown; rw [E2.out] at hown; have hbw : Below w.heap.size w w2 := (Below.refl _ _).grown hgrow (Nat.le_refl _) (fun k hk => (by cases hk)); have hg2 : w.heap.size < w2.heap.size := (hown.lt w.heap.size rfl).2; have k0 : w2.cell? ⟨w.heap.size, 0, none⟩ = some (.int .u64 0) := (hown.cellAt 0 (by omega)); have k1 : w2.cell? ⟨w.heap.size, 1, none⟩ = some (.int .u64 0) := (hown.cellAt 1 (by omega)); have f0 := hown.frozenAt 0; have f1 := hown.frozenAt 1; have hot := row_two (u := u) (v := v) hown; have hb3 : Below w.heap.size w ((w2.setCell ⟨w.heap.size, 0, none⟩ (.int .u64 (u : Int))).setCell ⟨w.heap.size, 1, none⟩ (.int .u64 (v : Int))) := (hbw.setCell (p := ⟨w.heap.size, 0, none⟩) (Nat.le_refl _) _).setCell (p := ⟨w.heap.size, 1, none⟩) (Nat.le_refl _) _; have CW := hidb (HW.out _ _ _ hb3 hot); clear hown hot hb3 hbw hgrow))
    | (go_at_call 78; (with_reducible refine CW.out.mono ?_); rintro e w4 ⟨D, q, rfl, hd, hq, hb4⟩))
  exact bodyPost_ret (v := .tuple #[.slice D n q, .int .i64 (s : Int), .int .i64 0]) (by simp [results, Tryz.results54, go_sem]) rfl ⟨D, q, rfl, hd.out, hq.out, hb4.out.1, Or.inr hb4.out.2⟩
end Go.Proofs.YtlniakcoikhilaaGreatDoor
