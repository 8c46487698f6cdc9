/- What Best and Put of the document's own answers to layer 6 (runs) return. -/
import Derived.Test.YtcngcibiibchiaaGreatRunsRef
namespace Go.Proofs.YtcngcibiibchiaaGreat
open Go.RowKit
set_option linter.unusedVariables false

/-- Two cells of one block, written. -/
theorem two_cells (w : World) (b : Nat) (u v x y : Value) (h0 : w.cell? ⟨b, 0, none⟩ = some x) (h1 : w.cell? ⟨b, 1, none⟩ = some y) :
    ((w.setCell ⟨b, 0, none⟩ u).setCell ⟨b, 1, none⟩ v).cell? ⟨b, 0, none⟩ = some u ∧ ((w.setCell ⟨b, 0, none⟩ u).setCell ⟨b, 1, none⟩ v).cell? ⟨b, 1, none⟩ = some v := by
  constructor
  · rw [World.cell?_setCell_other _ _ _ _ (by simp), World.cell?_setCell_same _ _ _ (by rw [h0])]
  · rw [World.cell?_setCell_same _ _ _ (by rw [World.cell?_setCell_other _ _ _ _ (by simp), h1])]

set_option maxRecDepth 100000 in
set_option maxHeartbeats 1000000 in
theorem ref_fbest (A : Option Addr) (n c : Nat) (f : List Bool) (k : Int) (w : World) (hs : Sl w w.heap.size A n (f.map bv)) (hn : n ≤ 65536) (h0 : -9223372036854775808 ≤ k) (h1 : k ≤ 9223372036854775807) :
    Calls Tryz.prog 32 #[.slice A n c, .int .i64 k] w (RunIs w (fBest f k)) := by
  obtain ⟨w0, hw0⟩ : ∃ w0, w0 = w.alloc (.cells #[.int .i64 0, .int .i64 0] 41) := ⟨_, rfl⟩
  have hz0 : w0.heap.size = w.heap.size + 1 := by rw [hw0]; simp
  have cl := ref_flist A n c f w0 (by rw [hw0]; exact (hs.alloc (Nat.le_refl _) _).more (by simp)) hn
  have q0 : w0.cell? ⟨w.heap.size, 0, none⟩ = some (.int .i64 0) := by rw [hw0]; simp
  have q1 : w0.cell? ⟨w.heap.size, 1, none⟩ = some (.int .i64 0) := by rw [hw0]; simp
  have z0 : w0.frozen? ⟨w.heap.size, 0, none⟩ = false := by rw [hw0]; simp
  have z1 : w0.frozen? ⟨w.heap.size, 1, none⟩ = false := by rw [hw0]; simp
  have HB0 : Hid (Below w.heap.size w w0) := hidb (by rw [hw0]; exact (Below.refl _ _).alloc (Nat.le_refl _) _)
  have HW0 := hidb hw0
  have hlen : f.length ≤ 65536 := by have := hs.1; simp at this; omega
  clear hs hw0
  go_enter Tryz.func32, Tryz.ntmps32
  go_wp2_with (go_at_call 21; rw [← HW0.out]; refine cl.mono ?_)
  rintro e w2 ⟨A2, c2, rfl, hown2, hb2⟩
  have hsz2 := hb2.size
  have p0 : w2.cell? ⟨w.heap.size, 0, none⟩ = some (.int .i64 0) := (hb2.cell (p := ⟨w.heap.size, 0, none⟩) (by show w.heap.size < w0.heap.size; omega)).trans q0
  have p1 : w2.cell? ⟨w.heap.size, 1, none⟩ = some (.int .i64 0) := (hb2.cell (p := ⟨w.heap.size, 1, none⟩) (by show w.heap.size < w0.heap.size; omega)).trans q1
  have y0 : w2.frozen? ⟨w.heap.size, 0, none⟩ = false := (hb2.frozen (p := ⟨w.heap.size, 0, none⟩) (by show w.heap.size < w0.heap.size; omega)).trans z0
  have y1 : w2.frozen? ⟨w.heap.size, 1, none⟩ = false := (hb2.frozen (p := ⟨w.heap.size, 1, none⟩) (by show w.heap.size < w0.heap.size; omega)).trans z1
  have hlt2 : w.heap.size < w2.heap.size := by omega
  have HB2 := hidb (HB0.out.trans (hb2.mono (by omega)))
  have HL := hidb (Rn.of_own hown2 rfl)
  clear cl q0 q1 z0 z1 hown2 hb2 HB0 HW0
  by_cases hk : k < 1
  · have E : Hid (fBest f k = none) := hidb (by unfold fBest; rw [if_pos hk])
    obtain ⟨r0, r1⟩ := two_cells w2 w.heap.size (.int .i64 0) (.int .i64 0) _ _ p0 p1
    have HB3 := hidb ((HB2.out.setCell (p := ⟨w.heap.size, 0, none⟩) (Nat.le_refl _) (.int .i64 0)).setCell (p := ⟨w.heap.size, 1, none⟩) (Nat.le_refl _) (.int .i64 0))
    have s0 := fun o => (World.cell?_alloc_lt ((w2.setCell ⟨w.heap.size, 0, none⟩ (.int .i64 0)).setCell ⟨w.heap.size, 1, none⟩ (.int .i64 0)) o ⟨w.heap.size, 0, none⟩ (by simpa using hlt2)).trans r0
    have s1 := fun o => (World.cell?_alloc_lt ((w2.setCell ⟨w.heap.size, 0, none⟩ (.int .i64 0)).setCell ⟨w.heap.size, 1, none⟩ (.int .i64 0)) o ⟨w.heap.size, 1, none⟩ (by simpa using hlt2)).trans r1
    have S0 := hidb s0
    have S1 := hidb s1
    clear s0 s1 r0 r1
    go_wp2
    have s0 := S0.out
    have s1 := S1.out
    refine bodyPost_ret (v := .tuple #[.agg #[.int .i64 0, .int .i64 0], .bool false]) (by simp [results, Tryz.results32, go_sem, s0, s1]) rfl ?_
    rw [E.out]
    exact ⟨rfl, HB3.out.alloc (by simp; omega) _⟩
  · have hL : Hid ((fList f).length ≤ 65536) := hidb (by
      have h := runsAt_length (f.map b2i) 1 ((f.map b2i).length + 1) 0
      have e : fList f = runsAt (f.map b2i) 1 ((f.map b2i).length + 1) 0 := rfl
      rw [e]
      rw [List.length_map] at h ⊢
      have := hlen
      omega)
    have hE : Hid (fBest f k = bestAt (fList f) (1025 - k).toNat k) := hidb (by unfold fBest; rw [if_neg hk])
    obtain ⟨W, hW⟩ : ∃ W, W = w2.alloc (.cells #[.int .i64 0, .int .i64 0] 41) := ⟨_, rfl⟩
    have hWs : W.heap.size = w2.heap.size + 1 := by rw [hW]; simp
    have p0 : W.cell? ⟨w.heap.size, 0, none⟩ = some (.int .i64 0) := by rw [hW]; exact (World.cell?_alloc_lt w2 _ ⟨w.heap.size, 0, none⟩ hlt2).trans p0
    have p1 : W.cell? ⟨w.heap.size, 1, none⟩ = some (.int .i64 0) := by rw [hW]; exact (World.cell?_alloc_lt w2 _ ⟨w.heap.size, 1, none⟩ hlt2).trans p1
    have bW : Below w2.heap.size w2 W := by rw [hW]; exact (Below.refl _ _).alloc (Nat.le_refl _) _
    have y0 : W.frozen? ⟨w.heap.size, 0, none⟩ = false := (bW.frozen (p := ⟨w.heap.size, 0, none⟩) hlt2).trans y0
    have y1 : W.frozen? ⟨w.heap.size, 1, none⟩ = false := (bW.frozen (p := ⟨w.heap.size, 1, none⟩) hlt2).trans y1
    have d0 : W.cell? ⟨w2.heap.size, 0, none⟩ = some (.int .i64 0) := by rw [hW]; simp
    have d1 : W.cell? ⟨w2.heap.size, 1, none⟩ = some (.int .i64 0) := by rw [hW]; simp
    have HBW := hidb (HB2.out.trans (bW.mono (by omega)))
    have HLW := hidb (HL.out.below bW)
    have HW := hidb hW
    have HBF := hidb (fun (u v : Value) => (HBW.out.setCell (p := ⟨w.heap.size, 0, none⟩) (Nat.le_refl _) u).setCell (p := ⟨w.heap.size, 1, none⟩) (Nat.le_refl _) v)
    have HTC := hidb (fun (u v : Value) => two_cells W w.heap.size u v _ _ p0 p1)
    obtain ⟨N, hN⟩ : ∃ N, (1025 - k).toNat = N := ⟨_, rfl⟩
    rw [hN] at hE
    generalize hLL : fList f = L at *
    clear hLL HL hW
    go_wp2
    rw [← HW.out]
    go_loop [8] (fun v => ∃ j : Nat, j ≤ N ∧ Hid (fBest f k = bestAt L (N - j) (k + j)) ∧ v = .int .i64 (k + (j : Int))) (fun v => (1025 - intOf v).toNat)
    case atStart => exact ⟨0, by omega, hidb (by rw [hE.out]; simp), by simp⟩
    case round =>
      obtain ⟨j, hj, HJ, rfl⟩ := hrel
      by_cases hlt : k + (j : Int) ≤ 1024
      · obtain ⟨M, hM⟩ : ∃ M, N - j = M + 1 := ⟨N - j - 1, by omega⟩
        rw [hM] at HJ
        have hMj : N - (j + 1) = M := by omega
        go_wp2
        go_loop [23] (fun v => ∃ i : Nat, i ≤ L.length ∧ Hid (∀ i', i' < i → ∀ y, L[i']? = some y → y.2 ≠ k + (j : Int)) ∧ v = .int .i64 (i : Int)) (fun v => (L.length - intOf v).toNat)
        case atStart => exact ⟨0, by omega, hidb (fun i' h => absurd h (Nat.not_lt_zero _)), rfl⟩
        case round =>
          obtain ⟨i, hi2, HI, rfl⟩ := hrel
          by_cases hil : i < L.length
          · obtain ⟨b, off, s, l, rfl, _, hx, hc1, hc2⟩ := HLW.out.at_ hil
            have hi0 : (0 : Int) ≤ (i : Int) := by omega
            have hi1 : (i : Int) < (L.length : Int) := by omega
            have hll := hL.out
            by_cases he : l = k + (j : Int)
            · have E : Hid (fBest f k = some (s, l)) := hidb (by rw [HJ.out]; exact bestAt_some L M _ i (s, l) HI.out hx he)
              have eb : (l == k + (j : Int)) = true := by simpa using he
              clear hx he
              go_wp2
              obtain ⟨s0, s1⟩ := HTC.out (.int .i64 s) (.int .i64 l)
              refine bodyPost_ret (v := .tuple #[.agg #[.int .i64 s, .int .i64 l], .bool true]) (by simp [results, Tryz.results32, go_sem, s0, s1]) rfl ?_
              rw [E.out]
              exact ⟨rfl, HBF.out _ _⟩
            · have eb : (l == k + (j : Int)) = false := by simpa using he
              have H2 : Hid (∀ i', i' < i + 1 → ∀ y, L[i']? = some y → y.2 ≠ k + (j : Int)) := hidb (fun i' h y hy => by
                by_cases h3 : i' = i
                · subst h3; rw [hx] at hy; injection hy with hy; subst hy; exact he
                · exact HI.out i' (by omega) y hy)
              clear hx he
              go_wp2
              go_round
              case rel => exact ⟨i + 1, by omega, H2, by go_num⟩
              case measure => simp [intOf]; omega
          · have H2 : Hid (fBest f k = bestAt L (N - (j + 1)) (k + ((j + 1 : Nat) : Int))) := hidb (by
              rw [HJ.out, hMj, bestAt_none L M _ (fun r hr => by
                obtain ⟨i', hi', e⟩ := List.getElem_of_mem hr
                exact HI.out i' (by omega) r (by rw [List.getElem?_eq_getElem hi', e]))]
              congr 1; omega)
            have hll := hL.out
            go_wp2
            go_round
            case rel => exact ⟨j + 1, by omega, H2, by go_num⟩
            case measure => simp [intOf]; omega
      · have hNj : N - j = 0 := by omega
        have E : Hid (fBest f k = none) := hidb (by rw [HJ.out, hNj]; rfl)
        go_wp2
        obtain ⟨s0, s1⟩ := HTC.out (.int .i64 0) (.int .i64 0)
        refine bodyPost_ret (v := .tuple #[.agg #[.int .i64 0, .int .i64 0], .bool false]) (by simp [results, Tryz.results32, go_sem, s0, s1]) rfl ?_
        rw [E.out]
        exact ⟨rfl, HBF.out _ _⟩

theorem belowR {B : Nat} {a w : World} (h : Below B a w) (q : Nat) : Below B a (w.drewN q) := ⟨h.os, h.tape, h.output, h.size, h.block⟩

set_option maxRecDepth 100000 in
set_option maxHeartbeats 4000000 in
theorem ref_fput (A A2 : Option Addr) (n c m d : Nat) (f : List Bool) (rs : List (Int × Int)) (free : Bool) (w : World) (hs : Sl w w.heap.size A n (f.map bv)) (hs2 : Rn w w.heap.size A2 m rs) (hn : n ≤ 1024) (hn2 : 1024 ≤ n) (hm : m ≤ 65536)
    (hnc : n ≤ c) (hcm : c ≤ 9223372036854775807) (hr : ∀ r ∈ rs, in64 r.1 ∧ in64 r.2) :
    Calls Tryz.prog 24 #[.slice A n c, .slice A2 m d, .bool free] w (ResBoolsNo A w (fPut f rs free).1 (fPut f rs free).2) := by
  obtain ⟨i0, hi, hz0, hz1, hz2⟩ := info_parts info_bool
  have l1 : f.length = n := by have := hs.1; simpa using this
  have l2 : rs.length = m := hs2.1
  have hA : A = none → c = 0 := fun h => by
    obtain ⟨b, off, e, _⟩ := hs.2 (by omega)
    rw [h] at e; cases e
  have back : ∀ no w', Below w.heap.size w w' → ResBoolsNo A w f no (.returned (.tuple #[.slice A n c, .int .i64 no])) w' := fun no w' hb => by
    refine ⟨A, c, by rw [l1], by rw [l1]; exact hnc, hcm, hA, ?_, hb, Or.inl rfl⟩
    rw [l1]; exact (hs.below hb).more hb.size
  have BACK := hidb back
  have HR := hidb hr
  clear back hr
  have HS := hidb hs
  have HS2 := hidb hs2
  have L1 := hidb l1
  have L2 := hidb l2
  clear hs hs2 l1 l2
  have E : Hid (fPut f rs free = if rs.all fMay then freeEnd f (freeRuns free f rs) else (f, 2)) := hidb rfl
  go_enter Tryz.func24, Tryz.ntmps24
  go_wp2
  go_loopw [14] (fun k wr => ∃ j : Nat, j ≤ m ∧ k = .int .i64 j ∧ Hid ((rs.take j).all fMay = true) ∧ Below w.heap.size w wr) (fun k _ => (m - intOf k).toNat)
  case atStart => exact ⟨0, by omega, rfl, hidb rfl, Below.refl _ _⟩
  case round =>
    obtain ⟨j, hj, rfl, HA, hbel⟩ := hrel
    by_cases hlt : j < m
    · obtain ⟨b, off, s, l, rfl, _, hx, hc1, hc2⟩ := (HS2.out.below hbel).at_ hlt
      have hin := HR.out (s, l) (List.mem_of_getElem? hx)
      have ct := ref_fmay (s, l) wr hin
      have hall : Hid ((rs.take (j + 1)).all fMay = fMay (s, l)) := hidb (by
        rw [List.take_add_one, hx, List.all_append, HA.out]; simp)
      have hbsz := hbel.size
      have HB := hidb hbel
      have hmem : Hid ((s, l) ∈ rs) := hidb (List.mem_of_getElem? hx)
      clear hbel hx hin
      have hi0 : (0 : Int) ≤ (j : Int) := by omega
      cases hT : fMay (s, l) with
      | true =>
        rw [hT] at ct hall
        clear hT
        go_wp2_with (go_at_call 41; refine ct.mono ?_; rintro e w' ⟨rfl, rfl⟩)
        go_roundw
        case rel => exact ⟨j + 1, by omega, by go_num, hall, HB.out.alloc hbsz _⟩
        case measure => simp [intOf]; omega
      | false =>
        rw [hT] at ct
        have E2 : Hid (fPut f rs free = (f, 2)) := hidb (by
          rw [E.out, if_neg]
          rw [Bool.not_eq_true, List.all_eq_false]
          exact ⟨(s, l), hmem.out, by rw [hT]; simp⟩)
        rw [E2.out]
        clear hT hall
        go_wp2_with (go_at_call 41; refine ct.mono ?_; rintro e w' ⟨rfl, rfl⟩)
        go_ret2
        exact BACK.out _ _ (HB.out.alloc hbsz _)
    · have hje : j = m := by omega
      have hall : Hid (rs.all fMay = true) := hidb (by
        have := HA.out
        rwa [List.take_of_length_le (by rw [L2.out]; omega)] at this)
      have hbsz := hbel.size
      have HB := hidb hbel
      have HSx := hidb ((HS.out.below hbel).more hbsz)
      have hone : Hid (∀ u ∈ f.map bv, u.oneCell' = true) := hidb (fun u hu => by obtain ⟨y, _, rfl⟩ := List.mem_map.1 hu; rfl)
      clear hbel hje HA
      obtain ⟨wo, rfl⟩ : ∃ wo : World, wo = wr := ⟨_, rfl⟩
      go_wp2_with (at_builtin; refine wpList_copy wo rfl _ _ 28 rfl 4 i0 (.bool false) 1 Tryz.underlying28 hi hz0 hz1 hz2 rfl A n c (f.map bv) rfl rfl HSx.out hA hone.out (by unfold maxLen; omega) (by omega) ?_)
      intro A1 c1 w1 hown1 hb1
      have hrun : Hid (∀ k, freeRuns free f (rs.take k) = none → fPut f rs free = (f, 9)) := hidb (fun k h => by
        rw [E.out, if_pos hall.out, freeRuns_none free f rs k h]; rfl)
      have hfin : Hid (∀ o, freeRuns free f rs = some o → fPut f rs free = (o, 0)) := hidb (fun o h => by
        rw [E.out, if_pos hall.out, h]; rfl)
      have HO := hidb hown1
      have HB1 := hidb hb1
      have hb1s := hb1.size
      have HA1 := hidb (own_caps hown1)
      clear hown1 hb1 E
      go_wp2
      go_loopw [30] (fun k wr => ∃ (j : Nat) (o : List Bool), j ≤ m ∧ k = .int .i64 j ∧ Hid (freeRuns free f (rs.take j) = some o) ∧ o.length = n ∧ wr.ownsRow wo.heap.size 4 1 (.slice A1 n c1) n (o.map bv) ∧ Below wo.heap.size wo wr) (fun k _ => (m - intOf k).toNat)
      case atStart => exact ⟨0, f, by omega, rfl, hidb rfl, L1.out, HO.out, HB1.out⟩
      case round =>
        obtain ⟨j, o, hj, rfl, HPO, hol, hown, hbel⟩ := hrel
        by_cases hlt2 : j < m
        · obtain ⟨b, off, s, l, hA2, hbb, hx, _, _⟩ := HS2.out.at_ hlt2
          have HCELL : Hid (∀ W, Below w.heap.size w W → W.cell? ⟨b, off + j * 2, none⟩ = some (.int .i64 s) ∧ W.cell? ⟨b, off + j * 2 + 1, none⟩ = some (.int .i64 l)) := hidb (fun W hW => by
            obtain ⟨b', off', s', l', e1, _, e2, e3, e4⟩ := (HS2.out.below hW).at_ hlt2
            rw [hA2] at e1
            rw [hx] at e2
            injection e1 with e1; injection e1 with e1 e5
            subst e1; subst e5
            injection e2 with e2; injection e2 with e2 e6
            subst e2; subst e6
            exact ⟨e3, e4⟩)
          have hth : fMay (s, l) = true := List.all_eq_true.1 hall.out (s, l) (List.mem_of_getElem? hx)
          obtain ⟨t1, t2, t3, t4, t5⟩ := of_decide_eq_true hth
          simp only at t1 t2 t3 t4 t5
          obtain ⟨S, rfl⟩ : ∃ S : Nat, s = S := ⟨s.toNat, by omega⟩
          obtain ⟨L, rfl⟩ : ∃ L : Nat, l = L := ⟨l.toNat, by omega⟩
          have htk : Hid (freeRuns free f (rs.take (j + 1)) = freePages free S L o) := hidb (by
            rw [List.take_add_one, hx]
            show freeRuns free f (rs.take j ++ [((S : Int), (L : Int))]) = _
            rw [freeRuns_snoc, HPO.out]; rfl)
          have hBW := (HB.out.trans (hbel.mono hbsz))
          obtain ⟨hcs, hcl⟩ := HCELL.out _ hBW
          have HOWN := hidb hown
          have HBEL := hidb hbel
          have hj0 : (0 : Int) ≤ (j : Int) := by omega
          have hj1 : (j : Int) < (m : Int) := by omega
          clear hth hx hown hbel hBW hbb
          subst hA2
          obtain ⟨wi, rfl⟩ : ∃ wi : World, wi = wr := ⟨_, rfl⟩
          go_wp2
          go_loopw [11] (fun k wr => ∃ (i : Nat) (o2 : List Bool), i ≤ L ∧ k = .int .i64 ((S : Int) + (i : Int)) ∧ Hid (freePages free S i o = some o2) ∧ o2.length = n ∧ wr.ownsRow wo.heap.size 4 1 (.slice A1 n c1) n (o2.map bv) ∧ Below wo.heap.size wo wr) (fun k _ => (S + L - intOf k).toNat)
          case atStart => exact ⟨0, o, by omega, by simp, hidb rfl, hol, HOWN.out, HBEL.out⟩
          case round =>
            obtain ⟨i, o2, hi2, rfl, HPP, hol2, hown, hbel⟩ := hrel
            have hBW := (HB.out.trans (hbel.mono hbsz))
            obtain ⟨hcs, hcl⟩ := HCELL.out _ hBW
            have hBN : Hid (∀ q, Below w.heap.size w (wr.drewN q)) := hidb (fun q => belowR hBW q)
            have hso0 : (0 : Int) ≤ (S : Int) + (i : Int) := by omega
            by_cases hil : i < L
            · obtain ⟨g, cap, hv, hgB, hglt⟩ := hown.form (by omega)
              obtain rfl : A1 = some ⟨g, 0, none⟩ := by injection hv
              obtain ⟨yo, hyo⟩ : ∃ yo, o2[S + i]? = some yo := ⟨_, List.getElem?_eq_getElem (by omega)⟩
              have hco : wr.cell? ⟨g, S + i, none⟩ = some (.bool yo) := by
                rw [hown.cellAt (S + i) (by omega), List.getElem?_map, hyo]; rfl
              have hf := hown.frozenAt (S + i)
              have hso1 : (S : Int) + (i : Int) < (n : Int) := by omega
              have hbn : ((S : Int) + (i : Int)).toNat = S + i := by omega
              have hlt3 : (S : Int) + (i : Int) < (S : Int) + (L : Int) := by omega
              have hsucc : freePages free S (i + 1) o = freePage free o2 (S + i) := by
                show (freePages free S i o).bind _ = _
                rw [HPP.out]; rfl
              have hpg : freePage free o2 (S + i) = if (yo == free) = true then none else some (o2.set (S + i) free) := by
                unfold freePage
                rw [List.getD_eq_getElem?_getD, hyo]; rfl
              have hst : Hid (∀ q, ((wr.drewN q).setCell ⟨g, S + i, none⟩ (.bool free)).ownsRow wo.heap.size 4 1 (.slice (some ⟨g, 0, none⟩) n c1) n ((o2.set (S + i) free).map bv)) := hidb (fun q => by
                rw [List.map_set]
                exact ((show (wr.drewN q).ownsRow wo.heap.size 4 1 (.slice (some ⟨g, 0, none⟩) n c1) n (o2.map bv) from hown).stored (S + i) (bv free)).1)
              have hbs : Hid (∀ q, Below wo.heap.size wo ((wr.drewN q).setCell ⟨g, S + i, none⟩ (.bool free))) := hidb (fun q => (belowR hbel q).setCell (p := ⟨g, S + i, none⟩) hgB _)
              clear hyo hown hbel hBW hv
              cases hcnd : (yo == free) with
              | true =>
                rw [hcnd, if_pos rfl] at hpg
                rw [hpg] at hsucc
                have E9 : Hid (fPut f rs free = (f, 9)) := hidb (hrun.out (j + 1) (by
                  rw [htk.out]; exact freePages_none (k := i + 1) L (by omega) hsucc))
                have B9 : Hid (∀ w', Below w.heap.size w w' → ResBoolsNo A w (fPut f rs free).1 (fPut f rs free).2 (.returned (.tuple #[.slice A n c, .int .i64 9])) w') := hidb (fun w' hb => by rw [E9.out]; exact BACK.out 9 w' hb)
                clear hsucc hpg
                go_wp2
                go_quiet (fail)
                go_wp2
                go_ret2
                exact B9.out _ (hBN.out _)
              | false =>
                rw [hcnd] at hpg
                simp only [Bool.false_eq_true, if_false] at hpg
                rw [hpg] at hsucc
                have HSU := hidb hsucc
                clear hsucc hpg
                go_wp2
                go_quiet (fail)
                go_wp2
                go_roundw
                case rel => exact ⟨i + 1, o2.set (S + i) free, by omega, by go_num, HSU, by rw [List.length_set]; exact hol2, hst.out _, hbs.out _⟩
                case measure => simp [intOf]; omega
            · have hiL : Hid (freeRuns free f (rs.take (j + 1)) = some o2) := hidb (by
                rw [htk.out, ← HPP.out]; congr 1; omega)
              have hnl : ¬ (S : Int) + (i : Int) < (S : Int) + (L : Int) := by omega
              have hown2 : Hid (∀ q, (wr.drewN q).ownsRow wo.heap.size 4 1 (.slice A1 n c1) n (o2.map bv)) := hidb (fun q => hown)
              have hbel2 : Hid (∀ q, Below wo.heap.size wo (wr.drewN q)) := hidb (fun q => belowR hbel q)
              clear hown hbel hBW
              go_wp2
              go_quiet (fail)
              go_wp2
              go_roundw
              case rel => exact ⟨j + 1, o2, by omega, by go_num, hiL, hol2, hown2.out _, hbel2.out _⟩
              case measure => simp [intOf]; omega
        · have hje2 : j = m := by omega
          have P : Hid (ResBoolsNo A w (fPut f rs free).1 (fPut f rs free).2 (.returned (.tuple #[.slice A1 n c1, .int .i64 0])) wr) := hidb (by
            have h := HPO.out
            rw [List.take_of_length_le (by rw [L2.out]; omega)] at h
            rw [hfin.out o h]
            refine ⟨A1, c1, by rw [hol], by rw [hol]; exact HA1.out.1, HA1.out.2.1, HA1.out.2.2, ?_, HB.out.trans (hbel.mono hbsz), Or.inr (fun a ha => ?_)⟩
            · rw [hol]; exact Sl.of_own hown
            · have := (hown.lt a.block (by rw [ha]; rfl)).1
              omega)
          clear hown hbel hje2
          go_wp2
          go_ret2
          exact P.out

end Go.Proofs.YtcngcibiibchiaaGreat
