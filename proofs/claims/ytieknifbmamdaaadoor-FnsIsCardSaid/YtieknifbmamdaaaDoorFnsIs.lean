/- Layer 13's statement FnsIs. -/
import Derived.Test.YtieknifbmamdaaaDoorFnsLaws
namespace Go.Proofs.YtieknifbmamdaaaDoor
open Go.RowKit
set_option linter.unusedVariables false

theorem great_in {w : World} {A : Option Addr} {n : Nat} {ys : List FnV} (hs : FnRow w 0 w.heap.size A n ys) (h : fGreat (vals ys) = false) : In13 w A n ys := by
  unfold fGreat at h
  rw [Bool.or_eq_false_iff, decide_eq_false_iff_not, vals_length, hs.len, List.any_eq_false] at h
  refine ⟨hs, by omega, fun y hy => ?_⟩
  have := h.2 _ (List.mem_map.2 ⟨y, hy, rfl⟩)
  have hl := (hs.fns y hy).len
  have h3 : ¬ 40 < y.ws.length := fun c => this (decide_eq_true c)
  omega
theorem In13.wds {w : World} {A : Option Addr} {n : Nat} {ys : List FnV} (h : In13 w A n ys) : ∀ f ∈ vals ys, Wd f.2 := h.row.wds
theorem In13.cells {w : World} {A : Option Addr} {n : Nat} {ys : List FnV} (h : In13 w A n ys) {j : Nat} (hj : j < n) : ∃ b off y, A = some ⟨b, off, none⟩ ∧ ys[j]? = some y ∧ in64 y.sz ∧ Hid (∀ W, Below w.heap.size w W → W.cell? ⟨b, off + j * 2, none⟩ = some (.int .i64 y.sz) ∧ W.cell? ⟨b, off + j * 2 + 1, none⟩ = some (.slice y.A y.n y.c)) := by
  obtain ⟨b, off, y, e, hb, hy, hc0, hc1, hok⟩ := h.row.at_ hj
  refine ⟨b, off, y, e, hy, hok.inn, hidb (fun W hW => ⟨?_, ?_⟩)⟩
  · rw [hW.cell (p := ⟨b, off + j * 2, none⟩) hb]; exact hc0
  · rw [hW.cell (p := ⟨b, off + j * 2 + 1, none⟩) hb]; exact hc1
theorem RowF.fit {w w' : World} {A : Option Addr} {n c : Nat} {zs : List FnV} {l : Fns} (h : RowF w w' (.slice A n c) zs) (hn : zs.length = n) (hl : ∀ f ∈ l, f.2.length ≤ 64) (e : vals zs = l) : FnRow w' w.heap.size w'.heap.size A n zs ∧ ∀ y ∈ zs, y.n ≤ 1000 := by
  have hr := h.row hn
  refine ⟨hr, fun y hy => ?_⟩
  have := hl _ (by rw [← e]; exact List.mem_map.2 ⟨y, hy, rfl⟩)
  have hl := (hr.fns y hy).len
  simp only [FnV.v] at this
  omega
theorem fOwns_short (l : Fns) : ∀ f ∈ fOwns l, f.2.length ≤ 64 := fun f hf => by
  obtain ⟨x, _, rfl⟩ := List.mem_map.1 hf
  exact fOwn_length _ _
/-- Fns of a table that a law has made: functions that are the same as those that it was made of. -/
theorem t_fFns {w : World} {l : Fns} (ht : TabDB w) (W : World) {b : Nat} (s : Hid (S13 w W (some ⟨b, 0, none⟩) l)) (l' : Fns) (hl : fOwns l = l') :
    Calls Tryd.prog 16 #[.pointer (some ⟨b, 0, none⟩)] W fun e w' => ∃ A c ys, e = .returned (.slice A l'.length c) ∧ Hid (S13 w w' (some ⟨b, 0, none⟩) l) ∧ Hid (FnRow w' W.heap.size w'.heap.size A l'.length ys ∧ (∀ y ∈ ys, y.n ≤ 1000) ∧ vals ys = l') := by
  obtain ⟨hb, lo, hi, h2, h3, h4⟩ := s.out
  rcases h2 with ⟨e, _⟩ | ⟨b2, e, h2⟩
  · cases e
  · injection e with e
    injection e with e
    subst e
    rw [← hl]
    refine (code_fFns h2 h3 (TabDB.below ht hb)).mono ?_
    rintro e w' ⟨A, c, ys, rfl, hr, hv⟩
    have hn : ys.length = (fOwns l).length := by rw [← hv, vals_length]
    exact ⟨A, c, ys, rfl, hidb (s.out.step hr.bel), hidb ⟨(hr.fit hn (fOwns_short l) hv).1, (hr.fit hn (fOwns_short l) hv).2, hv⟩⟩
theorem fOwns_twice {l : Fns} (h : fAll l = true) : fOwns (fOwns l) = fOwns l := by
  unfold fOwns
  rw [List.map_map]
  refine List.map_congr_left fun f hf => ?_
  obtain ⟨i, hi, rfl⟩ := List.getElem_of_mem hf
  have := fAll_at h i _ (List.getElem?_eq_getElem hi)
  simp [fOwn_twice this]
/-- Same of the functions that a table answers and those that it was made of. -/
theorem t_fsame {w : World} {A B : Option Addr} {n c k d : Nat} {ys zs : List FnV} {p : Option Addr} {l : Fns} (h : In13 w A n ys) (W : World) (lo : Nat) (s : Hid (S13 w W p l)) (l' : Fns) (hz : Hid (FnRow W lo W.heap.size B k zs ∧ (∀ y ∈ zs, y.n ≤ 1000) ∧ vals zs = l')) (hl : fSame l' (vals ys) = true) (hk : k ≤ 1000) :
    Calls Tryd.prog 15 #[.slice B k d, .slice A n c] W fun e w' => e = .returned (.bool true) ∧ Hid (S13 w w' p l) := by
  obtain ⟨z1, z2, z3⟩ := hz.out
  rw [← z3] at hl
  have hf := h.few
  refine (ref_fsame B A k d n c zs ys W _ _ _ _ z1 (h.at_ s.out.bel) (by omega) (by omega) z2 h.s1 hl).mono ?_
  rintro e w' ⟨rfl, q, rfl⟩
  exact ⟨rfl, hidb (s.out.drewN q)⟩

set_option maxRecDepth 100000 in
set_option maxHeartbeats 4000000 in
theorem fnsIs_any (A : Option Addr) (n c : Nat) (ys : List FnV) (w : World) (hs : FnRow w 0 w.heap.size A n ys) (hm : n ≤ maxLen) (ht : TabDB w) :
    Calls Tryd.prog 3 #[.slice A n c] w fun e w' => e = .returned (.bool true) ∧ Below w.heap.size w w' := by
  unfold maxLen at hm
  have cg := ref_fgreat A n c ys 0 _ w hs (by omega)
  have cw := awake13 w ht
  cases hG : fGreat (vals ys) with
  | true =>
    rw [hG] at cg
    clear hs hG
    go_enter Tryd.func3, Tryd.ntmps3
    go_wp2_with (first
      | (go_at_call 7; (with_reducible refine cg.mono ?_); rintro e w' ⟨rfl, rfl⟩)
      | (go_at_call 8; (with_reducible refine cw.mono ?_); rintro e w1 ⟨rfl, hb⟩))
    go_ret
    exact ⟨rfl, hb⟩
  | false =>
    rw [hG] at cg
    have HI := hidb (great_in hs hG)
    have hfew := (great_in hs hG).few
    have HL := hidb hs.len
    have HT := hidb ht
    have HC : Hid (∀ j, j < n → ∃ b off y, A = some ⟨b, off, none⟩ ∧ ys[j]? = some y ∧ in64 y.sz ∧ Hid (∀ W, Below w.heap.size w W → W.cell? ⟨b, off + j * 2, none⟩ = some (.int .i64 y.sz) ∧ W.cell? ⟨b, off + j * 2 + 1, none⟩ = some (.slice y.A y.n y.c))) := hidb (fun j hj => HI.out.cells hj)
    have HS0 := hidb (S13.start w)
    clear hs hG ht cw
    go_enter Tryd.func3, Tryd.ntmps3
    go_wp2_with (go_at_call 7; (with_reducible refine cg.mono ?_); rintro e w' ⟨rfl, rfl⟩)
    clear cg
    go_loopw [3, 4, 5] (fun m v k wr => ∃ j : Nat, j ≤ n ∧ m = .bool (fAll ((vals ys).take j)) ∧ v = .int .i64 (fLeast ((vals ys).take j)) ∧ k = .int .i64 j ∧ Hid (S13 w wr none [])) (fun _ _ k _ => (n - intOf k).toNat)
    case atStart => exact ⟨0, by omega, rfl, rfl, rfl, HS0⟩
    case round =>
      obtain ⟨j, hj, rfl, rfl, rfl, hs⟩ := hrel
      by_cases hlt : j < n
      · obtain ⟨b, off, y, rfl, hy, hin, HQ⟩ := HC.out j hlt
        obtain ⟨q0, q1⟩ := HQ.out wr hs.out.bel
        have htk : (vals ys).take (j + 1) = (vals ys).take j ++ [(y.sz, y.ws)] := by rw [List.take_add_one, vals_at hy]; rfl
        have hsn := fLeast_snoc ((vals ys).take j) (y.sz, y.ws)
        have han := fAll_snoc ((vals ys).take j) (y.sz, y.ws)
        rw [← htk] at hsn han
        have hrg := fLeast_range ((vals ys).take j)
        have HY := hidb hy
        simp only at hsn han
        clear htk hy
        have CM := fun W (sW : Hid (S13 w W none [])) r hr => t_fmay1 HI.out sW HY.out r hr
        obtain ⟨ba, hA⟩ : ∃ ba, fAll ((vals ys).take j) = ba := ⟨_, rfl⟩
        rw [hA] at han ⊢
        obtain ⟨bm, hM⟩ : ∃ bm, fMay y.sz y.ws = bm := ⟨_, rfl⟩
        have CM := fun W (sW : Hid (S13 w W none [])) => CM W sW bm hM
        have hsz := fun (e : bm = true) => fMay_size (hM.trans e)
        rw [hM] at hsn han
        have HSN := hidb hsn
        have HAN := hidb han
        clear hsn han hM hA
        cases ba <;> cases bm
        · go_wp2_with (go_at_call 9; (with_reducible refine (CM _ hs).mono ?_); rintro e w1 ⟨rfl, hs1⟩)
          go_roundw
          case rel => exact ⟨j + 1, by omega, by rw [HAN.out]; rfl, by rw [HSN.out]; rfl, by go_num, hs1⟩
          case measure => simp [intOf]; omega
        · obtain ⟨z0, z1⟩ := hsz rfl
          go_wp2_with (go_at_call 9; (with_reducible refine (CM _ hs).mono ?_); rintro e w1 ⟨rfl, hs1⟩; obtain ⟨q2, q3⟩ := HQ.out w1 hs1.out.bel)
          go_roundw
          case rel => exact ⟨j + 1, by omega, by rw [HAN.out]; rfl, by rw [HSN.out]; rfl, by go_num, hs1⟩
          case measure => simp [intOf]; omega
        · go_wp2_with (first
            | (go_at_call 9; (with_reducible refine (CM _ hs).mono ?_); rintro e w1 ⟨rfl, hs1⟩; obtain ⟨q2, q3⟩ := HQ.out w1 hs1.out.bel)
            | (go_at_call 9; (with_reducible refine (CM _ hs1).mono ?_); rintro e w2 ⟨rfl, hs2⟩))
          go_roundw
          case rel => exact ⟨j + 1, by omega, by rw [HAN.out]; rfl, by rw [HSN.out]; rfl, by go_num, hs2⟩
          case measure => simp [intOf]; omega
        · obtain ⟨z0, z1⟩ := hsz rfl
          go_wp2_with (first
            | (go_at_call 9; (with_reducible refine (CM _ hs).mono ?_); rintro e w1 ⟨rfl, hs1⟩; obtain ⟨q2, q3⟩ := HQ.out w1 hs1.out.bel)
            | (go_at_call 9; (with_reducible refine (CM _ hs1).mono ?_); rintro e w2 ⟨rfl, hs2⟩; obtain ⟨q4, q5⟩ := HQ.out w2 hs2.out.bel))
          go_roundw
          case rel => exact ⟨j + 1, by omega, by rw [HAN.out]; rfl, by rw [HSN.out]; rfl, by go_num, hs2⟩
          case measure => simp [intOf]; omega
      · have hje : j = n := by omega
        have HJ : Hid ((vals ys).take j = vals ys) := hidb (List.take_of_length_le (by rw [vals_length, HL.out]; omega))
        rw [HJ.out]
        obtain ⟨rm, hrm⟩ : ∃ rm, fAll (vals ys) = rm := ⟨_, rfl⟩
        obtain ⟨rl, hrl⟩ : ∃ rl, fLeast (vals ys) = rl := ⟨_, rfl⟩
        have k1 := fun W p l sW => t_fMay (c := c) HI.out W p l sW rm hrm
        have k2 := fun W p l sW => t_fLeast (c := c) HI.out W p l sW rl hrl
        have kw := fun W p l sW => t_awake13 HT.out W p l sW
        have tl : fTab (vals ys) = (rm && decide (1 ≤ n ∧ n ≤ 100)) := by unfold fTab; rw [hrm, vals_length, HL.out]
        rw [hrm, hrl]
        cases hT : fTab (vals ys) with
        | true =>
          have k3 := fun W p l sW => t_fAll (c := c) HI.out W p l sW true hT
          have k4 := fun W p l sW => t_fNew (c := c) HI.out HT.out W p l sW hT
          have ha : fAll (vals ys) = true := by unfold fTab at hT; rw [Bool.and_eq_true] at hT; exact hT.1
          have k5 := fun W b sW => t_flen (w := w) (p := some ⟨b, 0, none⟩) (l := fOwns (vals ys)) W sW n (by rw [fOwns_length, vals_length, HL.out])
          have k6 := fun W b sW => t_fFns (w := w) (l := fOwns (vals ys)) HT.out W (b := b) sW (fOwns (vals ys)) (fOwns_twice ha)
          have hsm := fSame_owns ha HI.out.wds
          have k7 := fun (B : Option Addr) (d : Nat) (zs : List FnV) p l W lo sW hz => t_fsame (c := c) (B := B) (k := n) (d := d) (zs := zs) (p := p) (l := l) HI.out W lo sW (fOwns (vals ys)) hz hsm (by omega)
          rw [fOwns_length, vals_length, HL.out] at k6
          generalize fOwns (vals ys) = L at *
          clear hT ha hsm hrm hrl tl HJ hje
          have e1 : (rm != rm) = false := by simp
          have e2 : (rl != rl) = false := by simp
          go_wp2_with (first
            | (go_at_call 10; (with_reducible refine (k4 _ _ _ hs).mono ?_); rintro e w1 ⟨b, rfl, hs1⟩)
            | (go_at_call 11; (with_reducible refine (k1 _ _ _ hs1).mono ?_); rintro e w2 ⟨rfl, hs2⟩)
            | (go_at_call 12; (with_reducible refine (k2 _ _ _ hs2).mono ?_); rintro e w3 ⟨rfl, hs3⟩)
            | (go_at_call 13; (with_reducible refine (k3 _ _ _ hs3).mono ?_); rintro e w4 ⟨rfl, hs4⟩)
            | (go_at_call 14; (with_reducible refine (k5 _ _ hs4).mono ?_); rintro e w5 ⟨rfl, hs5⟩)
            | (go_at_call 16; (with_reducible refine (k6 _ _ hs5).mono ?_); rintro e w6 ⟨B, d, zs, rfl, hs6, hz6⟩)
            | (go_at_call 15; (with_reducible refine (k7 _ _ _ _ _ _ _ hs6 hz6).mono ?_); rintro e w7 ⟨rfl, hs7⟩)
            | (go_at_call 8; (with_reducible refine (kw _ _ _ hs7).mono ?_); rintro e w8 ⟨rfl, hs8⟩))
          go_ret
          exact ⟨rfl, hs8.out.bel⟩
        | false =>
          have k3 := fun W p l sW => t_fAll (c := c) HI.out W p l sW false hT
          have k4 := fun W p l sW => t_fNew_no (c := c) HI.out W p l sW hT
          have k5 := fun W sW => t_flen (w := w) (p := none) (l := []) W sW 0 rfl
          clear hT hrm hrl tl HJ hje
          have e1 : (rm != rm) = false := by simp
          have e2 : (rl != rl) = false := by simp
          go_wp2_with (first
            | (go_at_call 10; (with_reducible refine (k4 _ _ _ hs).mono ?_); rintro e w1 ⟨rfl, hs1⟩)
            | (go_at_call 11; (with_reducible refine (k1 _ _ _ hs1).mono ?_); rintro e w2 ⟨rfl, hs2⟩)
            | (go_at_call 12; (with_reducible refine (k2 _ _ _ hs2).mono ?_); rintro e w3 ⟨rfl, hs3⟩)
            | (go_at_call 13; (with_reducible refine (k3 _ _ _ hs3).mono ?_); rintro e w4 ⟨rfl, hs4⟩)
            | (go_at_call 14; (with_reducible refine (k5 _ hs4).mono ?_); rintro e w5 ⟨rfl, hs5⟩)
            | (go_at_call 8; (with_reducible refine (kw _ _ _ hs5).mono ?_); rintro e w8 ⟨rfl, hs8⟩))
          go_ret
          exact ⟨rfl, hs8.out.bel⟩
end Go.Proofs.YtieknifbmamdaaaDoor
