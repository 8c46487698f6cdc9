/- What Put of the document's own answers to layer 5 (index) returns. -/
import Derived.Test.YtoghahldlnhpdaaIndexRef
namespace Go.Proofs.Ytoghahldlnhpdaa
open Go.RowKit
set_option linter.unusedVariables false

/-- A row of numbers that a call answers (the one that came in, or one of its own), and an error's number. -/
def ResIntsNo (w : World) (A0 : Option Addr) (l : List Int) (no : Int) (e : Ending) (w' : World) : Prop := ∃ A c, e = .returned (.tuple #[.slice A l.length c, .int .i64 no]) ∧ l.length ≤ c ∧ c ≤ 9223372036854775807 ∧ (A = none → c = 0) ∧ (∀ b off, A = some ⟨b, off, none⟩ → A = A0 ∨ w.heap.size ≤ b) ∧ Sl w' w'.heap.size A l.length (l.map iv) ∧ Below w.heap.size w w'

theorem belowQ {B : Nat} {a w : World} (h : Below B a w) (q : Nat) : Below B a (w.drewN q) := ⟨h.os, h.tape, h.output, h.size, h.block⟩

set_option maxHeartbeats 4000000 in
theorem ref_xput (A A2 : Option Addr) (n c m d : Nat) (x : List Int) (id : Int) (rs : List (Int × Int)) (drop : Bool) (w : World) (hs : Sl w w.heap.size A n (x.map iv)) (hs2 : Rn w w.heap.size A2 m rs) (hn : n ≤ 65536) (hm : m ≤ 65536)
    (hnc : n ≤ c) (hcm : c ≤ 9223372036854775807) (hA : A = none → c = 0) (hr : ∀ r ∈ rs, in64 r.1 ∧ in64 r.2) (h0 : -9223372036854775808 ≤ id) (h1 : id ≤ 9223372036854775807) :
    Calls Try.prog 10 #[.slice A n c, .int .i64 id, .slice A2 m d, .bool drop] w (ResIntsNo w A (xPut x id rs drop).1 (xPut x id rs drop).2) := by
  obtain ⟨i0, hi, hz0, hz1, hz2⟩ := info_parts info_int
  have l1 : x.length = n := by have := hs.1; simpa using this
  have l2 : rs.length = m := hs2.1
  have back : ∀ no w', Below w.heap.size w w' → ResIntsNo w A x no (.returned (.tuple #[.slice A n c, .int .i64 no])) w' := fun no w' hb => by
    refine ⟨A, c, by rw [l1], by rw [l1]; exact hnc, hcm, hA, fun _ _ _ => Or.inl rfl, ?_, hb⟩
    rw [l1]; exact (hs.below hb).more hb.size
  have BACK := hidb back
  have HR := hidb hr
  clear back hr
  have HS := hidb hs
  have HS2 := hidb hs2
  have L1 := hidb l1
  have L2 := hidb l2
  clear hs hs2 l1 l2
  by_cases hid : drop = false ∧ id < 1
  · obtain ⟨rfl, hid⟩ := hid
    have E : xPut x id rs false = (x, 1) := by unfold xPut; rw [decide_eq_true hid]; rfl
    rw [E]; clear E
    go_enter Try.func10, Try.ntmps10
    go_wp2
    go_ret2
    exact BACK.out _ _ (Below.refl _ _)
  · have hid2 : drop = true ∨ (drop = false ∧ 1 ≤ id) := by
      cases drop with
      | true => exact Or.inl rfl
      | false => exact Or.inr ⟨rfl, by refine Int.not_lt.1 fun h => hid ⟨rfl, by omega⟩⟩
    have E : Hid (xPut x id rs drop = if rs.all (xThere x.length) then putEnd x (putRuns x id drop rs) else (x, 2)) := hidb (by
      have hc : ¬ (!drop && decide (id < 1)) = true := by
        rcases hid2 with rfl | ⟨rfl, h⟩
        · simp
        · simp; omega
      unfold xPut
      rw [if_neg hc])
    clear hid
    obtain ⟨dv, hdv⟩ : ∃ dv : Bool, dv = drop := ⟨_, rfl⟩
    rw [← hdv] at E
    rw [show xPut x id rs drop = xPut x id rs dv by rw [hdv]]
    have HV := hidb hdv
    clear hdv
    rcases hid2 with rfl | ⟨rfl, hid1⟩
    all_goals
      go_enter Try.func10, Try.ntmps10
      go_wp2
      go_loopw [23] (fun k wr => ∃ j : Nat, j ≤ m ∧ k = .int .i64 j ∧ Hid ((rs.take j).all (xThere x.length) = true) ∧ Below w.heap.size w wr) (fun k _ => (m - intOf k).toNat)
      case atStart => exact ⟨0, by omega, rfl, hidb rfl, Below.refl _ _⟩
      case round =>
        obtain ⟨j, hj, rfl, HA, hbel⟩ := hrel
        by_cases hlt : j < m
        · obtain ⟨b, off, s, l, rfl, _, hx, hc1, hc2⟩ := (HS2.out.below hbel).at_ hlt
          have hin := HR.out (s, l) (List.mem_of_getElem? hx)
          have ct := ref_xthere A n c (s, l) wr hn hin
          have hall : Hid ((rs.take (j + 1)).all (xThere x.length) = xThere n (s, l)) := hidb (by
            rw [List.take_add_one, hx, List.all_append, HA.out, L1.out]; simp)
          have hbsz := hbel.size
          have HB := hidb hbel
          have hmem : Hid ((s, l) ∈ rs) := hidb (List.mem_of_getElem? hx)
          clear hbel hx hin
          have hi0 : (0 : Int) ≤ (j : Int) := by omega
          cases hT : xThere n (s, l) with
          | true =>
            rw [hT] at ct hall
            clear hT
            go_wp2_with (go_at_call 20; refine ct.mono ?_; rintro e w' ⟨rfl, rfl⟩)
            go_roundw
            case rel => exact ⟨j + 1, by omega, by go_num, hall, HB.out.alloc hbsz _⟩
            case measure => simp [intOf]; omega
          | false =>
            rw [hT] at ct
            have E2 : Hid (xPut x id rs dv = (x, 2)) := hidb (by
              rw [E.out, if_neg]
              rw [Bool.not_eq_true, List.all_eq_false]
              exact ⟨(s, l), hmem.out, by rw [L1.out, hT]; simp⟩)
            rw [E2.out]
            clear hT hall
            go_wp2_with (go_at_call 20; refine ct.mono ?_; rintro e w' ⟨rfl, rfl⟩)
            go_ret2
            exact BACK.out _ _ (HB.out.alloc hbsz _)
        · have hje : j = m := by omega
          have hall : Hid (rs.all (xThere x.length) = true) := hidb (by
            have := HA.out
            rwa [List.take_of_length_le (by rw [L2.out]; omega)] at this)
          have hbsz := hbel.size
          have HB := hidb hbel
          have HSx := hidb ((HS.out.below hbel).more hbsz)
          have hone : Hid (∀ u ∈ x.map iv, u.oneCell' = true) := hidb (fun u hu => by obtain ⟨y, _, rfl⟩ := List.mem_map.1 hu; rfl)
          clear hbel hje HA
          obtain ⟨wo, rfl⟩ : ∃ wo : World, wo = wr := ⟨_, rfl⟩
          go_wp2_with (at_builtin; refine wpList_copy wo rfl _ _ 26 rfl 3 i0 (.int .i64 0) 8 Try.underlying26 hi hz0 hz1 hz2 rfl A n c (x.map iv) rfl rfl HSx.out hA hone.out (by unfold maxLen; omega) (by omega) ?_)
          intro A1 c1 w1 hown1 hb1
          have hrun : Hid (∀ k, putRuns x id dv (rs.take k) = none → xPut x id rs dv = (x, 9)) := hidb (fun k h => by
            rw [E.out, if_pos hall.out, putRuns_none x id dv rs k h]; rfl)
          have hfin : Hid (∀ o, putRuns x id dv rs = some o → xPut x id rs dv = (o, 0)) := hidb (fun o h => by
            rw [E.out, if_pos hall.out, h]; rfl)
          have HO := hidb hown1
          have HB1 := hidb hb1
          have hb1s := hb1.size
          have HA1 := hidb (own_caps hown1)
          clear hown1 hb1 E
          go_wp2
          go_loopw [40] (fun k wr => ∃ (j : Nat) (o : List Int), j ≤ m ∧ k = .int .i64 j ∧ Hid (putRuns x id dv (rs.take j) = some o) ∧ o.length = n ∧ wr.ownsRow wo.heap.size 3 1 (.slice A1 n c1) n (o.map iv) ∧ Below wo.heap.size wo wr) (fun k _ => (m - intOf k).toNat)
          case atStart => exact ⟨0, x, by omega, rfl, hidb rfl, L1.out, HO.out, HB1.out⟩
          case round =>
            obtain ⟨j, o, hj, rfl, HPO, hol, hown, hbel⟩ := hrel
            by_cases hlt2 : j < m
            · obtain ⟨b, off, s, l, hA2, hbb, hx, _, _⟩ := HS2.out.at_ hlt2
              have HCELL : Hid (∀ W, Below w.heap.size w W → W.cell? ⟨b, off + j * 2, none⟩ = some (.int .i64 s) ∧ W.cell? ⟨b, off + j * 2 + 1, none⟩ = some (.int .i64 l)) := hidb (fun W hW => by
                obtain ⟨b', off', s', l', e1, _, e2, e3, e4⟩ := (HS2.out.below hW).at_ hlt2
                rw [hA2] at e1
                rw [hx] at e2
                injection e1 with e1; injection e1 with e1 e5
                subst e1; subst e5
                injection e2 with e2; injection e2 with e2 e6
                subst e2; subst e6
                exact ⟨e3, e4⟩)
              have hth : xThere x.length (s, l) = true := List.all_eq_true.1 hall.out (s, l) (List.mem_of_getElem? hx)
              rw [L1.out] at hth
              obtain ⟨t1, t2, t3, t4, t5⟩ := of_decide_eq_true hth
              simp only at t1 t2 t3 t4 t5
              obtain ⟨S, rfl⟩ : ∃ S : Nat, s = S := ⟨s.toNat, by omega⟩
              obtain ⟨L, rfl⟩ : ∃ L : Nat, l = L := ⟨l.toNat, by omega⟩
              have htk : Hid (putRuns x id dv (rs.take (j + 1)) = putPages x id dv S L o) := hidb (by
                rw [List.take_add_one, hx]
                show putRuns x id dv (rs.take j ++ [((S : Int), (L : Int))]) = _
                rw [putRuns_snoc, HPO.out]; rfl)
              have hBW := (HB.out.trans (hbel.mono hbsz))
              obtain ⟨hcs, hcl⟩ := HCELL.out _ hBW
              have HOWN := hidb hown
              have HBEL := hidb hbel
              have hj0 : (0 : Int) ≤ (j : Int) := by omega
              have hj1 : (j : Int) < (m : Int) := by omega
              clear hth hx hown hbel hBW hbb
              subst hA2
              obtain ⟨wi, rfl⟩ : ∃ wi : World, wi = wr := ⟨_, rfl⟩
              go_wp2
              go_loopw [13] (fun k wr => ∃ (i : Nat) (o2 : List Int), i ≤ L ∧ k = .int .i64 ((S : Int) + (i : Int)) ∧ Hid (putPages x id dv S i o = some o2) ∧ o2.length = n ∧ wr.ownsRow wo.heap.size 3 1 (.slice A1 n c1) n (o2.map iv) ∧ Below wo.heap.size wo wr) (fun k _ => (S + L - intOf k).toNat)
              case atStart => exact ⟨0, o, by omega, by simp, hidb rfl, hol, HOWN.out, HBEL.out⟩
              case round =>
                obtain ⟨i, o2, hi2, rfl, HPP, hol2, hown, hbel⟩ := hrel
                have hBW := (HB.out.trans (hbel.mono hbsz))
                obtain ⟨hcs, hcl⟩ := HCELL.out _ hBW
                have hBN : Hid (∀ q, Below w.heap.size w (wr.drewN q)) := hidb (fun q => belowQ hBW q)
                have hso0 : (0 : Int) ≤ (S : Int) + (i : Int) := by omega
                by_cases hil : i < L
                · obtain ⟨b2, off2, yx, hAx, hyx, hcx⟩ := (HS.out.below hBW).int_ (j := S + i) (by omega)
                  obtain ⟨g, cap, hv, hgB, hglt⟩ := hown.form (by omega)
                  obtain rfl : A1 = some ⟨g, 0, none⟩ := by injection hv
                  obtain ⟨yo, hyo⟩ : ∃ yo, o2[S + i]? = some yo := ⟨_, List.getElem?_eq_getElem (by omega)⟩
                  have hco : wr.cell? ⟨g, S + i, none⟩ = some (.int .i64 yo) := by
                    rw [hown.cellAt (S + i) (by omega), List.getElem?_map, hyo]; rfl
                  have hf := hown.frozenAt (S + i)
                  have hso1 : (S : Int) + (i : Int) < (n : Int) := by omega
                  have hbn : ((S : Int) + (i : Int)).toNat = S + i := by omega
                  have hlt3 : (S : Int) + (i : Int) < (S : Int) + (L : Int) := by omega
                  have hsucc : putPages x id dv S (i + 1) o = putPage x id dv o2 (S + i) := by
                    show (putPages x id dv S i o).bind _ = _
                    rw [HPP.out]; rfl
                  have hpg : putPage x id dv o2 (S + i) = if (dv && yx == 0) || (!dv && yo != 0) then none else some (o2.set (S + i) (if dv then 0 else id)) := by
                    unfold putPage
                    rw [List.getD_eq_getElem?_getD, hyx, List.getD_eq_getElem?_getD, hyo]; rfl
                  have hst : Hid (∀ q u, ((wr.drewN q).setCell ⟨g, S + i, none⟩ (.int .i64 u)).ownsRow wo.heap.size 3 1 (.slice (some ⟨g, 0, none⟩) n c1) n ((o2.set (S + i) u).map iv)) := hidb (fun q u => by
                    rw [List.map_set]
                    exact ((show (wr.drewN q).ownsRow wo.heap.size 3 1 (.slice (some ⟨g, 0, none⟩) n c1) n (o2.map iv) from hown).stored (S + i) (iv u)).1)
                  have hbs : Hid (∀ q u, Below wo.heap.size wo ((wr.drewN q).setCell ⟨g, S + i, none⟩ (.int .i64 u))) := hidb (fun q u => (belowQ hbel q).setCell (p := ⟨g, S + i, none⟩) hgB _)
                  clear hyx hyo hown hbel hBW hv
                  subst hAx
                  by_cases hcnd : ((dv && yx == 0) || (!dv && yo != 0)) = true
                  · rw [if_pos hcnd] at hpg
                    rw [hpg] at hsucc
                    have E9 : Hid (xPut x id rs dv = (x, 9)) := hidb (hrun.out (j + 1) (by
                      rw [htk.out]; exact putPages_none (k := i + 1) L (by omega) hsucc))
                    have B9 : Hid (∀ w', Below w.heap.size w w' → ResIntsNo w (some ⟨b2, off2, none⟩) (xPut x id rs dv).1 (xPut x id rs dv).2 (.returned (.tuple #[.slice (some ⟨b2, off2, none⟩) n c, .int .i64 9])) w') := hidb (fun w' hb => by rw [E9.out]; exact BACK.out 9 w' hb)
                    have hway : (dv = true ∧ yx = 0) ∨ (dv = false ∧ yo ≠ 0) := by
                      cases dv with
                      | true => left; simpa using hcnd
                      | false => right; simpa using hcnd
                    clear hcnd hsucc hpg
                    rcases hway with ⟨e, h⟩ | ⟨e, h⟩
                    · first
                        | exact absurd (HV.out.symm.trans e) (by decide)
                        | (have eb : (yx == 0) = true := by simpa using h
                           clear h e
                           go_wp2
                           go_quiet (fail)
                           go_wp2
                           go_ret2
                           exact B9.out _ (hBN.out _))
                    · first
                        | exact absurd (HV.out.symm.trans e) (by decide)
                        | (have eb : (yo != 0) = true := by simpa using h
                           clear h e
                           go_wp2
                           go_quiet (fail)
                           go_wp2
                           go_ret2
                           exact B9.out _ (hBN.out _))
                  · rw [if_neg hcnd] at hpg
                    rw [hpg] at hsucc
                    have hway : (dv = true ∧ yx ≠ 0) ∨ (dv = false ∧ yo = 0) := by
                      cases dv with
                      | true => left; simpa using hcnd
                      | false => right; simpa using hcnd
                    clear hcnd hpg
                    rcases hway with ⟨e, h⟩ | ⟨e, h⟩
                    · first
                        | exact absurd (HV.out.symm.trans e) (by decide)
                        | (have eb : (yx == 0) = false := by simpa using h
                           rw [if_pos e] at hsucc
                           have HSU := hidb hsucc
                           clear h e hsucc
                           go_wp2
                           go_quiet (fail)
                           go_wp2
                           go_roundw
                           case rel => exact ⟨i + 1, o2.set (S + i) 0, by omega, by go_num, HSU, by rw [List.length_set]; exact hol2, hst.out _ _, hbs.out _ _⟩
                           case measure => simp [intOf]; omega)
                    · first
                        | exact absurd (HV.out.symm.trans e) (by decide)
                        | (have eb : (yo != 0) = false := by simpa using h
                           rw [if_neg (by rw [e]; decide)] at hsucc
                           have HSU := hidb hsucc
                           clear h e hsucc
                           go_wp2
                           go_quiet (fail)
                           go_wp2
                           go_roundw
                           case rel => exact ⟨i + 1, o2.set (S + i) id, by omega, by go_num, HSU, by rw [List.length_set]; exact hol2, hst.out _ _, hbs.out _ _⟩
                           case measure => simp [intOf]; omega)
                · have hiL : Hid (putRuns x id dv (rs.take (j + 1)) = some o2) := hidb (by
                    rw [htk.out, ← HPP.out]; congr 1; omega)
                  have hnl : ¬ (S : Int) + (i : Int) < (S : Int) + (L : Int) := by omega
                  have hown2 : Hid (∀ q, (wr.drewN q).ownsRow wo.heap.size 3 1 (.slice A1 n c1) n (o2.map iv)) := hidb (fun q => hown)
                  have hbel2 : Hid (∀ q, Below wo.heap.size wo (wr.drewN q)) := hidb (fun q => belowQ hbel q)
                  clear hown hbel hBW
                  go_wp2
                  go_quiet (fail)
                  go_wp2
                  go_roundw
                  case rel => exact ⟨j + 1, o2, by omega, by go_num, hiL, hol2, hown2.out _, hbel2.out _⟩
                  case measure => simp [intOf]; omega
            · have hje2 : j = m := by omega
              have P : Hid (ResIntsNo w A (xPut x id rs dv).1 (xPut x id rs dv).2 (.returned (.tuple #[.slice A1 n c1, .int .i64 0])) wr) := hidb (by
                have h := HPO.out
                rw [List.take_of_length_le (by rw [L2.out]; omega)] at h
                rw [hfin.out o h]
                refine ⟨A1, c1, by rw [hol], by rw [hol]; exact HA1.out.1, HA1.out.2.1, HA1.out.2.2, fun b off e => Or.inr (by subst e; have := (hown.lt b rfl).1; omega), ?_, HB.out.trans (hbel.mono hbsz)⟩
                rw [hol]; exact Sl.of_own hown)
              clear hown hbel hje2
              go_wp2
              go_ret2
              exact P.out

end Go.Proofs.Ytoghahldlnhpdaa
