/- Layer 11's statement on the end: all that was taken is given back, all is flushed, and all pages are one run. -/
import Derived.Test.YtlcdgmjinhbncaaGreatPCacheEnds2
namespace Go.Proofs.YtlcdgmjinhbncaaGreat
open Go.RowKit
set_option linter.unusedVariables false

theorem bel_trE {W X Y : World} (h : Below W.heap.size W X) (k : Below X.heap.size X Y) : Below W.heap.size W Y := h.trans (k.mono h.size)
/-- Where the law stands. -/
structure EW (F : CaF) (w W : World) (S : Nat → Prop) (v : PoolW) (cs : List CL) (k : Nat) (pages : Int) (b n c : Nat) (xs O : List Int) : Prop where
  st : CaSt F w W S v cs k pages
  row : RowE w W S b n c xs
  ec : EndC allP v.plain cs O
theorem metE {X w1 : World} {v : Value} {t : TypeId} (hb : Below (X.alloc (.cells #[v] t)).heap.size (X.alloc (.cells #[v] t)) w1) : w1.cell? ⟨X.heap.size, 0, none⟩ = some v := (hb.cell (p := ⟨X.heap.size, 0, none⟩) (by simp)).trans (World.cell?_alloc_at _ _ _ 0 (by simp))
theorem metEd {X w1 : World} {v : Value} {t : TypeId} (hb : Below (X.alloc (.cells #[v] t)).drew.heap.size (X.alloc (.cells #[v] t)).drew w1) : w1.cell? ⟨X.heap.size, 0, none⟩ = some v := metE ⟨hb.os, hb.tape, hb.output, hb.size, hb.block⟩
theorem metE0 {X : World} {v : Value} {t : TypeId} : (X.alloc (.cells #[v] t)).cell? ⟨X.heap.size, 0, none⟩ = some v := World.cell?_alloc_at _ _ _ 0 (by simp)
set_option maxRecDepth 100000 in
set_option maxHeartbeats 8000000 in
theorem cacheEnds_any (pages procs : Int) (A0 : Option Addr) (m c : Nat) (l : List Act11) (w : World) (h0 : in64 pages) (h1 : in64 procs) (hm : m ≤ maxLen) (hs : RowOf (Act11Is w) 4 w w.heap.size A0 m l) :
    Calls Tryz.prog 6 #[.int .i64 pages, .int .i64 procs, .slice A0 m c] w fun e w' => e = .returned (.bool true) ∧ Below w.heap.size w w' := by
  have cw := fun W => awake11 W
  unfold maxLen at hm
  by_cases g : pages < 4 ∨ 40 < pages ∨ procs < 1 ∨ 16 < procs ∨ (80 : Int) < (m : Int)
  · clear hs
    by_cases g1 : pages < 4
    · --@11
      go_enter Tryz.func6, Tryz.ntmps6
      go_wp2_with (go_at_call 30; (with_reducible refine (cw _).mono ?_); rintro e w1 ⟨rfl, hb⟩)
      go_ret
      exact ⟨rfl, hb⟩
    by_cases g2 : 40 < pages
    · clear g
      --@12
      go_enter Tryz.func6, Tryz.ntmps6
      go_wp2_with (go_at_call 30; (with_reducible refine (cw _).mono ?_); rintro e w1 ⟨rfl, hb⟩)
      go_ret
      exact ⟨rfl, hb⟩
    by_cases g3 : procs < 1
    · clear g
      --@13
      go_enter Tryz.func6, Tryz.ntmps6
      go_wp2_with (go_at_call 30; (with_reducible refine (cw _).mono ?_); rintro e w1 ⟨rfl, hb⟩)
      go_ret
      exact ⟨rfl, hb⟩
    by_cases g4 : 16 < procs
    · clear g
      --@14
      go_enter Tryz.func6, Tryz.ntmps6
      go_wp2_with (go_at_call 30; (with_reducible refine (cw _).mono ?_); rintro e w1 ⟨rfl, hb⟩)
      go_ret
      exact ⟨rfl, hb⟩
    · have g5 : (80 : Int) < (m : Int) := by omega
      clear g
      --@15
      go_enter Tryz.func6, Tryz.ntmps6
      go_wp2_with (go_at_call 30; (with_reducible refine (cw _).mono ?_); rintro e w1 ⟨rfl, hb⟩)
      go_ret
      exact ⟨rfl, hb⟩
  obtain ⟨i0, hi, hz0, hz1, hz2⟩ := info_parts info_int
  have g1 : ¬ pages < 4 := by omega
  have g2 : ¬ 40 < pages := by omega
  have g3 : ¬ procs < 1 := by omega
  have g4 : ¬ 16 < procs := by omega
  have g5 : ¬ (80 : Int) < (m : Int) := by omega
  clear g
  obtain ⟨N, rfl⟩ : ∃ N : Nat, procs = N := ⟨procs.toNat, by omega⟩
  obtain ⟨F, ws, hNew, cn⟩ := code_made11 pages N w (by omega) (by omega) (by omega)
  have HR := hidb hs
  have C1 : Hid (∀ w1 (C : CaF) S, C.N = N → Hid (CaSt C w w1 S ⟨⟨pages, F, [], 0⟩, ws, false, []⟩ (List.replicate (4 * N) ((0, 0), [])) 0 pages) → EW C w (w1.alloc (.cells #[] 3)) S ⟨⟨pages, F, [], 0⟩, ws, false, []⟩ (List.replicate (4 * N) ((0, 0), [])) (8 * 0) pages w1.heap.size 0 0 [] [] ∧ Room (List.replicate (4 * N) (((0, 0), []) : CL))) := hidb (fun w1 C S hC s => by
    have hb0 : Below w1.heap.size w1 (w1.alloc (.cells #[] 3)) := (Below.refl _ _).alloc (Nat.le_refl _) _
    refine ⟨⟨s.out.below hb0, RowE.empty s.out 3, ⟨⟨s.out.pool.pok, fun s hs => (by cases hs), fun c hc => (by cases hc), rfl⟩, fun x q ⟨c, hc, _⟩ => (by cases hc), fun x hx => (by cases hx), List.nodup_nil⟩⟩, fun i d hd => ?_⟩
    rw [List.getElem?_replicate] at hd
    split at hd
    · obtain rfl := Option.some.inj hd
      simp
    · cases hd)
  clear hs hNew
  go_enter Tryz.func6, Tryz.ntmps6
  go_wp2_with (first
    | (go_at_call 31; (with_reducible refine cn.mono ?_); rintro e w1 ⟨C, S1, rfl, hCN, s1⟩; have H0 := hidb (C1.out w1 C S1 hCN s1); clear s1))
  clear cn C1
  have HCN := hidb hCN
  clear hCN
  go_loopw [10, 11, 12, 13] (fun y x _ _ wr => ∃ (j : Nat) (S : Nat → Prop) (u : PoolW) (cs : List CL) (b n d : Nat) (O : List Int), j ≤ m ∧ n ≤ j ∧ x = .int .i64 j ∧ y = .slice (some ⟨b, 0, none⟩) n d ∧ Hid (EW C w wr S u cs (8 * j) pages b n d O O ∧ Room cs)) (fun _ x _ _ _ => (m - intOf x).toNat)
  case atStart => exact ⟨0, S1, _, _, w1.heap.size, 0, 0, [], Nat.zero_le _, Nat.zero_le _, rfl, rfl, H0⟩
  case round =>
    obtain ⟨j, S, u, cs, b, n, d, O, hj, hnj, rfl, rfl, HK⟩ := hrel
    by_cases hlt : j < m
    · obtain ⟨bb, off, a, cells, rfl, hbs, hx, hl5, hc, hcs, hkd, hpr, hor, _⟩ := (RowOf.below HR.out HK.out.1.st.bel).at_ hlt
      subst hcs
      have a1 : wr.cell? ⟨bb, off + j * 4 + 1, none⟩ = some (.int .i64 a.proc) := hc 1 (by omega)
      have a2 : wr.cell? ⟨bb, off + j * 4 + 2, none⟩ = some (.int .i64 a.order) := hc 2 (by omega)
      have hi0 : (0 : Int) ≤ (j : Int) := by omega
      have hi1 : (j : Int) < (m : Int) := by omega
      obtain ⟨at', no, ct0⟩ := t_ctakeE (HK.out.1.st.below (Below.refl _ _).drew) HK.out.1.ec HK.out.2 (by omega) a.proc a.order
      have ct : Calls Tryz.prog 40 #[.pointer (some ⟨C.q, 0, none⟩), .int .i64 a.proc, .int .i64 a.order] wr.drew fun e w3 => e = .returned (.tuple #[.int .i64 at', .int .i64 no]) ∧ ∃ S3 u3 cs3, Hid (CaSt C w w3 S3 u3 cs3 (8 * (j + 1)) pages ∧ RowE w w3 S3 b n d O ∧ EndC allP u3.plain cs3 (if no = 0 then O ++ [at'] else O) ∧ Room cs3) := ct0.mono fun e w3 ⟨h1, S3, u3, cs3, h2, h3, h4, h5⟩ => ⟨h1, S3, u3, cs3, hidb ⟨h2, (HK.out.1.row.side (SideP.below (Below.refl _ _).drew)).side h4, h5, h3⟩⟩
      clear hc hl5 hx HK HR ct0 cw
      by_cases hno : no = 0
      · subst hno
        have HCO : Hid (∀ (w3 : World) i y, [Value.int .i64 at'][i]? = some y → (w3.alloc (.cells #[.int .i64 at'] 3)).cell? ((⟨w3.heap.size, 0, none⟩ : Addr).add i) = some y) := hidb (fun w3 i y hy => cells_new' w3 [Value.int .i64 at'] 3 w3.heap.size rfl _ rfl i y hy)
        have HONE : Hid (∀ u ∈ [Value.int .i64 at'], u.oneCell' = true) := hidb (ints_oneCell .i64 [at'])
        have HO : Hid (∀ (w3 : World) S3, RowE w w3 S3 b n d O → (w3.alloc (.cells #[.int .i64 at'] 3)).ownsRow 0 3 1 (.slice (some ⟨b, 0, none⟩) n d) n (O.map iv)) := hidb (fun w3 S3 r => own_below r.row ((Below.refl _ _).alloc (Nat.le_refl _) _))
        --@1
        go_wp2
        go_region_law (first | (go_simp; go_at_call 40; (with_reducible refine ct.mono ?_); rintro e w3 ⟨rfl, S3, u3, cs3, H3⟩))
        all_goals go_wp2_with (first
          | (at_builtin; refine wpList_append_own_at _ rfl _ _ 38 rfl 0 3 i0 (.int .i64 0) 1 8 Tryz.underlying38 hi hz0 hz1 hz2 rfl (by decide) _ n _ rfl (HO.out w3 S3 H3.out.2.1) ⟨w3.heap.size, 0, none⟩ 1 1 [.int .i64 at'] rfl rfl (HCO.out w3) HONE.out (by unfold maxLen; omega) (by omega) (Nat.zero_le _) ?_; intro v' w5 hown' hgrow hnil hat; obtain ⟨b5, c5, rfl, q1, q2, _⟩ := row_back H3.out.1 H3.out.2.1 hown' hgrow hat; have HP := hidb (And.intro (show EW C w w5 S3 u3 cs3 (8 * (j + 1)) pages b5 (n + 1) c5 (O ++ [at']) (O ++ [at']) from ⟨q1, q2, H3.out.2.2.1⟩) H3.out.2.2.2); clear hown' hgrow hnil hat q1 q2))
        all_goals go_roundw
        all_goals first
          | exact ⟨j + 1, S3, u3, cs3, b5, n + 1, c5, _, by omega, by omega, by go_num, rfl, HP⟩
          | (simp [intOf]; omega)
      · have hne : (no == 0) = false := by simpa using hno
        --@2
        go_wp2
        go_region_law (first | (go_simp; go_at_call 40; (with_reducible refine ct.mono ?_); rintro e w3 ⟨rfl, S3, u3, cs3, H3⟩))
        all_goals go_wp2
        all_goals go_roundw
        all_goals first
          | exact ⟨j + 1, S3, u3, cs3, b, n, d, O, by omega, by omega, by go_num, rfl, hidb ⟨⟨H3.out.1, H3.out.2.1, by have := H3.out.2.2.1; rw [if_neg hno] at this; exact this⟩, H3.out.2.2.2⟩⟩
          | (simp [intOf]; omega)
    · obtain rfl : j = m := by omega
      have HK2 : Hid (EW C w wr S u cs (8 * j) pages b n d O (O.drop 0)) := hidb HK.out.1
      have hn80 : n ≤ 80 := by omega
      clear HK HR
      --@3
      go_wp2
      go_loopw [14] (fun x wr2 => ∃ (i : Nat) (S2 : Nat → Prop) (u2 : PoolW) (cs2 : List CL), i ≤ n ∧ x = .int .i64 i ∧ Hid (EW C w wr2 S2 u2 cs2 (8 * j) pages b n d O (O.drop i))) (fun x _ => (n - intOf x).toNat)
      case atStart => exact ⟨0, S, u, cs, Nat.zero_le _, rfl, HK2⟩
      case round =>
        obtain ⟨i, S2, u2, cs2, hi9, rfl, H2⟩ := hrel
        by_cases hlt2 : i < n
        · obtain ⟨x, hx⟩ : ∃ x, O[i]? = some x := ⟨_, List.getElem?_eq_getElem (by rw [H2.out.row.len]; exact hlt2)⟩
          have hdr : O.drop i = x :: O.drop (i + 1) := by
            obtain ⟨hl, e⟩ := List.getElem?_eq_some_iff.1 hx
            rw [List.drop_eq_getElem_cons hl, e]
          have hec := H2.out.ec
          rw [hdr] at hec
          obtain ⟨q, hq, hx0, hx1, co, cg⟩ := t_giveE H2.out.st hec
          obtain ⟨y, hy⟩ : ∃ y : Int, x / 16 = y := ⟨_, rfl⟩
          obtain ⟨r, hr⟩ : ∃ r : Nat, y % (N : Int) = r := ⟨(y % (N : Int)).toNat, by have := Int.emod_nonneg y (show (N : Int) ≠ 0 by omega); omega⟩
          have hrN : r < N := by have := Int.emod_lt_of_pos y (show (0 : Int) < N by omega); omega
          have hqu : IntKind.i64.wrap (x.tdiv 16) = y := by
            rw [Int.tdiv_eq_ediv_of_nonneg hx0, hy, IntKind.wrap_i64]
            omega
          have hre : y.tmod (N : Int) = (r : Int) := by
            rw [Int.tmod_eq_emod_of_nonneg (by omega), hr]
          have hcx : wr.cell? ⟨b, i, none⟩ = some (.int .i64 x) := by
            obtain ⟨b2, off, y, e2, hy, hc2⟩ := (Sl.of_own H2.out.row.row).int_ hlt2
            injection e2 with e2
            injection e2 with e3 e4
            subst e3 e4
            rw [hx] at hy
            obtain rfl := Option.some.inj hy
            rw [Nat.zero_add] at hc2
            exact hc2
          have hbl := H2.out.row.lt
          have CO : ∀ X, Below wr.heap.size wr X → Calls Tryz.prog 20 #[.pointer (some ⟨C.p, 0, none⟩), .int .i64 x] X fun e w' => e = .returned (.int .i64 q) ∧ Below wr.heap.size wr w' ∧ w'.cell? ⟨b, i, none⟩ = some (.int .i64 x) ∧ Below X.heap.size X w' := fun X hb => (co X hb).mono fun e w' ⟨k1, k2⟩ => ⟨k1, bel_trE hb k2, ((bel_trE hb k2).cell (p := ⟨b, i, none⟩) hbl).trans hcx, k2⟩
          have HRW : Hid (RowE w wr S2 b n d O) := hidb H2.out.row
          have CG : ∀ X a, Below wr.heap.size wr X → wr.heap.size ≤ a → X.cell? ⟨a, 0, none⟩ = some (.int .i64 x) → Calls Tryz.prog 41 #[.pointer (some ⟨C.q, 0, none⟩), .int .i64 (r : Int), .int .i64 q, .slice (some ⟨a, 0, none⟩) 1 1] X fun e w' => e = .returned (.int .i64 0) ∧ ∃ S3 u3 cs3, Hid (EW C w w' S3 u3 cs3 (8 * j) pages b n d O (O.drop (i + 1))) := fun X a hb ha hc => (cg X a r (by rw [HCN.out]; exact hrN) hb ha hc).mono fun e w' ⟨k1, S3, u3, cs3, k2, k3, k4⟩ => ⟨k1, S3, u3, cs3, hidb ⟨k2, HRW.out.side k3, k4⟩⟩
          have hi0 : (0 : Int) ≤ (i : Int) := by omega
          have hi1 : (i : Int) < (n : Int) := by omega
          have hB : Below wr.heap.size wr wr := Below.refl _ _
          have hN0 : ¬ (N : Int) = 0 := by omega
          have hN1 : ¬ N = 0 := by omega
          have hle : wr.heap.size ≤ wr.heap.size := Nat.le_refl _
          clear H2 HK2 hx hdr hec co cg cw hy hr hrN
          have hcx2 := alloc_old (.cells #[.int .i64 x] 3) hcx
          --@4
          go_wp2
          go_region_law (first
            | (go_simp; go_at_call 20; (with_reducible refine (CO _ (by first | exact hB | exact hB.drew | exact hB.alloc hle _ | exact (hB.alloc hle _).drew)).mono ?_); rintro e w5 ⟨rfl, hB, hcx, hb5⟩; have nm := (by first | exact metE hb5 | exact metEd hb5 | exact trivial); have hle := hB.size; have hcx2 := alloc_old (.cells #[.int .i64 x] 3) hcx; clear hb5)
            | (go_simp; go_at_call 41; (with_reducible refine (CG _ _ (by first | exact hB | exact hB.drew | exact hB.alloc hle _) (by first | exact Nat.le_refl _ | exact hle) (by first | exact nm | exact metE0)).mono ?_); rintro e w6 ⟨rfl, S3, u3, cs3, H3⟩))
          all_goals go_wp2
          all_goals go_roundw
          all_goals first
            | exact ⟨i + 1, S3, u3, cs3, by omega, by go_num, H3⟩
            | (simp [intOf]; omega)
        · obtain rfl : i = n := by omega
          have HE : Hid (EW C w wr S2 u2 cs2 (8 * j) pages b i d O []) := hidb (by
            have h := H2.out
            rw [List.drop_eq_nil_of_le (by rw [h.row.len]; exact Nat.le_refl _)] at h
            exact h)
          clear H2 HK2
          have hbs := HE.out.st.bel.size
          have H0 : Hid (CaSt C w (wr.alloc (.cells #[] 3)) S2 u2 cs2 (8 * j) pages ∧ RowE w (wr.alloc (.cells #[] 3)) S2 wr.heap.size 0 0 ((List.range 0).map fun i : Nat => (i : Int))) := hidb ⟨HE.out.st.below ((Below.refl _ _).alloc (Nat.le_refl _) _), RowE.empty HE.out.st 3⟩
          have HEC := hidb HE.out.ec
          clear HE hbs
          --@5
          go_wp2
          go_loopw [15, 16] (fun y x wr2 => ∃ (pn b2 d2 : Nat), pn ≤ N ∧ x = .int .i64 pn ∧ y = .slice (some ⟨b2, 0, none⟩) pn d2 ∧ Hid (CaSt C w wr2 S2 u2 cs2 (8 * j) pages ∧ RowE w wr2 S2 b2 pn d2 ((List.range pn).map fun i : Nat => (i : Int)))) (fun _ x _ => (N - intOf x).toNat)
          case atStart => exact ⟨0, wr.heap.size, 0, Nat.zero_le _, rfl, rfl, H0⟩
          case round =>
            obtain ⟨pn, b2, d2, hpn, rfl, rfl, HA⟩ := hrel
            by_cases hlp : pn < N
            · have hp1 : (pn : Int) < (N : Int) := by omega
              have HO : Hid ((wr.alloc (.cells #[.int .i64 (pn : Int)] 3)).ownsRow 0 3 1 (.slice (some ⟨b2, 0, none⟩) pn d2) pn (((List.range pn).map fun i : Nat => (i : Int)).map iv)) := hidb (own_below HA.out.2.row ((Below.refl _ _).alloc (Nat.le_refl _) _))
              have HCO : Hid (∀ i y, [Value.int .i64 (pn : Int)][i]? = some y → (wr.alloc (.cells #[.int .i64 (pn : Int)] 3)).cell? ((⟨wr.heap.size, 0, none⟩ : Addr).add i) = some y) := hidb (fun i y hy => cells_new' wr [Value.int .i64 (pn : Int)] 3 wr.heap.size rfl _ rfl i y hy)
              have HONE : Hid (∀ u ∈ [Value.int .i64 (pn : Int)], u.oneCell' = true) := hidb (ints_oneCell .i64 [(pn : Int)])
              have HXS : Hid ((List.range (pn + 1)).map (fun i : Nat => (i : Int)) = ((List.range pn).map fun i : Nat => (i : Int)) ++ [(pn : Int)]) := hidb (by rw [List.range_succ, List.map_append]; rfl)
              --@6
              go_wp2_with (first
                | (at_builtin; refine wpList_append_own_at _ rfl _ _ 38 rfl 0 3 i0 (.int .i64 0) 1 8 Tryz.underlying38 hi hz0 hz1 hz2 rfl (by decide) _ pn _ rfl HO.out ⟨wr.heap.size, 0, none⟩ 1 1 [.int .i64 (pn : Int)] rfl rfl HCO.out HONE.out (by unfold maxLen; omega) (by omega) (Nat.zero_le _) ?_; intro v' w5 hown' hgrow hnil hat; obtain ⟨b5, c5, rfl, q1, q2, _⟩ := row_back HA.out.1 HA.out.2 hown' hgrow hat; rw [← HXS.out] at q2; have HP := hidb (And.intro q1 q2); clear hown' hgrow hnil hat q1 q2))
              go_roundw
              case rel => exact ⟨pn + 1, b5, c5, by omega, by go_num, rfl, HP⟩
              case measure => simp [intOf]; omega
            · obtain rfl : pn = N := by omega
              have c1 := ends_calls HA.out.1 HEC.out (some ⟨b2, 0, none⟩) pn d2 _ HA.out.2.rowK (by rw [HCN.out]) HCN.out.symm
              clear HA HEC
              --@7
              go_wp2_with (first
                | (go_at_call 42; (with_reducible refine c1.mono ?_); rintro e w3 ⟨rfl, c2⟩; clear c1)
                | (go_at_call 36; (with_reducible refine c2.mono ?_); rintro e w4 ⟨A4, d4, rfl, c3⟩; clear c2)
                | (go_at_call 22; (with_reducible refine c3.mono ?_); rintro e w5 ⟨A5, d5, rfl, c4⟩; clear c3)
                | (go_at_call 25; (with_reducible refine c4.mono ?_); rintro e w6 ⟨A6, d6, rfl, c5⟩; clear c4)
                | (go_at_call 28; (with_reducible refine c5.mono ?_); rintro e w7 ⟨A7, d7, rfl, c6⟩; clear c5)
                | (go_at_call 27; (with_reducible refine c6.mono ?_); rintro e w8 ⟨rfl, HB8⟩; clear c6)
                | (go_at_call 30; (with_reducible refine (cw _).mono ?_); rintro e w9 ⟨rfl, hb9⟩))
              go_ret
              exact ⟨rfl, bel_trE HB8.out hb9⟩
end Go.Proofs.YtlcdgmjinhbncaaGreat
