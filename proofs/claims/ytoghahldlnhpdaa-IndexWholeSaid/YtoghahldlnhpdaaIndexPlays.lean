/- The walk of layer 5's statement on rows of acts. -/
import Derived.Test.YtoghahldlnhpdaaIndexPlays0
import Derived.Deep.RegionHeld3
namespace Go.Proofs.Ytoghahldlnhpdaa
open Go.RowKit
set_option linter.unusedVariables false

theorem in64_mk {z : Int} (h : -9223372036854775808 ≤ z) (h2 : z ≤ 9223372036854775807) : in64 z := ⟨h, h2⟩

set_option maxRecDepth 100000 in
set_option maxHeartbeats 4000000 in
theorem indexPlays_any (pages page id : Int) (A : Option Addr) (L c : Nat) (l : List Act5) (w : World) (h0 : in64 pages) (h1 : in64 page) (h2 : in64 id) (hL : L ≤ maxLen) (hl : RowOf (Act5Is w) 3 w w.heap.size A L l) :
    Calls Try.prog 3 #[.int .i64 pages, .slice A L c, .int .i64 page, .int .i64 id] w fun e w' => e = .returned (.bool true) ∧ Below w.heap.size w w' := by
  have ca := fun W => awake5 W
  unfold maxLen at hL
  by_cases g1 : 100 < L
  · clear hl
    go_enter Try.func3, Try.ntmps3
    go_wp2_with (go_at_call 7; refine (ca _).mono ?_; rintro e w1 ⟨rfl, hb1⟩)
    go_ret
    exact ⟨rfl, hb1⟩
  have cn := code_xnew pages w h0
  unfold ResIx at cn
  have cm := fun W => ref_xnew pages W h0.1 h0.2
  unfold OwnInts at cm
  obtain ⟨n, hn⟩ : ∃ n, (max 0 (min pages 1024)).toNat = n := ⟨_, rfl⟩
  have hxl : (xNew pages).length = n := by unfold xNew; rw [List.length_replicate, hn]
  rw [hn] at cn
  rw [hxl] at cm
  have hn2 : n ≤ 1024 := by omega
  have HRow := hidb hl
  obtain ⟨x0, hx0⟩ : ∃ x0, xNew pages = x0 := ⟨_, rfl⟩
  rw [hx0] at cn cm hxl
  have HXL := hidb hxl
  have h10 := h1.1
  have h11 := h1.2
  have H1 := hidb h1
  have H2 := hidb h2
  clear hl hx0 hn hxl h0 h1 h2
  go_enter Try.func3, Try.ntmps3
  go_wp2_with (first
    | (go_at_call 8; (with_reducible refine cn.mono ?_); rintro e w1 ⟨p, g, rfl, hx1, hb1⟩)
    | (go_at_call 9; (with_reducible refine (cm _).mono ?_); rintro e w2 ⟨Am0, cm0, rfl, hown2, hb2⟩))
  have R0 : Hid (St5 w w2 p g n x0 x0 Am0 cm0) := hidb (by
    have hcap := own_caps hown2
    exact ⟨hx1.below hb2 (Nat.le_refl _), Sl.of_own hown2, fun b off e => by subst e; have := (hown2.lt b rfl).1; have := hx1.lt; omega, hcap.1, hcap.2.1, hcap.2.2, hb1.trans (hb2.mono hb1.size)⟩)
  clear hx1 hb1 hown2 hb2 cn cm
  go_loopw [10, 11] (fun v k wr => ∃ (j : Nat) (x : List Int) (Am : Option Addr) (cm : Nat), j ≤ L ∧ v = .slice Am n cm ∧ k = .int .i64 j ∧ Hid (St5 w wr p g n x x Am cm)) (fun _ k _ => (L - intOf k).toNat)
  case atStart => exact ⟨0, _, Am0, cm0, by omega, rfl, rfl, R0⟩
  case round =>
    obtain ⟨j, x, Am, cm, hj, rfl, rfl, HR⟩ := hrel
    by_cases hlt : j < L
    · obtain ⟨b, off, y, cs, rfl, hbw, hy, hcl, hcs, hact⟩ := HRow.out.at_ hlt
      obtain ⟨drop, k, A2, len2, cap2, rs⟩ := y
      obtain ⟨rfl, ik, il, iR, ir⟩ := hact
      simp only at ik il iR ir hcs
      have HQ : Hid (∀ W, Below w.heap.size w W → W.cell? ⟨b, off + j * 3, none⟩ = some (.bool drop) ∧ W.cell? ⟨b, off + j * 3 + 1, none⟩ = some (.int .i64 k) ∧ W.cell? ⟨b, off + j * 3 + 2, none⟩ = some (.slice A2 len2 cap2)) := hidb (fun W hB =>
        ⟨by rw [hB.cell hbw]; exact hcs 0 (by omega), by rw [hB.cell hbw]; exact hcs 1 (by omega), by rw [hB.cell hbw]; exact hcs 2 (by omega)⟩)
      obtain ⟨q0, q1, q2⟩ := HQ.out wr HR.out.bel
      have hi0 : (0 : Int) ≤ (j : Int) := by omega
      have hi1 : (j : Int) < (L : Int) := by omega
      unfold maxLen at il
      by_cases g4 : 20 < len2
      · clear hcs hcl hy hbw iR ir ik
        have HB := hidb HR.out.bel
        go_wp2_with (go_at_call 7; refine (ca _).mono ?_; rintro e w3 ⟨rfl, hb3⟩)
        go_ret
        exact ⟨rfl, HB.out.trans (hb3.mono HB.out.size)⟩
      have HAP : Hid (∀ b off, 0 < len2 → A2 = some ⟨b, off, none⟩ → b ≠ g) := hidb (fun b' off' hpos e => by
        obtain ⟨b2, off2, e2, hb2, _⟩ := iR.2 hpos
        rw [e] at e2
        injection e2 with e2; injection e2 with e2
        have := HR.out.ix.geg; omega)
      have HRS : Hid (∀ W, Below w.heap.size w W → Rn W W.heap.size A2 len2 rs) := hidb (fun W hB => (iR.below hB).more hB.size)
      have IR := hidb ir
      have IK := hidb ik
      obtain ⟨N, hN⟩ : ∃ N, xPut x k rs drop = N := ⟨_, rfl⟩
      obtain ⟨x', no⟩ := N
      have cput := t_put HR.out.drew k A2 len2 cap2 rs drop x' no hN (HRS.out _ HR.out.drew.bel) (by omega) ir ik
      have hni : (no != no) = false := by simp
      cases drop with
      | true =>
        have CD : Hid (∀ W A' c', St5 w W p g n x x' A' c' → Calls Try.prog 11 #[.pointer (some ⟨p, 0, none⟩), .slice A2 len2 cap2] W fun e w' => e = .returned (.int .i64 no) ∧ St5 w w' p g n x' x' A' c') := hidb (fun W A' c' h => t_xdrop h k A2 len2 cap2 rs x' no hN (HRS.out _ h.bel) HAP.out (by omega) IR.out)
        clear hcs hcl hy iR ir ik hN
        go_wp2
        go_region_held3 (fun w' => w'.cell? ⟨b, off + j * 3, none⟩ = some (.bool true) ∧ w'.cell? ⟨b, off + j * 3 + 1, none⟩ = some (.int .i64 k) ∧ w'.cell? ⟨b, off + j * 3 + 2, none⟩ = some (.slice A2 len2 cap2)) (go_keep)
          (first | (go_at_call 10; (with_reducible refine cput.mono ?_); rintro e w3 ⟨A3, c3, rfl, S3⟩; obtain ⟨y0, y1, y2⟩ := HQ.out _ S3.bel; have cd := CD.out _ _ _ S3))
        clear cput
        go_wp2_with (first
          | (go_at_call 11; (with_reducible refine cd.mono ?_); rintro e w4 ⟨rfl, S4⟩; have c5 := t_xof S4 page H1.out; have c6 := t_refOf S4 page H1.out)
          | (go_at_call 13; (with_reducible refine c5.mono ?_); rintro e w' ⟨rfl, rfl⟩)
          | (go_at_call 14; (with_reducible refine c6.mono ?_); rintro e w' ⟨rfl, rfl⟩))
        go_roundw
        case rel => exact ⟨j + 1, _, _, _, by omega, rfl, by go_num, hidb S4⟩
        case measure => simp [intOf]; omega
      | false =>
        have CD : Hid (∀ W A' c', St5 w W p g n x x' A' c' → Calls Try.prog 12 #[.pointer (some ⟨p, 0, none⟩), .int .i64 k, .slice A2 len2 cap2] W fun e w' => e = .returned (.int .i64 no) ∧ St5 w w' p g n x' x' A' c') := hidb (fun W A' c' h => t_xset h k A2 len2 cap2 rs x' no hN (HRS.out _ h.bel) HAP.out (by omega) IR.out IK.out)
        clear hcs hcl hy iR ir ik hN
        go_wp2
        go_region_held3 (fun w' => w'.cell? ⟨b, off + j * 3, none⟩ = some (.bool false) ∧ w'.cell? ⟨b, off + j * 3 + 1, none⟩ = some (.int .i64 k) ∧ w'.cell? ⟨b, off + j * 3 + 2, none⟩ = some (.slice A2 len2 cap2)) (go_keep)
          (first | (go_at_call 10; (with_reducible refine cput.mono ?_); rintro e w3 ⟨A3, c3, rfl, S3⟩; obtain ⟨y0, y1, y2⟩ := HQ.out _ S3.bel; have cd := CD.out _ _ _ S3.drew; have z := S3.bel))
        clear cput
        go_wp2
        go_region_held3 (fun w' => w'.cell? ⟨b, off + j * 3, none⟩ = some (.bool false) ∧ w'.cell? ⟨b, off + j * 3 + 1, none⟩ = some (.int .i64 k) ∧ w'.cell? ⟨b, off + j * 3 + 2, none⟩ = some (.slice A2 len2 cap2)) (first | go_keep | (obtain ⟨y0, y1, y2⟩ := HQ.out _ (by assumption); exact ⟨y0, y1, y2⟩))
          (first | (go_at_call 12; (with_reducible refine cd.mono ?_); rintro e w4 ⟨rfl, S4⟩; obtain ⟨y0, y1, y2⟩ := HQ.out _ S4.bel; have c5 := t_xof S4 page H1.out; have c6 := t_refOf S4 page H1.out))
        clear cd
        go_wp2_with (first
          | (go_at_call 13; (with_reducible refine c5.mono ?_); rintro e w' ⟨rfl, rfl⟩)
          | (go_at_call 14; (with_reducible refine c6.mono ?_); rintro e w' ⟨rfl, rfl⟩))
        go_roundw
        case rel => exact ⟨j + 1, _, _, _, by omega, rfl, by go_num, hidb S4⟩
        case measure => simp [intOf]; omega
    · have hAll : Below wr.heap.size wr wr := Below.refl _ _
      have S0 := HR.out
      have hlx : x.length = n := by have := S0.sl.1; simpa using this
      have cat := fun W (hb : Below wr.heap.size wr W) a h => code_xat (S0.below hb).ix a h
      have cpg := fun W (hb : Below wr.heap.size wr W) => (S0.below hb).ix.pages W (Below.refl _ _)
      have cof := fun W (hb : Below wr.heap.size wr W) => t_refOf (S0.below hb) page H1.out
      have crn := fun W (hb : Below wr.heap.size wr W) k h => t_xruns (S0.below hb) k h
      have crm := fun W (hb : Below wr.heap.size wr W) k h => t_refRuns (S0.below hb) k h
      unfold ResRuns at crn crm
      have hle : ∀ k, (xRuns x k).length ≤ 65536 := fun k => by have := xRuns_le x k; omega
      have HB := hidb S0.bel
      have e2 : xOf x (pageOf (-1)) = 0 := by simp [xOf, pageOf]
      have e0 : page < 0 → xOf x page = 0 := fun h => by unfold xOf; rw [if_neg (by omega)]
      have e1 : 0 ≤ page → page < 2000 → xOf x (pageOf (64 * page + 63)) = xOf x page := fun h h2 => by
        rw [show pageOf (64 * page + 63) = page by unfold pageOf; rw [if_neg (by omega)]; omega]
      obtain ⟨v, hv⟩ : ∃ v, xOf x page = v := ⟨_, rfl⟩
      rw [hv] at e0 e1 cof
      clear S0 hlx hv
      by_cases p0 : page < 0
      · obtain rfl := e0 p0
        clear e0 e1
        go_wp2_with (first
          | (go_at_call 15; (with_reducible refine (cat _ hAll _ (in64_mk (by omega) (by omega))).mono ?_); rintro e w' ⟨rfl, rfl⟩)
          | (go_at_call 16; (with_reducible refine (cpg _ hAll).mono ?_); rintro e w' ⟨rfl, rfl⟩)
          | (go_at_call 14; (with_reducible refine (cof _ hAll).mono ?_); rintro e w' ⟨rfl, rfl⟩)
          | (go_at_call 18; (with_reducible refine (crn _ hAll _ (by first | exact H2.out | exact in64_mk (by omega) (by omega))).mono ?_); rintro e w3 ⟨A3, c3, rfl, hR3, hb3⟩; replace hAll := hAll.trans (hb3.mono hAll.size))
          | (go_at_call 19; (with_reducible refine (crm _ hAll _ (by first | exact H2.out | exact in64_mk (by omega) (by omega))).mono ?_); rintro e w4 ⟨A4, c4, rfl, hR4, hb4⟩; replace hAll := hAll.trans (hb4.mono hAll.size); replace hR3 := hR3.below hb4)
          | (go_at_call 17; (with_reducible refine (t_same hR3 hR4 (hle _)).mono ?_); rintro e w5 ⟨rfl, hb5⟩; replace hAll := hAll.trans (hb5.mono hAll.size))
          | (go_at_call 7; (with_reducible refine (ca _).mono ?_); rintro e w6 ⟨rfl, hb6⟩))
        go_ret
        exact ⟨rfl, HB.out.trans ((hAll.trans (hb6.mono hAll.size)).mono HB.out.size)⟩
      by_cases p1 : page < 2000
      · have e1' := e1 (by omega) p1
        have p2 : 0 ≤ page := by omega
        clear e0 e1
        go_wp2_with (first
          | (go_at_call 15; (with_reducible refine (cat _ hAll _ (in64_mk (by omega) (by omega))).mono ?_); rintro e w' ⟨rfl, rfl⟩)
          | (go_at_call 16; (with_reducible refine (cpg _ hAll).mono ?_); rintro e w' ⟨rfl, rfl⟩)
          | (go_at_call 14; (with_reducible refine (cof _ hAll).mono ?_); rintro e w' ⟨rfl, rfl⟩)
          | (go_at_call 18; (with_reducible refine (crn _ hAll _ (by first | exact H2.out | exact in64_mk (by omega) (by omega))).mono ?_); rintro e w3 ⟨A3, c3, rfl, hR3, hb3⟩; replace hAll := hAll.trans (hb3.mono hAll.size))
          | (go_at_call 19; (with_reducible refine (crm _ hAll _ (by first | exact H2.out | exact in64_mk (by omega) (by omega))).mono ?_); rintro e w4 ⟨A4, c4, rfl, hR4, hb4⟩; replace hAll := hAll.trans (hb4.mono hAll.size); replace hR3 := hR3.below hb4)
          | (go_at_call 17; (with_reducible refine (t_same hR3 hR4 (hle _)).mono ?_); rintro e w5 ⟨rfl, hb5⟩; replace hAll := hAll.trans (hb5.mono hAll.size))
          | (go_at_call 7; (with_reducible refine (ca _).mono ?_); rintro e w6 ⟨rfl, hb6⟩))
        go_ret
        exact ⟨rfl, HB.out.trans ((hAll.trans (hb6.mono hAll.size)).mono HB.out.size)⟩
      · have p2 : 0 ≤ page := by omega
        clear e0 e1
        go_wp2_with (first
          | (go_at_call 15; (with_reducible refine (cat _ hAll _ (in64_mk (by omega) (by omega))).mono ?_); rintro e w' ⟨rfl, rfl⟩)
          | (go_at_call 16; (with_reducible refine (cpg _ hAll).mono ?_); rintro e w' ⟨rfl, rfl⟩)
          | (go_at_call 14; (with_reducible refine (cof _ hAll).mono ?_); rintro e w' ⟨rfl, rfl⟩)
          | (go_at_call 18; (with_reducible refine (crn _ hAll _ (by first | exact H2.out | exact in64_mk (by omega) (by omega))).mono ?_); rintro e w3 ⟨A3, c3, rfl, hR3, hb3⟩; replace hAll := hAll.trans (hb3.mono hAll.size))
          | (go_at_call 19; (with_reducible refine (crm _ hAll _ (by first | exact H2.out | exact in64_mk (by omega) (by omega))).mono ?_); rintro e w4 ⟨A4, c4, rfl, hR4, hb4⟩; replace hAll := hAll.trans (hb4.mono hAll.size); replace hR3 := hR3.below hb4)
          | (go_at_call 17; (with_reducible refine (t_same hR3 hR4 (hle _)).mono ?_); rintro e w5 ⟨rfl, hb5⟩; replace hAll := hAll.trans (hb5.mono hAll.size))
          | (go_at_call 7; (with_reducible refine (ca _).mono ?_); rintro e w6 ⟨rfl, hb6⟩))
        go_ret
        exact ⟨rfl, HB.out.trans ((hAll.trans (hb6.mono hAll.size)).mono HB.out.size)⟩

end Go.Proofs.Ytoghahldlnhpdaa
