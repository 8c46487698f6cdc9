/- slices.Concat at spans; which spans a keeper has. -/
import Derived.Test.YtonmkanppapjjaaGreatLargeObj
import Derived.Deep.QuietTactic
import Derived.BigQuiet
namespace Go.Proofs.YtonmkanppapjjaaGreat
open Go.RowKit Go.Maps Go.Shelf
set_option linter.unusedVariables false

/-- Room for spans: a row of none. -/
def OwnRoomS (w : World) (e : Ending) (w' : World) : Prop := ∃ A c, e = .returned (.slice A 0 c) ∧ w'.ownsRow w.heap.size 50 4 (.slice A 0 c) 0 [] ∧ Below w.heap.size w w'

set_option maxRecDepth 100000 in
theorem code_sgrow (k : Nat) (w : World) (hk : k ≤ 131072) :
    Calls Tryz.prog 175 #[.slice none 0 0, .int .i64 (k : Int)] w (OwnRoomS w) := by
  obtain ⟨i0, hi, hz0, hz1, hz2⟩ := info_parts info_span
  by_cases h0 : k = 0
  · subst h0
    go_enter Tryz.func175, Tryz.ntmps175
    go_wp2
    go_ret
    exact ⟨none, 0, rfl, World.ownsRow_nil _ _ _ _, Below.refl _ _⟩
  · have hr := fun ty => Lib.run_append_nil_zeros (P := Tryz.prog) w 30 3 ty 50 i0 _ .i64 .i64 Tryz.underlying30 Tryz.underlying3 hi hz0 k (by omega) (by rw [hz1]; decide) (by omega) (by rw [hz2]; omega)
    have hge := grownCap_ge w k 0 50
    have hcm := grownCap_le_maxLen w k 0 50 (by unfold maxLen; omega)
    obtain ⟨G, hG⟩ : ∃ G, grownCap w k 0 50 = G := ⟨_, rfl⟩
    rw [hG] at hge hcm
    have hr2 : ∀ ty, ∃ W, (Builtin.append_ #[30, 3] ty #[.slice none 0 0, .int .i64 (k : Int)]).run Tryz.prog w = .ok (.slice (some ⟨w.heap.size, 0, none⟩) k G) W ∧ W.ownsRow w.heap.size 50 4 (.slice (some ⟨w.heap.size, 0, none⟩) 0 G) 0 [] ∧ Below w.heap.size w W := fun ty => by
      have h := hr ty
      rw [hG] at h
      refine ⟨_, h, ?_, (Below.refl _ _).drew.alloc (Nat.le_refl _) _⟩
      refine ⟨rfl, .inr ⟨w.heap.size, G, _, rfl, Nat.le_refl _, heap_alloc_new w.drew _, by omega, hcm, ?_, rfl⟩⟩
      simp only [Array.size_append, size_zeroCells]
      rw [← Nat.add_mul]
      show (k + (G - k)) * 4 = G * 4
      omega
    obtain ⟨W, hrun, hown, hbel⟩ := hr2 30
    have HO := hidb hown
    have HB := hidb hbel
    have hk1 : (0 : Int) < (k : Int) := by omega
    clear hr hr2 hG hown hbel
    go_enter Tryz.func175, Tryz.ntmps175
    go_wp2_with (first | (at_builtin; refine Lib.wpList_append_run _ rfl _ _ _ _ rfl _ _ rfl rfl _ _ hrun ?_))
    go_ret
    exact ⟨_, _, rfl, HO.out, HB.out⟩

set_option maxRecDepth 100000 in
set_option maxHeartbeats 2000000 in
theorem code_sconcat (N : Nat) (A1 A2 : Option Addr) (n1 c1 n2 c2 : Nat) (rs1 rs2 : List Spn) (w : World) (hN : N < w.heap.size) (h0 : w.cell? ⟨N, 0, none⟩ = some (.slice A1 n1 c1)) (h1 : w.cell? ⟨N, 1, none⟩ = some (.slice A2 n2 c2))
    (hs1 : Sn w w.heap.size A1 n1 rs1) (hs2 : Sn w w.heap.size A2 n2 rs2) (hn1 : n1 ≤ 65536) (hn2 : n2 ≤ 65536) :
    Calls Tryz.prog 134 #[.slice (some ⟨N, 0, none⟩) 2 2] w (OwnSpans w (rs1 ++ rs2)) := by
  obtain ⟨i0, hi, hz0, hz1, hz2⟩ := info_parts info_span
  have l1 : rs1.length = n1 := hs1.1
  have l2 : rs2.length = n2 := hs2.1
  have cg := code_sgrow (n1 + n2) w (by omega)
  rw [Int.natCast_add] at cg
  have nil0 : ∀ (A : Option Addr) (n : Nat) (rs : List Spn), Sn w w.heap.size A n rs → A = none → n = 0 := fun A n rs hs e => by
    refine Nat.eq_zero_of_not_pos fun h => ?_
    obtain ⟨b, off, e2, _⟩ := hs.2 h
    rw [e] at e2; cases e2
  have HA1 : Hid (A1 = none → n1 = 0) := hidb (fun e => nil0 A1 n1 rs1 hs1 e)
  have HA2 : Hid (A2 = none → n2 = 0) := hidb (fun e => nil0 A2 n2 rs2 hs2 e)
  have HC1 : Hid (∀ W, Below w.heap.size w W → CellsAt W A1 (cellsAll scells rs1)) := hidb (fun W hb => Sn.cellsAt (RowOf.below hs1 hb))
  have HC2 : Hid (∀ W, Below w.heap.size w W → CellsAt W A2 (cellsAll scells rs2)) := hidb (fun W hb => Sn.cellsAt (RowOf.below hs2 hb))
  have HQ : Hid (∀ W, Below w.heap.size w W → W.cell? ⟨N, 0, none⟩ = some (.slice A1 n1 c1) ∧ W.cell? ⟨N, 1, none⟩ = some (.slice A2 n2 c2)) := hidb (fun W hb => by
    rw [hb.cell (p := ⟨N, 0, none⟩) hN, hb.cell (p := ⟨N, 1, none⟩) hN]; exact ⟨h0, h1⟩)
  have HL1 := hidb l1
  have HL2 := hidb l2
  have o1 := hidb (scells_one (l := rs1))
  have o2 := hidb (scells_one (l := rs2))
  clear hs1 hs2 l1 l2 nil0
  go_enter Tryz.func134, Tryz.ntmps134
  go_wp2
  refine wp_loop_rounds 3 ?_
  rw [rounds_succ]
  go_wp2
  rw [rounds_succ]
  go_wp2
  rw [rounds_succ]
  go_wp2_with (first | (go_at_call 175; (with_reducible refine cg.mono ?_); rintro e w1 ⟨A3, c3, rfl, hown3, hb3⟩; obtain ⟨q0, q1⟩ := HQ.out _ hb3))
  have HO3 := hidb hown3
  have HB3 := hidb hb3
  clear hown3 hb3
  refine wp_loop_rounds 3 ?_
  rw [rounds_succ]
  go_wp2_with (first | (at_builtin; refine wpList_append_rowN _ rfl (.tmp 31) (.tmp 32) 30 rfl w.heap.size 50 i0 (.agg #[.int .i64 0, .int .i64 0, .int .i64 0, .int .i64 0]) 4 32 Tryz.underlying30 hi hz0 hz1 hz2 rfl (by decide) _ 0 [] rfl HO3.out HB3.out.size A1 n1 c1 (cellsAll scells rs1) rfl (by rw [spans_len, HL1.out]) HA1.out (HC1.out _ HB3.out) o1.out (by unfold maxLen; omega) (by omega) ?_; intro A4 c4 w4 hown4 hg4))
  rw [Nat.zero_add, List.nil_append] at hown4
  have HO4 := hidb hown4
  have HB4 : Hid (Below w.heap.size w w4) := hidb (HB3.out.grown hg4 HB3.out.size (fun k hk => (HO3.out.lt k hk).1))
  obtain ⟨r0, r1⟩ := HQ.out _ HB4.out
  clear hown4 hg4
  rw [rounds_succ]
  go_wp2_with (first | (at_builtin; refine wpList_append_rowN _ rfl (.tmp 31) (.tmp 32) 30 rfl w.heap.size 50 i0 (.agg #[.int .i64 0, .int .i64 0, .int .i64 0, .int .i64 0]) 4 32 Tryz.underlying30 hi hz0 hz1 hz2 rfl (by decide) _ n1 (cellsAll scells rs1) rfl HO4.out HB4.out.size A2 n2 c2 (cellsAll scells rs2) rfl (by rw [spans_len, HL2.out]) HA2.out (HC2.out _ HB4.out) o2.out (by unfold maxLen; omega) (by omega) ?_; intro A5 c5 w5 hown5 hg5))
  have HO5 := hidb hown5
  have HB5 : Hid (Below w.heap.size w w5) := hidb (HB4.out.grown hg5 HB4.out.size (fun k hk => (HO4.out.lt k hk).1))
  clear hown5 hg5
  rw [rounds_succ]
  go_wp2
  go_ret
  refine ⟨A5, c5, ?_, ?_, HB5.out⟩
  · rw [List.length_append, HL1.out, HL2.out]; rfl
  · rw [List.length_append, HL1.out, HL2.out, cellsAll_append]; exact HO5.out

theorem enters_same : ∀ args w, (callFunc 131 args).run Tryz.prog w = .ok (.enter 131 args) w := enters_of Tryz.func131 (by kernel_rfl) rfl
theorem enters_has : ∀ args w, (callFunc 135 args).run Tryz.prog w = .ok (.enter 135 args) w := enters_of Tryz.func135 (by kernel_rfl) rfl
theorem any_eq_mem (l : List Spn) (s : Spn) : (l.any fun x => decide (x = s)) = decide (s ∈ l) := by
  rw [Bool.eq_iff_iff, List.any_eq_true, decide_eq_true_iff]
  constructor
  · rintro ⟨x, hx, e⟩; rw [← of_decide_eq_true e]; exact hx
  · intro h; exact ⟨s, h, decide_eq_true rfl⟩
/-- Is a span in a row? -/
theorem code_sin (t : Nat) (o : Spn) (A : Option Addr) (n c : Nat) (ds : List Spn) (w : World) (hs : Sn w w.heap.size A n ds) (hn : n ≤ 4611686018427387903) (ht : SpAt w t o) :
    Calls Tryz.prog 85 #[.slice A n c, .func (.func 131) #[] #[.pointer (some ⟨t, 0, none⟩)]] w fun e w' => e = .returned (.bool (decide (o ∈ ds))) ∧ Below w.heap.size w w' := by
  have := code_scont 131 #[.pointer (some ⟨t, 0, none⟩)] enters_same (fun s => decide (s = o)) A n c ds w hs hn (fun W hb k _ => code_same1 k t o W (ht.below hb ht.lt))
  rw [any_eq_mem] at this
  exact this

/-- Is a span among those of the row that lies in a block? -/
theorem code_has1 (t : Nat) (s : Spn) (A : Option Addr) (n c : Nat) (ds : List Spn) (w : World) (hs : Sn w w.heap.size A n ds) (hn : n ≤ 65536) (hc : w.cell? ⟨t, 0, none⟩ = some (.slice A n c)) :
    Calls Tryz.prog 135 #[spv s, .pointer (some ⟨t, 0, none⟩)] w fun e w' => e = .returned (.bool (decide (s ∈ ds))) ∧ Below w.heap.size w w' := by
  obtain ⟨s1, s2, s3, s4⟩ := s
  have htl := lt_of_cell hc
  obtain ⟨W0, hW0⟩ : ∃ W0, W0 = w.alloc (.cells #[.int .i64 s1, .int .i64 s2, .int .i64 s3, .int .i64 s4] 50) := ⟨_, rfl⟩
  have HB0 : Hid (Below w.heap.size w W0) := hidb (by rw [hW0]; exact (Below.refl _ _).alloc (Nat.le_refl _) _)
  have hzz : W0.heap.size = w.heap.size + 1 := by rw [hW0]; simp
  have HX : Hid (∀ W, Below W0.heap.size W0 W → W.cell? ⟨t, 0, none⟩ = some (.slice A n c) ∧ W.cell? ⟨w.heap.size, 0, none⟩ = some (.int .i64 s1) ∧ W.cell? ⟨w.heap.size, 1, none⟩ = some (.int .i64 s2) ∧ W.cell? ⟨w.heap.size, 2, none⟩ = some (.int .i64 s3) ∧ W.cell? ⟨w.heap.size, 3, none⟩ = some (.int .i64 s4)) := hidb (fun W hb => by
    have h1 : SpAt W w.heap.size (s1, s2, s3, s4) := by
      rw [hW0] at hb
      exact (SpAt.new_ w (s1, s2, s3, s4) 50).below hb (by simp)
    exact ⟨((HB0.out.trans (hb.mono (by omega))).cell (p := ⟨t, 0, none⟩) htl).trans hc, h1⟩)
  have CS : Hid (∀ W, Below W0.heap.size W0 W → Calls Tryz.prog 82 #[.agg #[.int .i64 s1, .int .i64 s2, .int .i64 s3, .int .i64 s4]] W fun e w' => e = .returned (.func (.func 131) #[] #[.pointer (some ⟨W.heap.size, 0, none⟩)]) ∧ Below W0.heap.size W0 w' ∧ SpAt w' W.heap.size (s1, s2, s3, s4)) := hidb (fun W hb => by
    refine (code_same (s1, s2, s3, s4) W).mono ?_
    rintro e w' ⟨rfl, rfl⟩
    exact ⟨rfl, bel_al2 hb _, SpAt.new_ W (s1, s2, s3, s4) _⟩)
  have CI : Hid (∀ W b, Below W0.heap.size W0 W → SpAt W b (s1, s2, s3, s4) → Calls Tryz.prog 85 #[.slice A n c, .func (.func 131) #[] #[.pointer (some ⟨b, 0, none⟩)]] W fun e w' => e = .returned (.bool (decide ((s1, s2, s3, s4) ∈ ds))) ∧ Below W0.heap.size W0 w') := hidb (fun W b hb hsp => by
    have hb2 := HB0.out.trans (hb.mono (by omega))
    refine (code_sin b (s1, s2, s3, s4) A n c ds W (RowOf.more (RowOf.below hs hb2) hb2.size) (by omega) hsp).mono ?_
    rintro e w' ⟨rfl, h⟩
    exact ⟨rfl, bel_tr2 hb h⟩)
  obtain ⟨r, hr⟩ : ∃ r, decide ((s1, s2, s3, s4) ∈ ds) = r := ⟨_, rfl⟩
  rw [hr] at CI ⊢
  have HW0 := hidb hW0
  unfold spv
  simp only
  clear hr hs hc hW0 hzz
  go_enter Tryz.func135, Tryz.ntmps135
  go_wp2
  rw [← HW0.out]
  obtain ⟨c0, c1, c2, c3, c4⟩ := HX.out W0 (Below.refl _ _)
  go_region_held3 (fun W => W.cell? ⟨t, 0, none⟩ = some (.slice A n c) ∧ W.cell? ⟨w.heap.size, 0, none⟩ = some (.int .i64 s1) ∧ W.cell? ⟨w.heap.size, 1, none⟩ = some (.int .i64 s2) ∧ W.cell? ⟨w.heap.size, 2, none⟩ = some (.int .i64 s3) ∧ W.cell? ⟨w.heap.size, 3, none⟩ = some (.int .i64 s4))
    (with_reducible exact HX.out _ (by repeat (first | with_reducible exact Below.refl _ _ | with_reducible exact Hid.out (by assumption) | with_reducible apply bel_al2 | with_reducible apply bel_dr2)))
    (first
      | (go_at_call 82; ((with_reducible refine (CS.out _ (by repeat (first | with_reducible exact Below.refl _ _ | with_reducible apply bel_al2 | with_reducible apply bel_dr2))).mono ?_); rintro e w1 ⟨rfl, hb1, hsp1⟩; have HB1 := hidb hb1; have HSP1 : Hid (SpAt w1 W0.heap.size (s1, s2, s3, s4)) := hidb hsp1; clear hb1 hsp1))
      | (go_at_call 85; ((with_reducible refine (CI.out _ _ HB1.out HSP1.out).mono ?_); rintro e w2 ⟨rfl, hb2⟩; have HB2 := hidb hb2; clear hb2)))
  go_wp2
  go_ret
  exact ⟨rfl, HB0.out.trans (HB2.out.mono HB0.out.size)⟩

/-- What has answers: a function that tells whether a span is among these. -/
def HasIs (w : World) (l : List Spn) (e : Ending) (w' : World) : Prop := ∃ t A n c, e = .returned (.func (.func 135) #[] #[.pointer (some ⟨t, 0, none⟩)]) ∧ w'.cell? ⟨t, 0, none⟩ = some (.slice A n c) ∧ Sn w' w'.heap.size A n l ∧ Below w.heap.size w w'
theorem code_khas {w : World} {kv hp K V : Option Addr} {kc vc : Nat} {kept waits : List Spn} {held : Bool} (h : PartsOf w kv hp K kc V vc kept waits held) :
    Calls Tryz.prog 86 #[.pointer kv] w (HasIs w (kept ++ waits)) := by
  have HP := hidb h
  have f1 := @field_k1
  have f2 := @field_k2
  have ks := h.ks
  have vs := h.vs
  have HCAT : Hid (∀ w2, Below w.heap.size w w2 → Calls Tryz.prog 134 #[.slice (some ⟨w2.heap.size, 0, none⟩) 2 2] (w2.alloc (.cells #[.slice K kept.length kc, .slice V waits.length vc] 30)) fun e w' => ∃ A n c, e = .returned (.slice A n c) ∧ Hid (HasIs w (kept ++ waits) (.returned (.func (.func 135) #[] #[.pointer (some ⟨w'.heap.size, 0, none⟩)])) (w'.alloc (.cells #[.slice A n c] 30)))) := hidb (fun w2 hb => by
    have hb2 := bel_al2 hb (.cells #[.slice K kept.length kc, .slice V waits.length vc] 30)
    refine (code_sconcat w2.heap.size K V kept.length kc waits.length vc kept waits _ (by simp) (by simp) (by simp) (RowOf.more (RowOf.below HP.out.kn hb2) hb2.size) (RowOf.more (RowOf.below HP.out.vn hb2) hb2.size) (by omega) (by omega)).mono ?_
    rintro e w' ⟨A, c, rfl, h1, h2⟩
    have hb3 : Below w'.heap.size w' (w'.alloc (.cells #[.slice A (kept ++ waits).length c] 30)) := (Below.refl _ _).alloc (Nat.le_refl _) _
    have hs := RowOf.of_own scells_len h1 rfl
    exact ⟨A, _, c, rfl, hidb ⟨w'.heap.size, A, _, c, rfl, by simp, RowOf.more (RowOf.below hs hb3) hb3.size, bel_tr2 (bel_tr2 hb2 h2) hb3⟩⟩)
  obtain ⟨kl, hkl⟩ : ∃ kl, kept.length = kl := ⟨_, rfl⟩
  obtain ⟨vl, hvl⟩ : ∃ vl, waits.length = vl := ⟨_, rfl⟩
  have HCP : Hid (∀ W, Below w.heap.size w W → Calls Tryz.prog 79 #[.pointer kv] W fun e w' => e = .returned (.agg #[.pointer hp, .slice K kl kc, .slice V vl vc, .bool held]) ∧ Below w.heap.size w w') := hidb (fun W hb => by
    refine (HP.out.call W hb).mono ?_
    rw [hkl, hvl]
    rintro e w' ⟨rfl, h⟩
    exact ⟨rfl, bel_tr2 hb h⟩)
  rw [hkl, hvl] at HCAT
  clear hkl hvl h HP ks vs
  go_enter Tryz.func86, Tryz.ntmps86
  have hb0 := Below.refl w.heap.size w
  go_wp2_with (first
    | (go_at_call 79; (with_reducible refine (HCP.out _ hb0).mono ?_); rintro e w1 ⟨rfl, hb1⟩; clear hb0; have hb0 := hb1; clear hb1)
    | (go_at_call 134; (with_reducible refine (HCAT.out _ hb0).mono ?_); rintro e w3 ⟨A, n, c, rfl, hx⟩))
  go_ret
  exact hx.out

end Go.Proofs.YtonmkanppapjjaaGreat
