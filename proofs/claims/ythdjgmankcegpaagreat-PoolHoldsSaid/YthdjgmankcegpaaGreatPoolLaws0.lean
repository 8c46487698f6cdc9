/- What layer 9's statements have in common: a heap, an arena and their pool; the document's example. -/
import Derived.Test.YthdjgmankcegpaaGreatPoolNew
namespace Go.Proofs.YthdjgmankcegpaaGreat
open Go.RowKit
set_option linter.unusedVariables false

/-- made: a heap, an arena, and their pool. -/
theorem code_made (pages : Int) (w : World) (h0 : 4 ≤ pages) (h1 : pages ≤ 1024) : ∃ F ws, hNew pages = (⟨pages, F, [], 0⟩, 0) ∧
    Calls Tryz.prog 9 #[.int .i64 pages] w fun e w' => ∃ hp ap p S, e = .returned (.tuple #[.pointer (some ⟨hp, 0, none⟩), .pointer (some ⟨ap, 0, none⟩), .pointer (some ⟨p, 0, none⟩)]) ∧ PoolSt w w' p hp S ⟨⟨pages, F, [], 0⟩, ws, false, []⟩ 0 pages := by
  obtain ⟨F, e1, c1⟩ := t_hnew pages w h0 h1
  obtain ⟨n, rfl⟩ : ∃ n : Nat, pages = n := ⟨pages.toNat, by omega⟩
  obtain ⟨ws, hws⟩ : ∃ ws, List.replicate (64 * n) 0 = ws := ⟨_, rfl⟩
  have hwide : Wide ws := fun x hx => by rw [← hws] at hx; rw [(List.mem_replicate.1 hx).2]; decide
  refine ⟨F, ws, e1, ?_⟩
  have C2 : Hid (∀ W, Calls Tryz.prog 33 #[.int .i64 (n : Int)] W fun e w' => ∃ p g, e = .returned (.tuple #[.pointer (some ⟨p, 0, none⟩), .int .i64 0]) ∧ Ar w' W.heap.size p g (64 * n) ws ∧ Below W.heap.size W w') := hidb (fun W => by
    have := code_anew n W (by omega) (by omega)
    rw [hws] at this
    exact this)
  have C3 : Hid (∀ w1 w2 hp ap g Sh, HeapSt w w1 hp Sh ⟨(n : Int), F, [], 0⟩ 0 n → Ar w2 w1.heap.size ap g (64 * n) ws → Below w1.heap.size w1 w2 → Calls Tryz.prog 34 #[.pointer (some ⟨hp, 0, none⟩), .pointer (some ⟨ap, 0, none⟩)] w2 fun e w' => ∃ p S, e = .returned (.pointer (some ⟨p, 0, none⟩)) ∧ PoolSt w w' p hp S ⟨⟨(n : Int), F, [], 0⟩, ws, false, []⟩ 0 n) := hidb (fun w1 w2 hp ap g Sh hh ha hb => by
    have hSl := hh.hp.lt
    have hge := ha.ge
    have hgg := ha.geg
    have k := hh.hp.below hb
    refine (code_pnew k (ha.more (Nat.zero_le _)) (by show ((64 * n : Nat) : Int) = 64 * (n : Int); omega) hwide (fun h => by have := hSl _ h; omega) (fun h => by have := hSl _ h; omega)).mono ?_
    rintro e w' ⟨p, mb, rfl, q1, q2, q3, q4, q5⟩
    have hb1 := hh.bel.size
    have hb2 := hb.size
    refine ⟨p, PlS Sh p ap g mb [], rfl, ⟨Sh, ap, g, mb, _, _, _, q1, q2, fun b h => h⟩, q1.lt, fun b h => ?_, (hh.bel.trans (hb.mono hb1)).trans (q3.mono (by omega)), Int.le_refl _, rfl⟩
    rcases h with h | h | h | h | h | ⟨c, hc, _⟩
    · exact hh.low b h
    · omega
    · omega
    · omega
    · omega
    · cases hc)
  clear e1 hws hwide
  go_enter Tryz.func9, Tryz.ntmps9
  go_wp2_with (first
    | (go_at_call 32; (with_reducible refine c1.mono ?_); rintro e w1 ⟨hp, Sh, rfl, s1⟩; have S1 := hidb s1; clear s1)
    | (go_at_call 33; (with_reducible refine (C2.out _).mono ?_); rintro e w2 ⟨ap, g, rfl, ha, hb2⟩; have c3 := C3.out _ _ _ _ _ _ S1.out ha hb2; clear ha hb2)
    | (go_at_call 34; (with_reducible refine c3.mono ?_); rintro e w3 ⟨p, S, rfl, s3⟩; have S3 := hidb s3; clear s3))
  exact bodyPost_ret (v := .tuple #[.pointer (some ⟨hp, 0, none⟩), .pointer (some ⟨ap, 0, none⟩), .pointer (some ⟨p, 0, none⟩)]) (by simp [results, Tryz.results9, go_sem]) rfl ⟨hp, ap, p, S, rfl, S3.out⟩
theorem code_made_no (pages : Int) (w : World) (hp : in64 pages) (h : pages < 4 ∨ 1024 < pages) :
    Calls Tryz.prog 9 #[.int .i64 pages] w fun e w' => e = .returned (.tuple #[.pointer none, .pointer none, .pointer none]) ∧ Below w.heap.size w w' := by
  have c1 := code_hnew_no pages w h
  have c2 := fun W => code_anew_no pages W h
  go_enter Tryz.func9, Tryz.ntmps9
  go_wp2_with (first
    | (go_at_call 32; (with_reducible refine c1.mono ?_); rintro e w1 ⟨rfl, rfl⟩)
    | (go_at_call 33; (with_reducible refine (c2 _).mono ?_); rintro e w2 ⟨rfl, rfl⟩))
  exact bodyPost_ret (v := .tuple #[.pointer none, .pointer none, .pointer none]) (by simp [results, Tryz.results9, go_sem]) rfl ⟨rfl, Below.refl _ _⟩

/-- The document's example. -/
theorem aw_make9 {F : List Bool} (hN : hNew 8 = (⟨8, F, [], 0⟩, 0)) : ∃ h', hMake ⟨8, F, [], 0⟩ 4 1 = (h', (1, 0, 4, 1), 0) := by
  obtain ⟨F', e1, _, hk⟩ := hNew_ok (pages := 8) (by omega) (by omega)
  obtain rfl : F' = F := by rw [e1] at hN; injection hN with hN _; injection hN
  have hl := hk.ends rfl
  simp only at hl
  have hb : fBest F' 4 = some (0, 8) := by
    rw [fBest_is F' (by have := hk.fl; simp only at this; omega), hl]
    rfl
  obtain ⟨g, _, _, _, e, _⟩ := hMake_yes hk (n := 4) (o := 1) (by omega) hb
  exact ⟨_, e⟩
theorem aw_blocks : pBlocks (1, 0, 4, 1) = [0, 32, 64, 96, 128, 160, 192, 224] := by decide
theorem aw_take1 {h h' : HeapV} (hm : hMake h 4 1 = (h', (1, 0, 4, 1), 0)) : pTake ⟨h, [], false⟩ 1 = (⟨h', [((1, 0, 4, 1), [32, 64, 96, 128, 160, 192, 224])], false⟩, 0, 0) := by
  rw [pTake_new (p := ⟨h, [], false⟩) (order := 1) (by omega) rfl hm, aw_blocks]; rfl
theorem aw_take2 (h' : HeapV) : pTake ⟨h', [((1, 0, 4, 1), [32, 64, 96, 128, 160, 192, 224])], false⟩ 1 = (⟨h', [((1, 0, 4, 1), [64, 96, 128, 160, 192, 224])], false⟩, 32, 0) := by
  rw [pTake_some (p := ⟨h', [((1, 0, 4, 1), [32, 64, 96, 128, 160, 192, 224])], false⟩) (order := 1) (i := 0) (c := ((1, 0, 4, 1), [32, 64, 96, 128, 160, 192, 224])) (by omega) (by show pFirst [((1, 0, 4, 1), [32, 64, 96, 128, 160, 192, 224])] 1 0 true = some 0; decide) rfl]; rfl
theorem awake9 (w : World) : Calls Tryz.prog 8 #[] w fun e w' => e = .returned (.bool true) ∧ Below w.heap.size w w' := by
  obtain ⟨F, ws, hN, c1⟩ := code_made 8 w (by omega) (by omega)
  obtain ⟨h', hM⟩ := aw_make9 hN
  have C2 : Hid (∀ W p hp S, PoolSt w W p hp S ⟨⟨8, F, [], 0⟩, ws, false, []⟩ 0 8 → Calls Tryz.prog 30 #[.pointer (some ⟨p, 0, none⟩), .int .i64 1] W fun e w' => e = .returned (.tuple #[.int .i64 0, .int .i64 0]) ∧ ∃ S' v', PoolSt w w' p hp S' v' (0 + 1) 8 ∧ v'.plain = ⟨h', [((1, 0, 4, 1), [32, 64, 96, 128, 160, 192, 224])], false⟩ ∧ ToO S W S' w') := hidb (fun W p hp S s => t_ptake s (by omega) 1 ⟨by omega, by omega⟩ _ 0 0 (aw_take1 hM))
  have C3 : Hid (∀ W p hp S v, PoolSt w W p hp S v 1 8 → v.plain = ⟨h', [((1, 0, 4, 1), [32, 64, 96, 128, 160, 192, 224])], false⟩ → Calls Tryz.prog 30 #[.pointer (some ⟨p, 0, none⟩), .int .i64 1] W fun e w' => e = .returned (.tuple #[.int .i64 32, .int .i64 0]) ∧ ∃ S' v', PoolSt w w' p hp S' v' (1 + 1) 8 ∧ v'.plain = ⟨h', [((1, 0, 4, 1), [64, 96, 128, 160, 192, 224])], false⟩ ∧ ToO S W S' w') := hidb (fun W p hp S v s hv => t_ptake s (by omega) 1 ⟨by omega, by omega⟩ _ 32 0 (by rw [hv]; exact aw_take2 h'))
  clear hN hM
  go_enter Tryz.func8, Tryz.ntmps8
  go_wp2_with (first
    | (go_at_call 9; (with_reducible refine c1.mono ?_); rintro e w1 ⟨hp, ap, p, S, rfl, s1⟩; have c2 := C2.out _ _ _ _ s1; clear s1)
    | (go_at_call 30; (with_reducible refine c2.mono ?_); rintro e w2 ⟨rfl, S', v', s2, hv2, _⟩; have c3 := C3.out _ _ _ _ _ s2 hv2; clear s2 hv2)
    | (go_at_call 30; (with_reducible refine c3.mono ?_); rintro e w3 ⟨rfl, S3, v3, s3, _, _⟩; have P := hidb s3.bel; clear s3))
  go_ret
  exact ⟨rfl, P.out⟩

end Go.Proofs.YthdjgmankcegpaaGreat
