/- New caches, and what is refused. -/
import Derived.Test.YtlcdgmjinhbncaaGreatPCacheGive0
import Derived.Test.YtlcdgmjinhbncaaGreatPCacheGive
import Derived.Test.YtlcdgmjinhbncaaGreatPRowWords
import Derived.Test.YtlcdgmjinhbncaaGreatPCacheFns
import Derived.RangeFuncBox
namespace Go.Proofs.YtlcdgmjinhbncaaGreat
open Go.RowKit Go.Maps
set_option linter.unusedVariables false

theorem info_lists : (Tryz.prog.info? 236).map (fun i => (i.zero.map Value.cells, i.size, i.bytes)) = some (some #[.int .i64 0, .int .i64 0, .int .i64 0, .int .i64 0, .int .i64 0, .int .i64 0, .int .i64 0, .int .i64 0], 8, 64) := by kernel_rfl
theorem lists_parts : ∃ i0 z, Tryz.prog.info? 236 = some i0 ∧ i0.zero = some z ∧ z.cells = #[.int .i64 0, .int .i64 0, .int .i64 0, .int .i64 0, .int .i64 0, .int .i64 0, .int .i64 0, .int .i64 0] ∧ i0.size = 8 ∧ i0.bytes = 64 := by
  have h := info_lists
  cases hi : Tryz.prog.info? 236 with
  | none => rw [hi] at h; cases h
  | some i0 =>
    rw [hi] at h
    cases hz : i0.zero with
    | none =>
      rw [Option.map_some, hz] at h
      injection h with h
      injection h with h1 _
      cases h1
    | some z =>
      rw [Option.map_some, hz] at h
      injection h with h
      injection h with h1 h2
      injection h2 with h2 h3
      injection h1 with h1
      exact ⟨i0, z, rfl, hz, h1, h2, h3⟩
theorem zero_cells {z : Array Value} (hz : z = #[.int .i64 0, .int .i64 0, .int .i64 0, .int .i64 0, .int .i64 0, .int .i64 0, .int .i64 0, .int .i64 0]) (n j : Nat) (h : j < n) : (madeCells z n).toList[j]? = some (.int .i64 0) := by
  have e : madeCells z n = (Array.range n).map (z[· % z.size]!) := rfl
  rw [e, Array.getElem?_toList, Array.getElem?_map, Array.getElem?_range, if_pos h, Option.map_some]
  congr 1
  subst hz
  have h8 : j % 8 < 8 := Nat.mod_lt _ (by decide)
  obtain ⟨r, hr⟩ : ∃ r, j % 8 = r := ⟨_, rfl⟩
  show (#[Value.int .i64 0, .int .i64 0, .int .i64 0, .int .i64 0, .int .i64 0, .int .i64 0, .int .i64 0, .int .i64 0])[j % 8]! = _
  rw [hr] at h8 ⊢
  match r, h8 with
  | 0, _ => rfl
  | 1, _ => rfl
  | 2, _ => rfl
  | 3, _ => rfl
  | 4, _ => rfl
  | 5, _ => rfl
  | 6, _ => rfl
  | 7, _ => rfl
set_option maxRecDepth 100000 in
theorem c_new {w W : World} {S : Nat → Prop} {Sh : Nat → Prop} {p hp ap g mb n m : Nat} {D : DataW Unit} {v : PoolW} {k : Nat} {pages : Int} (N : Nat) (h1 : 1 ≤ N ∧ N ≤ 16) (q1 : PlAt W Sh p hp ap g mb n m D v) (q2 : PlOk n m v) (lt : ∀ b, S b → b < W.heap.size) (hS : ∀ b, PlS Sh p ap g mb v.ks b → S b) (low : ∀ b, S b → w.heap.size ≤ b) (bel : Below w.heap.size w W) (la : v.h.last ≤ k) (pg : v.h.pages = pages) :
    Calls Tryz.prog 91 #[.int .i64 N, .pointer (some ⟨p, 0, none⟩), .pointer (some ⟨ap, 0, none⟩)] W fun e w' => ∃ F S', e = .returned (.tuple #[.pointer (some ⟨F.q, 0, none⟩), .int .i64 0]) ∧ (F.p = p ∧ F.hp = hp ∧ F.N = N ∧ F.ap = ap) ∧ CaSt F w w' S' v (List.replicate (4 * N) ((0, 0), [])) k pages := by
  obtain ⟨i0, z, hi, hz0, hz1, hz2, hz3⟩ := lists_parts
  have hd1 : decide ((N : Int) < 1) = false := decide_eq_false (by omega)
  have hd2 : decide ((16 : Int) < (N : Int)) = false := decide_eq_false (by omega)
  go_enter Tryz.func91, Tryz.ntmps91
  go_wp2_with (at_make; refine wpList_make_full W rfl _ _ 173 rfl W.heap.size 236 i0 z 8 Tryz.underlying173 hi hz0 hz2 .i64 .i64 _ _ N rfl rfl (by omega) (by omega) (by rw [hz3]; omega) (by unfold maxLen; omega) (Nat.le_refl _) ?_; intro w1 hown hgrow)
  obtain ⟨L, hL, _, _, _, hLl, hLe⟩ := own_whole hown
  have hlt : W.heap.size < w1.heap.size := (hown.lt W.heap.size rfl).2
  have hB1 : Below W.heap.size W w1 := (Below.refl _ _).grown hgrow (Nat.le_refl _) (fun k hk => by cases hk)
  have hLc : ∀ j, j < N * 8 → w1.cell? ⟨W.heap.size, j, none⟩ = some (.int .i64 0) := fun j hj => by
    have h2 := zero_cells hz1 (N * 8) j hj
    rw [hLe, List.take_of_length_le (by omega)] at h2
    exact (hL.cell j).trans h2
  have hLf : ∀ j, w1.frozen? ⟨W.heap.size, j, none⟩ = false := fun j => hL.free j
  have HFIN : Hid (∀ ob : Obj, ob = .cells #[.pointer (some ⟨p, 0, none⟩), .pointer (some ⟨ap, 0, none⟩), .slice (some ⟨W.heap.size, 0, none⟩) N N] 175 → CaSt ⟨w1.heap.size, W.heap.size, p, hp, ap, g, mb, n, N⟩ w (w1.alloc ob) (fun b => S b ∨ b = W.heap.size ∨ b = w1.heap.size) v (List.replicate (4 * N) ((0, 0), [])) k pages) := hidb (fun ob e => by
    subst e
    have hb2 : Below w1.heap.size w1 (w1.alloc (.cells #[.pointer (some ⟨p, 0, none⟩), .pointer (some ⟨ap, 0, none⟩), .slice (some ⟨W.heap.size, 0, none⟩) N N] 175)) := (Below.refl _ _).alloc (Nat.le_refl _) _
    have hbw := bel.size
    have hz9 := hB1.size
    have hrep : ∀ (i : Nat) c, (List.replicate (4 * N) (((0, 0), []) : CL))[i]? = some c → i < 4 * N ∧ c = ((0, 0), []) := fun i c h => by
      have h3 := (List.getElem?_eq_some_iff.1 h).1
      rw [List.length_replicate] at h3
      rw [List.getElem?_replicate, if_pos h3] at h
      exact ⟨h3, (Option.some.inj h).symm⟩
    have hcr : ∀ j, (w1.alloc (.cells #[.pointer (some ⟨p, 0, none⟩), .pointer (some ⟨ap, 0, none⟩), .slice (some ⟨W.heap.size, 0, none⟩) N N] 175)).cell? ⟨W.heap.size, j, none⟩ = w1.cell? ⟨W.heap.size, j, none⟩ := fun j => hb2.cell (p := ⟨W.heap.size, j, none⟩) hlt
    refine ⟨⟨Sh, m, D, (q1.below hB1).below hb2, q2, fun b hb => ⟨Or.inl (hS b hb), fun e => ?_, fun e => ?_⟩⟩, ⟨fun c hc => ?_, fun i c hi x hx => ?_, fun i j c d hi hj hne x hx => ?_⟩, World.cell?_alloc_at _ _ _ 0 (by simp), World.cell?_alloc_at _ _ _ 1 (by simp), World.cell?_alloc_at _ _ _ 2 (by simp), fun i c hi => ?_, fun j => ?_, List.length_replicate .., ?_, h1, Or.inr (Or.inr rfl), Or.inr (Or.inl rfl), fun b hb => ?_, fun b hb => ?_, (bel.trans (hB1.mono bel.size)).trans (hb2.mono (Nat.le_trans hbw hz9)), la, pg⟩
    · have h3 := lt b (hS b hb)
      have e2 : b = w1.heap.size := e
      omega
    · have h3 := lt b (hS b hb)
      have e2 : b = W.heap.size := e
      omega
    · obtain ⟨i, hi⟩ := List.getElem?_of_mem hc
      obtain ⟨_, rfl⟩ := hrep i c hi
      exact cList_iff.2 ⟨rfl, List.nodup_nil, rfl⟩
    · obtain ⟨_, rfl⟩ := hrep i c hi
      cases hx
    · obtain ⟨_, rfl⟩ := hrep i c hi
      cases hx
    · obtain ⟨h4, rfl⟩ := hrep i c hi
      exact ⟨(hcr _).trans (hLc _ (by omega)), (hcr _).trans (hLc _ (by omega))⟩
    · exact (hb2.frozen (p := ⟨W.heap.size, j, none⟩) hlt).trans (hLf j)
    · show w1.heap.size ≠ W.heap.size
      omega
    · rw [World.size_alloc]
      rcases hb with h | h | h
      · have := lt b h; omega
      · omega
      · omega
    · rcases hb with h | h | h
      · exact low b h
      · omega
      · omega)
  clear hL hLe hown hgrow hLc hLf
  refine bodyPost_ret (v := .tuple #[.pointer (some ⟨w1.heap.size, 0, none⟩), .int .i64 0]) (by simp [results, Tryz.results91, go_sem]) rfl ?_
  exact ⟨⟨w1.heap.size, W.heap.size, p, hp, ap, g, mb, n, N⟩, _, rfl, ⟨rfl, rfl, rfl, rfl⟩, HFIN.out _ rfl⟩

end Go.Proofs.YtlcdgmjinhbncaaGreat
/- What layer 11's statements have in common: a heap, its pool, and caches; the document's example. -/
namespace Go.Proofs.YtlcdgmjinhbncaaGreat
open Go.RowKit
set_option linter.unusedVariables false

theorem code_made11 (pages : Int) (N : Nat) (w : World) (h0 : 4 ≤ pages) (h1 : pages ≤ 1024) (hN1 : 1 ≤ N ∧ N ≤ 16) : ∃ F ws, hNew pages = (⟨pages, F, [], 0⟩, 0) ∧
    Calls Tryz.prog 31 #[.int .i64 pages, .int .i64 N] w fun e w' => ∃ (C : CaF) (S : Nat → Prop), e = .returned (.tuple #[.pointer (some ⟨C.hp, 0, none⟩), .pointer (some ⟨C.p, 0, none⟩), .pointer (some ⟨C.q, 0, none⟩)]) ∧ C.N = N ∧ Hid (CaSt C w w' S ⟨⟨pages, F, [], 0⟩, ws, false, []⟩ (List.replicate (4 * N) ((0, 0), [])) 0 pages) := by
  obtain ⟨F, e1, c1⟩ := t_hnew pages w h0 h1
  obtain ⟨n, rfl⟩ : ∃ n : Nat, pages = n := ⟨pages.toNat, by omega⟩
  obtain ⟨ws, hws⟩ : ∃ ws, List.replicate (64 * n) 0 = ws := ⟨_, rfl⟩
  have hwide : Wide ws := fun x hx => by rw [← hws] at hx; rw [(List.mem_replicate.1 hx).2]; decide
  refine ⟨F, ws, e1, ?_⟩
  have C2 : Hid (∀ W, Calls Tryz.prog 62 #[.int .i64 (n : Int)] W fun e w' => ∃ p g, e = .returned (.tuple #[.pointer (some ⟨p, 0, none⟩), .int .i64 0]) ∧ Ar w' W.heap.size p g (64 * n) ws ∧ Below W.heap.size W w') := hidb (fun W => by
    have := code_anew n W (by omega) (by omega)
    rw [hws] at this
    exact this)
  have C3 : Hid (∀ w1 w2 hp ap g Sh, HeapSt w w1 hp Sh ⟨(n : Int), F, [], 0⟩ 0 n → Ar w2 w1.heap.size ap g (64 * n) ws → Below w1.heap.size w1 w2 → Calls Tryz.prog 63 #[.pointer (some ⟨hp, 0, none⟩), .pointer (some ⟨ap, 0, none⟩)] w2 fun e w' => ∃ p, e = .returned (.pointer (some ⟨p, 0, none⟩)) ∧
      Calls Tryz.prog 91 #[.int .i64 N, .pointer (some ⟨p, 0, none⟩), .pointer (some ⟨ap, 0, none⟩)] w' fun e w4 => ∃ (C : CaF) (S : Nat → Prop), e = .returned (.tuple #[.pointer (some ⟨C.q, 0, none⟩), .int .i64 0]) ∧ (hp = C.hp ∧ p = C.p ∧ C.N = N) ∧ Hid (CaSt C w w4 S ⟨⟨(n : Int), F, [], 0⟩, ws, false, []⟩ (List.replicate (4 * N) ((0, 0), [])) 0 n)) := hidb (fun w1 w2 hp ap g Sh hh ha hb => by
    have hSl := hh.hp.lt
    have hge := ha.ge
    have hgg := ha.geg
    have k := hh.hp.below hb
    refine (code_pnew k (ha.more (Nat.zero_le _)) (by show ((64 * n : Nat) : Int) = 64 * (n : Int); omega) hwide (fun h => by have := hSl _ h; omega) (fun h => by have := hSl _ h; omega)).mono ?_
    rintro e w' ⟨p, mb, rfl, q1, q2, q3, q4, q5⟩
    have hb1 := hh.bel.size
    have hb2 := hb.size
    refine ⟨p, rfl, (c_new (w := w) (S := PlS Sh p ap g mb []) (k := 0) (pages := (n : Int)) N hN1 q1 q2 q1.lt (fun b h => h) (fun b h => ?_) ((hh.bel.trans (hb.mono hb1)).trans (q3.mono (by omega))) (Int.le_refl _) rfl).mono ?_⟩
    · rcases h with h | h | h | h | h | ⟨c, hc, _⟩
      · exact hh.low b h
      · omega
      · omega
      · omega
      · omega
      · cases hc
    · rintro e w4 ⟨C, S, rfl, ⟨x1, x2, x3, _⟩, hs⟩
      exact ⟨C, S, rfl, ⟨x2.symm, x1.symm, x3⟩, hidb hs⟩)
  clear e1 hws hwide
  go_enter Tryz.func31, Tryz.ntmps31
  go_wp2_with (first
    | (go_at_call 61; (with_reducible refine c1.mono ?_); rintro e w1 ⟨hp, Sh, rfl, s1⟩; have S1 := hidb s1; clear s1)
    | (go_at_call 62; (with_reducible refine (C2.out _).mono ?_); rintro e w2 ⟨ap, g, rfl, ha, hb2⟩; have c3 := C3.out _ _ _ _ _ _ S1.out ha hb2; clear ha hb2)
    | (go_at_call 63; (with_reducible refine c3.mono ?_); rintro e w3 ⟨p, rfl, c4⟩)
    | (go_at_call 91; (with_reducible refine c4.mono ?_); rintro e w4 ⟨C, S, rfl, ⟨rfl, rfl, hCN⟩, S4⟩))
  exact bodyPost_ret (v := .tuple #[.pointer (some ⟨C.hp, 0, none⟩), .pointer (some ⟨C.p, 0, none⟩), .pointer (some ⟨C.q, 0, none⟩)]) (by simp [results, Tryz.results31, go_sem]) rfl ⟨C, S, rfl, hCN, S4⟩

/-- The document's example. -/
theorem aw11_take3 (h' : HeapV) : pTake ⟨h', [((1, 0, 4, 1), [64, 96, 128, 160, 192, 224])], false⟩ 1 = (⟨h', [((1, 0, 4, 1), [96, 128, 160, 192, 224])], false⟩, 64, 0) := by
  rw [pTake_some (p := ⟨h', [((1, 0, 4, 1), [64, 96, 128, 160, 192, 224])], false⟩) (order := 1) (i := 0) (c := ((1, 0, 4, 1), [64, 96, 128, 160, 192, 224])) (by omega) (by show pFirst [((1, 0, 4, 1), [64, 96, 128, 160, 192, 224])] 1 0 true = some 0; decide) rfl]; rfl
theorem aw11_take4 (h' : HeapV) : pTake ⟨h', [((1, 0, 4, 1), [96, 128, 160, 192, 224])], false⟩ 1 = (⟨h', [((1, 0, 4, 1), [128, 160, 192, 224])], false⟩, 96, 0) := by
  rw [pTake_some (p := ⟨h', [((1, 0, 4, 1), [96, 128, 160, 192, 224])], false⟩) (order := 1) (i := 0) (c := ((1, 0, 4, 1), [96, 128, 160, 192, 224])) (by omega) (by show pFirst [((1, 0, 4, 1), [96, 128, 160, 192, 224])] 1 0 true = some 0; decide) rfl]; rfl
theorem aw11_fill {h h' : HeapV} (hm : hMake h 4 1 = (h', (1, 0, 4, 1), 0)) : caFill 8 ⟨h, [], false⟩ [] 1 = (⟨h', [((1, 0, 4, 1), [128, 160, 192, 224])], false⟩, [96, 64, 32, 0], 0) := by
  have s32 : pSize 1 = 32 := rfl
  unfold caFill
  rw [if_pos (by rw [s32]; decide), aw_take1 hm]
  simp only [if_true]
  unfold caFill
  rw [if_pos (by rw [s32]; decide), aw_take2 h']
  simp only [if_true]
  unfold caFill
  rw [if_pos (by rw [s32]; decide), aw11_take3 h']
  simp only [if_true]
  unfold caFill
  rw [if_pos (by rw [s32]; decide), aw11_take4 h']
  simp only [if_true]
  exact caFill_end (by rw [s32]; decide) _
theorem aw11 {h h' : HeapV} (hm : hMake h 4 1 = (h', (1, 0, 4, 1), 0)) : caTake ⟨h, [], false⟩ [] 1 = (⟨h', [((1, 0, 4, 1), [128, 160, 192, 224])], false⟩, [64, 32, 0], 96, 0) := by
  unfold caTake
  rw [aw11_fill hm]
theorem sl_three (W : World) (x y z : Int) (t : TypeId) : Sl (W.alloc (.cells #[.int .i64 x, .int .i64 y, .int .i64 z] t)) (W.alloc (.cells #[.int .i64 x, .int .i64 y, .int .i64 z] t)).heap.size (some ⟨W.heap.size, 0, none⟩) 3 ([x, y, z].map iv) :=
  ⟨rfl, fun _ => ⟨W.heap.size, 0, rfl, by simp, fun j hj => by
    match j, hj with
    | 0, _ => exact World.cell?_alloc_at _ _ _ 0 (by simp)
    | 1, _ => exact World.cell?_alloc_at _ _ _ 1 (by simp)
    | 2, _ => exact World.cell?_alloc_at _ _ _ 2 (by simp)⟩⟩
theorem awake11 (w : World) : Calls Tryz.prog 30 #[] w fun e w' => e = .returned (.bool true) ∧ Below w.heap.size w w' := by
  obtain ⟨F, ws, hN, c1⟩ := code_made11 8 1 w (by omega) (by omega) (by omega)
  obtain ⟨h', hM⟩ := aw_make9 hN
  have C2 : Hid (∀ W (C : CaF) S, C.N = 1 → Hid (CaSt C w W S ⟨⟨8, F, [], 0⟩, ws, false, []⟩ (List.replicate (4 * 1) ((0, 0), [])) 0 8) → Calls Tryz.prog 40 #[.pointer (some ⟨C.q, 0, none⟩), .int .i64 0, .int .i64 1] W fun e w2 => e = .returned (.tuple #[.int .i64 96, .int .i64 0]) ∧
      Calls Tryz.prog 34 #[.pointer (some ⟨C.q, 0, none⟩), .int .i64 0, .int .i64 1] w2 fun e w3 => ∃ A c, e = .returned (.slice A 3 c) ∧ Hid (Sl w3 w3.heap.size A 3 ([64, 32, 0].map iv) ∧ Below w.heap.size w w3)) := hidb (fun W C S hC s => by
    have := c_take s.out (by omega) 0 1 (by rw [hC]; decide) (by decide) (c := (0, 0)) (l := []) rfl
    rw [show caTake (PoolW.plain ⟨⟨8, F, [], 0⟩, ws, false, []⟩) [] ((1 : Nat) : Int) = _ from aw11 hM] at this
    refine this.mono ?_
    rintro e w2 ⟨rfl, S', v', c', k1, _, _⟩
    refine ⟨rfl, (c_listat k1 0 1 (by rw [hC]; decide) (by decide) (c := c') (l := [64, 32, 0]) rfl).mono ?_⟩
    rintro e w3 ⟨A, c, rfl, hP⟩
    exact ⟨A, c, rfl, hidb ⟨hP.out.1, k1.bel.trans (hP.out.2.mono k1.bel.size)⟩⟩)
  have CI : Hid (∀ w3 A c, Hid (Sl w3 w3.heap.size A 3 ([64, 32, 0].map iv) ∧ Below w.heap.size w w3) → Calls Tryz.prog 17 #[.slice A 3 c, .slice (some ⟨w3.heap.size, 0, none⟩) 3 3] (w3.alloc (.cells #[.int .i64 64, .int .i64 32, .int .i64 0] 3)) fun e w4 => e = .returned (.bool true) ∧ Hid (Below w.heap.size w w4)) := hidb (fun w3 A c P => by
    have hb : Below w3.heap.size w3 (w3.alloc (.cells #[.int .i64 64, .int .i64 32, .int .i64 0] 3)) := (Below.refl _ _).alloc (Nat.le_refl _) _
    refine (ref_bints A (some ⟨w3.heap.size, 0, none⟩) 3 c 3 3 [64, 32, 0] [64, 32, 0] _ _ _ ((P.out.1.below hb).more hb.size) (sl_three w3 64 32 0 _) (by omega) (by omega)).mono ?_
    rintro e w4 ⟨rfl, q, rfl⟩
    exact ⟨by simp, hidb (belowN (P.out.2.trans (hb.mono P.out.2.size)) q)⟩)
  have c1' : Calls Tryz.prog 31 #[.int .i64 8, .int .i64 1] w _ := c1
  clear hN hM c1
  go_enter Tryz.func30, Tryz.ntmps30
  go_wp2_with (first
    | (go_at_call 31; (with_reducible refine c1'.mono ?_); rintro e w1 ⟨C, S, rfl, hCN, s1⟩; have c2 := C2.out _ _ _ hCN s1; clear s1)
    | (go_at_call 40; (with_reducible refine c2.mono ?_); rintro e w2 ⟨rfl, c3⟩)
    | (go_at_call 34; (with_reducible refine c3.mono ?_); rintro e w3 ⟨A, c, rfl, P3⟩; have ci := CI.out _ _ c P3)
    | (go_at_call 17; (with_reducible refine ci.mono ?_); rintro e w4 ⟨rfl, P⟩))
  go_ret
  exact ⟨rfl, P.out⟩

end Go.Proofs.YtlcdgmjinhbncaaGreat
/- Layer 11's statement on the block that was given back last. -/
namespace Go.Proofs.YtlcdgmjinhbncaaGreat
open Go.RowKit
set_option linter.unusedVariables false

section
variable {w W W' : World} {p hp : Nat} {S S' : Nat → Prop} {v v' : PoolW} {k k' : Nat} {pages : Int}
end
/-- No list has more words than it may. -/
def Room (cs : List CL) : Prop := ∀ (i : Nat) d, cs[i]? = some d → d.2.length * pSize ((i % 4 : Nat) : Int) ≤ 256
section
variable {F : CaF} {w W : World} {S : Nat → Prop} {v : PoolW} {cs : List CL} {k : Nat} {pages : Int}
theorem Room.set_ {i : Nat} {d : CL} (h : Room cs) (hd : d.2.length * pSize ((i % 4 : Nat) : Int) ≤ 256) : Room (cs.set i d) := fun j e hj => by
  by_cases he : i = j
  · subst he
    by_cases hi : i < cs.length
    · rw [List.getElem?_set_self hi] at hj
      obtain rfl := Option.some.inj hj
      exact hd
    · rw [List.getElem?_eq_none (by rw [List.length_set]; omega)] at hj
      cases hj
  · rw [List.getElem?_set_ne he] at hj
    exact h j e hj
theorem caTake_room {p : PoolV} {l : List Int} {o : Int} (ho : 0 ≤ o ∧ o ≤ 3) (h : l.length * pSize o ≤ 256) : (caTake p l o).2.1.length * pSize o ≤ 256 ∧ ((caTake p l o).2.2.2 = 0 → (caTake p l o).2.1.length * pSize o < 256) := by
  have hs := pSize_16 o
  have hcons : ∀ (a : Int) (r : List Int), (a :: r).length * pSize o ≤ 256 → r.length * pSize o < 256 := fun a r h => by
    rw [List.length_cons, Nat.add_mul] at h
    omega
  unfold caTake
  cases l with
  | cons a r => exact ⟨Nat.le_of_lt (hcons a r h), fun _ => hcons a r h⟩
  | nil =>
    have hf := caFill_room 8 (p := p) (l := []) ho (by simp)
    have hn := @caFill_some p o
    simp only
    split
    · exact ⟨by simp, fun _ => by simp⟩
    · rename_i a r e
      rw [e] at hf
      exact ⟨Nat.le_of_lt (hcons a r hf), fun _ => hcons a r hf⟩
/-- A row that lies in none of these blocks. -/
def RowK (W : World) (S : Nat → Prop) (A : Option Addr) (n : Nat) (xs : List Value) : Prop := Sl W W.heap.size A n xs ∧ (0 < n → ∀ a, A = some a → ¬ S a.block ∧ a.block < W.heap.size)
theorem RowK.side {W' : World} {S' : Nat → Prop} {A : Option Addr} {n : Nat} {xs : List Value} (h : RowK W S A n xs) (hs : SideP S W S' W') : RowK W' S' A n xs := by
  rcases Nat.eq_zero_or_pos n with h0 | h0
  · subst h0
    exact ⟨⟨h.1.1, fun h => absurd h (Nat.lt_irrefl _)⟩, fun h => absurd h (Nat.lt_irrefl _)⟩
  · exact ⟨hs.sl h.1 (fun a e => (h.2 h0 a e).1), fun _ a e => ⟨hs.not (h.2 h0 a e).2 (h.2 h0 a e).1, Nat.lt_of_lt_of_le (h.2 h0 a e).2 hs.1.size⟩⟩
theorem RowK.new {W1 : World} {A : Option Addr} {n : Nat} {xs : List Value} (h : Sl W1 W1.heap.size A n xs) (hb : ∀ a, A = some a → W.heap.size ≤ a.block) (lt : ∀ b, S b → b < W.heap.size) : RowK W1 S A n xs :=
  ⟨h, fun h0 a e => ⟨fun c => by have := lt _ c; have := hb a e; omega, by obtain ⟨b, off, e2, hbl, _⟩ := h.2 h0; rw [e] at e2; injection e2 with e2; rw [e2]; exact hbl⟩⟩
theorem order_out (s : CaSt F w W S v cs k pages) {x o : Int} (h : OutQ v.plain.l x o) : orderP v.ks x = o := by
  obtain ⟨c, hc, h1, h2, h3⟩ := h
  obtain ⟨i, hi⟩ := List.getElem?_of_mem hc
  obtain ⟨sp, r⟩ := c
  rw [← h3]
  exact orderP_of (s.pool.pok.of_at hi h1) hi h2
theorem give_again (s : CaSt F w W S v cs k pages) {x : Int} {o : Int} {r : List Int} (h1 : OutQ v.plain.l x o) (h2 : ∀ d ∈ cs, x ∉ d.2) (h3 : r.length * pSize o < 256) : caGive v (allOf cs) r o [x] = (v.plain, x :: r, 0) := by
  have e1 : caBad v.ks o [x] = false := by
    unfold caBad
    show (orderP v.ks x != o || false) = false
    rw [order_out s h1]; simp
  have e2 : caClash (allOf cs) [x] = false := by
    unfold caClash
    show (decide (x ∈ allOf cs ++ []) || false) = false
    refine Bool.or_eq_false_iff.2 ⟨decide_eq_false fun h => ?_, rfl⟩
    have h' : x ∈ allOf cs := by rcases List.mem_append.1 h with h | h; exact h; cases h
    obtain ⟨d, hd, hx⟩ := List.mem_flatMap.1 (sortI_mem.1 h')
    exact h2 d hd hx
  unfold caGive
  rw [e1, e2]
  show ((caPut o (v.plain, r) x).1, (caPut o (v.plain, r) x).2, (0 : Int)) = _
  unfold caPut
  rw [if_neg (by show ¬ 256 ≤ r.length * pSize o; omega)]
end

end Go.Proofs.YtlcdgmjinhbncaaGreat
/- Layer 11 plainly: what is out behind a Take or a Give: no more than was, and the block. No program is named here. -/
namespace Go.Proofs.YtlcdgmjinhbncaaGreat
set_option linter.unusedVariables false

theorem out_set_back {l : PL} {i : Nat} {s : Int × Int × Int × Int} {r r' : List Int} (hi : l[i]? = some (s, r)) {x o : Int} (h : OutQ (l.set i (s, r')) x o) : OutQ l x o ∨ (x ∈ pBlocks s ∧ x ∈ r ∧ x ∉ r') := by
  obtain ⟨c, hc, h1, h2, h3⟩ := h
  obtain ⟨j, hj⟩ := List.getElem?_of_mem hc
  by_cases e : i = j
  · subst e
    rw [List.getElem?_set_self (List.getElem?_eq_some_iff.1 hi).1] at hj
    obtain rfl := Option.some.inj hj
    by_cases hr : x ∈ r
    · exact Or.inr ⟨h1, hr, h2⟩
    · exact Or.inl ⟨_, List.mem_of_getElem? hi, h1, hr, h3⟩
  · rw [List.getElem?_set_ne e] at hj
    exact Or.inl ⟨c, List.mem_of_getElem? hj, h1, h2, h3⟩
/-- Behind a Take only the block is out besides. -/
theorem take_outb {p p' : PoolV} {order a : Int} (h : pTake p order = (p', a, 0)) {x q : Int} (hx : OutQ p'.l x q) : OutQ p.l x q ∨ x = a := by
  unfold pTake at h
  split at h
  · injection h with _ h; injection h with _ h; cases h
  next ho =>
  cases hf : pFirst p.l order 0 true with
  | some i =>
    rw [hf] at h
    simp only at h
    rcases pFirst_spec p.l order 0 true with ⟨e, _⟩ | ⟨b, c, e, hc, hfc, _⟩
    · rw [hf] at e; cases e
    · rw [hf] at e
      obtain rfl := Option.some.inj e
      rw [hc] at h
      simp only at h
      injection h with h1 h2
      injection h2 with h2 _
      obtain ⟨s, l⟩ := c
      subst h1
      rcases out_set_back hc hx with h3 | ⟨_, h4, h5⟩
      · exact Or.inl h3
      · cases l with
        | nil => cases h4
        | cons b r =>
          simp only [List.headD_cons, List.tail_cons] at h2 h5
          subst h2
          rcases List.mem_cons.1 h4 with e | e
          · exact Or.inr e
          · exact absurd e h5
  | none =>
    rw [hf] at h
    simp only at h
    split at h
    next he =>
      injection h with h1 h2
      injection h2 with h2 _
      subst h1
      obtain ⟨d, hd, h3, h4, h5⟩ := hx
      rcases List.mem_append.1 hd with h6 | h6
      · exact Or.inl ⟨d, h6, h3, h4, h5⟩
      · obtain rfl := List.mem_singleton.1 h6
        simp only at h3 h4
        cases hb : pBlocks (hMake p.heap 4 order).2.1 with
        | nil => rw [hb] at h3; cases h3
        | cons b r =>
          rw [hb] at h2 h3 h4
          simp only [List.headD_cons] at h2
          subst h2
          rcases List.mem_cons.1 h3 with e | e
          · exact Or.inr e
          · exact absurd e h4
    next he =>
      injection h with _ h2
      injection h2 with _ h2
      exact absurd h2 he
theorem pSweep_outb {p : PoolV} {x o : Int} (h : OutQ (pSweep p).l x o) : OutQ p.l x o := by
  unfold pSweep at h
  split at h
  · exact h
  · obtain ⟨c, hc, h1⟩ := h
    exact ⟨c, (List.mem_filter.1 hc).1, h1⟩
/-- Behind a Give of one block only it is out no more. -/
theorem give_outb {p : PoolV} (o : POk p) {x q : Int} (h : OutQ p.l x q) {y r : Int} (hy : OutQ (gGive p [x]).1.l y r) : OutQ p.l y r ∧ y ≠ x := by
  obtain ⟨⟨s, l⟩, hc, h1, h2, h3⟩ := h
  obtain ⟨i, hi⟩ := List.getElem?_of_mem hc
  have hof := o.of_at hi h1
  have hp : pPuts p.l [x] = some (p.l.set i (s, x :: l)) := by
    show pPut p.l x = _
    unfold pPut
    rw [hof]
    simp only
    rw [hi]
    simp only
    rw [if_neg h2]
  rw [gGive_yes (by simp [hof]) hp] at hy
  have hy2 : OutQ (p.l.set i (s, x :: l)) y r := pSweep_outb hy
  have hyo : OutQ p.l y r := by
    rcases out_set_back hi hy2 with h4 | ⟨_, h4, h5⟩
    · exact h4
    · exact absurd (List.mem_cons_of_mem _ h4) h5
  refine ⟨hyo, fun e => ?_⟩
  subst e
  obtain ⟨d, hd, h5, h6, _⟩ := hy2
  obtain ⟨j, hj⟩ := List.getElem?_of_mem hd
  by_cases e : i = j
  · subst e
    rw [List.getElem?_set_self (List.getElem?_eq_some_iff.1 hi).1] at hj
    obtain rfl := Option.some.inj hj
    exact h6 (List.mem_cons_self ..)
  · rw [List.getElem?_set_ne e] at hj
    have := o.of_at hj h5
    rw [hof] at this
    exact e (Option.some.inj this)
theorem POk.sweep {p : PoolV} (o : POk p) : POk (pSweep p) := by
  unfold pSweep
  split
  · exact o
  have hsub : ∀ c ∈ p.l.filter (fun c => !pWhole c), c ∈ p.l := fun c hc => (List.mem_filter.1 hc).1
  have hids := o.ids
  refine ⟨(hDrop_ok o.hok _).1, fun c hc => ?_, fun c hc => o.four c (hsub c hc), fun c hc => o.sub c (hsub c hc), fun c hc => o.nod c (hsub c hc), (List.filter_sublist.map _).nodup hids⟩
  have hcl := hsub c hc
  have hnw : pWhole c = false := by simpa using (List.mem_filter.1 hc).2
  by_cases q : ((p.l.filter pWhole).map (·.1.1)).Nodup ∧ ∀ i ∈ (p.l.filter pWhole).map (·.1.1), ∃ s ∈ p.heap.l, s.1 = i
  · obtain ⟨g, e, _⟩ := hDrop_yes o.hok q
    show c.1 ∈ (hDrop p.heap ((p.l.filter pWhole).map (·.1.1))).1.l
    rw [e]
    show c.1 ∈ hLeft p.heap.l _
    unfold hLeft
    refine List.mem_filter.2 ⟨o.mem c hcl, ?_⟩
    have hn : c.1.1 ∉ (p.l.filter pWhole).map (·.1.1) := fun hm => by
      obtain ⟨d, hd, e2⟩ := List.mem_map.1 hm
      obtain ⟨hd1, hd2⟩ := List.mem_filter.1 hd
      obtain ⟨i, hi⟩ := List.getElem?_of_mem hd1
      obtain ⟨j, hj⟩ := List.getElem?_of_mem hcl
      have := plain_inj hids hi hj e2
      subst this
      rw [hi] at hj
      obtain rfl := Option.some.inj hj
      rw [hd2] at hnw; cases hnw
    simpa using hn
  · show c.1 ∈ (hDrop p.heap ((p.l.filter pWhole).map (·.1.1))).1.l
    rw [hDrop_no o.hok q]
    exact o.mem c hcl
theorem POk.give {p : PoolV} (o : POk p) {x q : Int} (h : OutQ p.l x q) : POk (gGive p [x]).1 := by
  obtain ⟨⟨s, l⟩, hc, h1, h2, h3⟩ := h
  obtain ⟨i, hi⟩ := List.getElem?_of_mem hc
  have hof := o.of_at hi h1
  have hp : pPuts p.l [x] = some (p.l.set i (s, x :: l)) := by
    show pPut p.l x = _
    unfold pPut
    rw [hof]
    simp only
    rw [hi]
    simp only
    rw [if_neg h2]
  rw [gGive_yes (by simp [hof]) hp]
  refine POk.sweep (p := { p with l := p.l.set i (s, x :: l) }) ?_
  have hm : ∀ c ∈ p.l.set i (s, x :: l), c ∈ p.l ∨ c = (s, x :: l) := fun c hc => List.mem_or_eq_of_mem_set hc
  refine ⟨o.hok, fun c hc => ?_, fun c hc => ?_, fun c hc => ?_, fun c hc => ?_, ?_⟩
  · rcases hm c hc with h4 | rfl
    · exact o.mem c h4
    · exact o.mem (s, l) (List.mem_of_getElem? hi)
  · rcases hm c hc with h4 | rfl
    · exact o.four c h4
    · exact o.four (s, l) (List.mem_of_getElem? hi)
  · rcases hm c hc with h4 | rfl
    · exact o.sub c h4
    · intro z hz
      rcases List.mem_cons.1 hz with rfl | hz
      · exact h1
      · exact o.sub (s, l) (List.mem_of_getElem? hi) z hz
  · rcases hm c hc with h4 | rfl
    · exact o.nod c h4
    · exact List.nodup_cons.2 ⟨h2, o.nod (s, l) (List.mem_of_getElem? hi)⟩
  · show ((p.l.set i (s, x :: l)).map (·.1.1)).Nodup
    rw [List.map_set]
    have e : (p.l.map (·.1.1)).set i s.1 = p.l.map (·.1.1) := by
      apply List.ext_getElem?
      intro j
      by_cases e : i = j
      · subst e
        rw [List.getElem?_set_self (by rw [List.length_map]; exact (List.getElem?_eq_some_iff.1 hi).1), List.getElem?_map, hi]; rfl
      · rw [List.getElem?_set_ne e]
    rw [e]
    exact o.ids
end Go.Proofs.YtlcdgmjinhbncaaGreat
/- Layer 11 plainly: what is out behind the caches' calls: no more than was, and what came into the lists. No program is named here. -/
namespace Go.Proofs.YtlcdgmjinhbncaaGreat
set_option linter.unusedVariables false

theorem caFill_keeps : ∀ (f : Nat) {p : PoolV} {l : List Int} {o : Int} {x : Int}, x ∈ l → x ∈ (caFill f p l o).2.1
  | 0, _, _, _, _, h => h
  | f + 1, p, l, o, x, h => by
    unfold caFill
    split
    · split
      · exact caFill_keeps f (List.mem_cons_of_mem _ h)
      · exact h
    · exact h
theorem caFill_outb : ∀ (f : Nat) {p : PoolV} {l : List Int} {o x q : Int}, OutQ (caFill f p l o).1.l x q → OutQ p.l x q ∨ x ∈ (caFill f p l o).2.1
  | 0, _, _, _, _, _, h => Or.inl h
  | f + 1, p, l, o, x, q, h => by
    unfold caFill at h ⊢
    split at h
    next h1 =>
      rw [if_pos h1]
      split at h
      next h2 =>
        rw [if_pos h2]
        rcases caFill_outb f h with h3 | h3
        · rcases take_outb (p := p) (order := o) (p' := (pTake p o).1) (a := (pTake p o).2.1) (by rw [← h2]) h3 with h4 | h4
          · exact Or.inl h4
          · exact Or.inr (caFill_keeps f (by rw [h4]; exact List.mem_cons_self ..))
        · exact Or.inr h3
      next h2 =>
        rw [if_neg h2]
        have e := take_refused (p := p) (order := o) (p' := (pTake p o).1) (a := (pTake p o).2.1) (e := (pTake p o).2.2) rfl h2
        simp only at h
        rw [e] at h
        exact Or.inl h
    next h1 => rw [if_neg h1]; exact Or.inl h
/-- Behind a Take of the caches. -/
theorem caTake_outb {p : PoolV} {l : List Int} {o x q : Int} (h : OutQ (caTake p l o).1.l x q) : OutQ p.l x q ∨ x ∈ (caTake p l o).2.1 ∨ ((caTake p l o).2.2.2 = 0 ∧ x = (caTake p l o).2.2.1) := by
  unfold caTake at h ⊢
  cases l with
  | cons a r => exact Or.inl h
  | nil =>
    simp only at h ⊢
    cases e : (caFill 8 p [] o).2.1 with
    | nil =>
      rw [e] at h
      rcases caFill_outb 8 h with h1 | h1
      · exact Or.inl h1
      · rw [e] at h1; cases h1
    | cons a r =>
      rw [e] at h
      rcases caFill_outb 8 h with h1 | h1
      · exact Or.inl h1
      · rw [e] at h1
        rcases List.mem_cons.1 h1 with h2 | h2
        · exact Or.inr (Or.inr ⟨rfl, h2⟩)
        · exact Or.inr (Or.inl h2)
/-- To the last word: none is left, and none of them is out. -/
theorem caEmpty_all : ∀ (l : List Int) {p : PoolV} {o : Int}, POk p → (∀ x ∈ l, OutQ p.l x o) → l.Nodup → (caEmpty 0 o p l).2 = [] ∧ POk (caEmpty 0 o p l).1 ∧ ∀ y q, OutQ (caEmpty 0 o p l).1.l y q → OutQ p.l y q ∧ y ∉ l
  | [], p, o, k, _, _ => ⟨rfl, k, fun y q h => ⟨h, by simp⟩⟩
  | a :: r, p, o, k, h, hn => by
    have ha := h a (List.mem_cons_self ..)
    obtain ⟨n1, n2⟩ := List.nodup_cons.1 hn
    obtain ⟨p', e, _, hk⟩ := give_out k ha
    have k1 := POk.give k ha
    have hb := fun y q hy => @give_outb p k a o ha y q hy
    rw [e] at k1 hb
    have hpos : 0 < (r.length + 1) * pSize o := Nat.mul_pos (by omega) (by have := pSize_16 o; omega)
    rw [caEmpty_step hpos, e]
    obtain ⟨q1, q2, q3⟩ := caEmpty_all r k1 (fun x hx => hk x o (h x (List.mem_cons_of_mem _ hx)) (fun e => n1 (e ▸ hx))) n2
    refine ⟨q1, q2, fun y q hy => ?_⟩
    obtain ⟨h1, h2⟩ := q3 y q hy
    obtain ⟨h3, h4⟩ := hb y q h1
    exact ⟨h3, fun hm => by
      rcases List.mem_cons.1 hm with e | e
      · exact h4 e
      · exact h2 e⟩
end Go.Proofs.YtlcdgmjinhbncaaGreat
/- Layer 11 plainly: all of a heap's spans are the pool's, none is whole, and each block that is out is in a list or in one's own hands. No program is named here. -/
namespace Go.Proofs.YtlcdgmjinhbncaaGreat
set_option linter.unusedVariables false

theorem POk.take {p : PoolV} (o : POk p) (order : Int) : POk (pTake p order).1 := by
  unfold pTake
  split
  · exact o
  next ho =>
  cases hf : pFirst p.l order 0 true with
  | some i =>
    simp only
    cases hi : p.l[i]? with
    | none => exact o
    | some c =>
      have hcm := List.mem_of_getElem? hi
      have hm : ∀ d ∈ p.l.set i (c.1, c.2.tail), d ∈ p.l ∨ d = (c.1, c.2.tail) := fun d hd => List.mem_or_eq_of_mem_set hd
      refine ⟨o.hok, fun d hd => ?_, fun d hd => ?_, fun d hd => ?_, fun d hd => ?_, ?_⟩
      · rcases hm d hd with h | rfl
        · exact o.mem d h
        · exact o.mem c hcm
      · rcases hm d hd with h | rfl
        · exact o.four d h
        · exact o.four c hcm
      · rcases hm d hd with h | rfl
        · exact o.sub d h
        · exact fun x hx => o.sub c hcm x (List.mem_of_mem_tail hx)
      · rcases hm d hd with h | rfl
        · exact o.nod d h
        · exact (o.nod c hcm).sublist (List.tail_sublist _)
      · show ((p.l.set i (c.1, c.2.tail)).map (·.1.1)).Nodup
        have e : (p.l.set i (c.1, c.2.tail)).map (·.1.1) = p.l.map (·.1.1) := by
          have h2 := congrArg (List.map fun s : Int × Int × Int × Int => s.1) (set_fst hi c.2.tail)
          rw [List.map_map, List.map_map] at h2
          exact h2
        rw [e]; exact o.ids
  | none =>
    simp only
    split
    next he =>
      have hc : ¬ ((4 : Int) < 1 ∨ order < -1 ∨ 3 < order) := by omega
      cases hbb : fBest p.heap.free 4 with
      | none => rw [hMake_full hc hbb] at he; cases he
      | some q =>
        obtain ⟨g, _, _, _, e, hk⟩ := hMake_yes o.hok hc hbb
        rw [e]
        refine ⟨hk, fun d hd => ?_, fun d hd => ?_, fun d hd => ?_, fun d hd => ?_, ?_⟩
        · rcases List.mem_append.1 hd with h | h
          · exact List.mem_append_left _ (o.mem d h)
          · obtain rfl := List.mem_singleton.1 h
            exact List.mem_append_right _ (List.mem_singleton_self _)
        · rcases List.mem_append.1 hd with h | h
          · exact o.four d h
          · obtain rfl := List.mem_singleton.1 h
            exact ⟨rfl, by show 0 ≤ order; omega, by show order ≤ 3; omega⟩
        · rcases List.mem_append.1 hd with h | h
          · exact o.sub d h
          · obtain rfl := List.mem_singleton.1 h
            exact fun x hx => List.mem_of_mem_tail hx
        · rcases List.mem_append.1 hd with h | h
          · exact o.nod d h
          · obtain rfl := List.mem_singleton.1 h
            exact (pBlocks_nodup _).sublist (List.tail_sublist _)
        · have hmp : ∀ z : (Int × Int × Int × Int) × List Int, ((p.l ++ [z]).map (·.1.1)) = p.l.map (·.1.1) ++ [z.1.1] := fun z => by rw [List.map_append]; rfl
          refine (hmp _).symm ▸ ?_
          refine List.nodup_append.2 ⟨o.ids, by simp, fun a ha b hb e2 => ?_⟩
          obtain ⟨c, hc1, rfl⟩ := List.mem_map.1 ha
          have h1 := (o.hok.idr _ (o.mem c hc1)).2
          have h2 : b = p.heap.last + 1 := by rw [List.mem_singleton] at hb; exact hb
          omega
    next he => exact o
theorem give_form {p : PoolV} (o : POk p) {x q : Int} (h : OutQ p.l x q) : ∃ i s l, p.l[i]? = some (s, l) ∧ x ∈ pBlocks s ∧ x ∉ l ∧ s.2.2.2 = q ∧ gGive p [x] = (pSweep { p with l := p.l.set i (s, x :: l) }, 0) ∧ POk { p with l := p.l.set i (s, x :: l) } := by
  obtain ⟨⟨s, l⟩, hc, h1, h2, h3⟩ := h
  obtain ⟨i, hi⟩ := List.getElem?_of_mem hc
  have hof := o.of_at hi h1
  have hp : pPuts p.l [x] = some (p.l.set i (s, x :: l)) := by
    show pPut p.l x = _
    unfold pPut
    rw [hof]
    simp only
    rw [hi]
    simp only
    rw [if_neg h2]
  refine ⟨i, s, l, hi, h1, h2, h3, gGive_yes (by simp [hof]) hp, ?_⟩
  have hm : ∀ c ∈ p.l.set i (s, x :: l), c ∈ p.l ∨ c = (s, x :: l) := fun c hc => List.mem_or_eq_of_mem_set hc
  refine ⟨o.hok, fun c hc => ?_, fun c hc => ?_, fun c hc => ?_, fun c hc => ?_, ?_⟩
  · rcases hm c hc with h4 | rfl
    · exact o.mem c h4
    · exact o.mem (s, l) (List.mem_of_getElem? hi)
  · rcases hm c hc with h4 | rfl
    · exact o.four c h4
    · exact o.four (s, l) (List.mem_of_getElem? hi)
  · rcases hm c hc with h4 | rfl
    · exact o.sub c h4
    · intro z hz
      rcases List.mem_cons.1 hz with rfl | hz
      · exact h1
      · exact o.sub (s, l) (List.mem_of_getElem? hi) z hz
  · rcases hm c hc with h4 | rfl
    · exact o.nod c h4
    · exact List.nodup_cons.2 ⟨h2, o.nod (s, l) (List.mem_of_getElem? hi)⟩
  · show ((p.l.set i (s, x :: l)).map (·.1.1)).Nodup
    have e : (p.l.set i (s, x :: l)).map (·.1.1) = p.l.map (·.1.1) := by
      have h2 := congrArg (List.map fun s : Int × Int × Int × Int => s.1) (set_fst (c := (s, l)) hi (x :: l))
      rw [List.map_map, List.map_map] at h2
      exact h2
    rw [e]; exact o.ids
/-- All the heap's spans of this kind are the pool's; none of the pool's is whole; it isn't held. -/
structure Tidy (P : (Int × Int × Int × Int) → Prop) (p : PoolV) : Prop where
  ok : POk p
  all_ : ∀ s ∈ p.heap.l, P s → ∃ c ∈ p.l, c.1 = s
  calm : ∀ c ∈ p.l, pWhole c = false
  free : p.held = false
theorem all_sweep {P : (Int × Int × Int × Int) → Prop} {p : PoolV} (o : POk p) (a : ∀ s ∈ p.heap.l, P s → ∃ c ∈ p.l, c.1 = s) : ∀ s ∈ (pSweep p).heap.l, P s → ∃ c ∈ (pSweep p).l, c.1 = s := by
  unfold pSweep
  split
  · exact a
  have hids : ((p.l.filter pWhole).map (·.1.1)).Nodup ∧ ∀ i ∈ (p.l.filter pWhole).map (·.1.1), ∃ s ∈ p.heap.l, s.1 = i := ⟨(List.filter_sublist.map _).nodup o.ids, fun i hi => by
    obtain ⟨c, hc, rfl⟩ := List.mem_map.1 hi
    exact ⟨c.1, o.mem c (List.mem_filter.1 hc).1, rfl⟩⟩
  obtain ⟨g, e, _⟩ := hDrop_yes o.hok hids
  intro s hs hP
  have hs2 : s ∈ (hDrop p.heap ((p.l.filter pWhole).map (·.1.1))).1.l := hs
  rw [e] at hs2
  obtain ⟨h1, h2⟩ := List.mem_filter.1 (show s ∈ List.filter _ p.heap.l from hs2)
  obtain ⟨c, hc, rfl⟩ := a s h1 hP
  refine ⟨c, List.mem_filter.2 ⟨hc, ?_⟩, rfl⟩
  cases hw : pWhole c with
  | false => rfl
  | true =>
    exfalso
    have h3 : ((p.l.filter pWhole).map (·.1.1)).contains c.1.1 = true := List.contains_iff_mem.2 (List.mem_map.2 ⟨c, List.mem_filter.2 ⟨hc, hw⟩, rfl⟩)
    rw [h3] at h2
    cases h2

section
variable {P : (Int × Int × Int × Int) → Prop} {p : PoolV}
theorem Tidy.take (t : Tidy P p) (order : Int) : Tidy P (pTake p order).1 := by
  have hh : (pTake p order).1.held = false := (pTake_held p order).trans t.free
  refine ⟨t.ok.take order, ?_, Calm.take (p := p) (fun _ => t.calm) t.ok order hh, hh⟩
  unfold pTake
  split
  · exact t.all_
  next ho =>
  cases hf : pFirst p.l order 0 true with
  | some i =>
    simp only
    cases hi : p.l[i]? with
    | none => exact t.all_
    | some c =>
      intro s hs hP
      obtain ⟨d, hd, e⟩ := t.all_ s hs hP
      have h1 : s ∈ (p.l.set i (c.1, c.2.tail)).map (·.1) := by rw [set_fst hi]; exact List.mem_map.2 ⟨d, hd, e⟩
      obtain ⟨d', h2, h3⟩ := List.mem_map.1 h1
      exact ⟨d', h2, h3⟩
  | none =>
    simp only
    split
    next he =>
      intro s hs hP
      have hc : ¬ ((4 : Int) < 1 ∨ order < -1 ∨ 3 < order) := by omega
      cases hbb : fBest p.heap.free 4 with
      | none => rw [hMake_full hc hbb] at he; cases he
      | some q =>
        obtain ⟨g, _, _, _, e, _⟩ := hMake_yes t.ok.hok hc hbb
        rw [e] at hs ⊢
        rcases List.mem_append.1 hs with h1 | h1
        · obtain ⟨d, hd, e2⟩ := t.all_ s h1 hP
          exact ⟨d, List.mem_append_left _ hd, e2⟩
        · obtain rfl := List.mem_singleton.1 h1
          exact ⟨_, List.mem_append_right _ (List.mem_singleton_self _), rfl⟩
    next he => exact t.all_
theorem Tidy.give (t : Tidy P p) {x q : Int} (h : OutQ p.l x q) : Tidy P (gGive p [x]).1 := by
  obtain ⟨i, s, l, hi, h1, h2, h3, e, k⟩ := give_form t.ok h
  have hh : (gGive p [x]).1.held = false := by rw [e]; exact (pSweep_held _).trans t.free
  refine ⟨POk.give t.ok h, ?_, ?_, hh⟩
  · rw [e]
    refine all_sweep k fun s2 hs2 hP => ?_
    obtain ⟨c, hc, e2⟩ := t.all_ s2 hs2 hP
    have h4 : s2 ∈ (p.l.set i (s, x :: l)).map (·.1) := by rw [set_fst (c := (s, l)) hi]; exact List.mem_map.2 ⟨c, hc, e2⟩
    obtain ⟨d', h5, h6⟩ := List.mem_map.1 h4
    exact ⟨d', h5, h6⟩
  · rw [e] at hh ⊢
    exact Calm.sweep _ hh
theorem Tidy.fill : ∀ (f : Nat) {p : PoolV} {l : List Int} {o : Int}, Tidy P p → Tidy P (caFill f p l o).1
  | 0, _, _, _, t => t
  | f + 1, p, l, o, t => by
    unfold caFill
    split
    · split
      · exact Tidy.fill f (t.take o)
      · exact t.take o
    · exact t
theorem Tidy.caTake (t : Tidy P p) (l : List Int) (o : Int) : Tidy P (caTake p l o).1 := by
  unfold Go.Proofs.YtlcdgmjinhbncaaGreat.caTake
  cases l with
  | cons a r => exact t
  | nil =>
    simp only
    have h := Tidy.fill (l := []) (o := o) 8 t
    cases e : (caFill 8 p [] o).2.1 with
    | nil => exact h
    | cons a r => exact h
/-- What was out is so behind a filling, and what came into the list wasn't. -/
theorem caFill_old : ∀ (f : Nat) {p : PoolV} {l : List Int} {o : Int}, POk p → (∀ x q, OutQ p.l x q → OutQ (caFill f p l o).1.l x q) ∧ ∀ x ∈ (caFill f p l o).2.1, x ∈ l ∨ ∀ q, ¬ OutQ p.l x q
  | 0, _, _, _, _ => ⟨fun _ _ h => h, fun _ h => Or.inl h⟩
  | f + 1, p, l, o, k => by
    unfold caFill
    split
    · split
      next h2 =>
        obtain ⟨t1, t2, t3, _⟩ := take_out (p := p) (order := o) (p' := (pTake p o).1) (a := (pTake p o).2.1) k (k.take o) (by rw [← h2])
        obtain ⟨i1, i2⟩ := caFill_old f (p := (pTake p o).1) (l := (pTake p o).2.1 :: l) (o := o) (k.take o)
        refine ⟨fun x q h => i1 x q (t1 x q h), fun x hx => ?_⟩
        rcases i2 x hx with h | h
        · rcases List.mem_cons.1 h with e | e
          · exact Or.inr (e ▸ t3)
          · exact Or.inl e
        · exact Or.inr fun q hq => h q (t1 x q hq)
      next h2 =>
        have e := take_refused (p := p) (order := o) (p' := (pTake p o).1) (a := (pTake p o).2.1) (e := (pTake p o).2.2) rfl h2
        simp only
        rw [e]
        exact ⟨fun _ _ h => h, fun _ h => Or.inl h⟩
    · exact ⟨fun _ _ h => h, fun _ h => Or.inl h⟩
/-- .. and behind a Take of the caches. -/
theorem caTake_old {l : List Int} {o : Int} (k : POk p) : (∀ x q, OutQ p.l x q → OutQ (caTake p l o).1.l x q) ∧ (∀ x ∈ (caTake p l o).2.1, x ∈ l ∨ ∀ q, ¬ OutQ p.l x q) ∧ ((caTake p l o).2.2.2 = 0 → (caTake p l o).2.2.1 ∈ l ∨ ∀ q, ¬ OutQ p.l (caTake p l o).2.2.1 q) ∧ ∀ x ∈ l, x ∈ (caTake p l o).2.1 ∨ ((caTake p l o).2.2.2 = 0 ∧ x = (caTake p l o).2.2.1) := by
  unfold Go.Proofs.YtlcdgmjinhbncaaGreat.caTake
  cases l with
  | cons a r => exact ⟨fun _ _ h => h, fun x h => Or.inl (List.mem_cons_of_mem _ h), fun _ => Or.inl (List.mem_cons_self ..), fun x hx => by
      rcases List.mem_cons.1 hx with e | e
      · exact Or.inr ⟨rfl, e⟩
      · exact Or.inl e⟩
  | nil =>
    simp only
    obtain ⟨i1, i2⟩ := caFill_old 8 (p := p) (l := []) (o := o) k
    cases e : (caFill 8 p [] o).2.1 with
    | nil =>
      rw [e] at i2
      exact ⟨i1, i2, fun h => absurd h (caFill_some e), fun x hx => by cases hx⟩
    | cons a r =>
      rw [e] at i2
      exact ⟨i1, fun x hx => i2 x (List.mem_cons_of_mem _ hx), fun _ => i2 a (List.mem_cons_self ..), fun x hx => by cases hx⟩
/-- To any number of words. -/
theorem Tidy.empty (most : Nat) : ∀ (l : List Int) {p : PoolV} {o : Int}, Tidy P p → (∀ x ∈ l, OutQ p.l x o) → l.Nodup → Tidy P (caEmpty most o p l).1 ∧ (∀ y q, OutQ (caEmpty most o p l).1.l y q → OutQ p.l y q ∧ (y ∈ l → y ∈ (caEmpty most o p l).2)) ∧ (∀ y q, OutQ p.l y q → (y ∈ l → y ∈ (caEmpty most o p l).2) → OutQ (caEmpty most o p l).1.l y q) ∧ ∀ y ∈ (caEmpty most o p l).2, y ∈ l
  | [], p, o, t, _, _ => ⟨t, fun y q h => ⟨h, fun h => (by cases h)⟩, fun y q h _ => h, fun y h => h⟩
  | a :: r, p, o, t, h, hn => by
    by_cases hm : most < (r.length + 1) * pSize o
    · have ha := h a (List.mem_cons_self ..)
      obtain ⟨n1, n2⟩ := List.nodup_cons.1 hn
      obtain ⟨p', e, _, hk⟩ := give_out t.ok ha
      have t1 := t.give ha
      have hb := fun y q hy => @give_outb p t.ok a o ha y q hy
      rw [e] at t1 hb
      rw [caEmpty_step hm, e]
      obtain ⟨q1, q2, q3, q4⟩ := Tidy.empty most r t1 (fun x hx => hk x o (h x (List.mem_cons_of_mem _ hx)) (fun e => n1 (e ▸ hx))) n2
      refine ⟨q1, fun y q hy => ?_, fun y q hy hy2 => ?_, fun y hy => List.mem_cons_of_mem _ (q4 y hy)⟩
      · obtain ⟨h1, h2⟩ := q2 y q hy
        obtain ⟨h3, h4⟩ := hb y q h1
        exact ⟨h3, fun hc => (List.mem_cons.1 hc).elim (fun e => absurd e h4) h2⟩
      · refine q3 y q (hk y q hy fun e => ?_) fun hc => hy2 (List.mem_cons_of_mem _ hc)
        subst e
        exact n1 (q4 _ (hy2 (List.mem_cons_self ..)))
    · rw [caEmpty_end (l := a :: r) hm]
      exact ⟨t, fun y q h => ⟨h, fun h => h⟩, fun y q h _ => h, fun y h => h⟩
end
end Go.Proofs.YtlcdgmjinhbncaaGreat
/- Layer 11 plainly: whatever is taken, given and flushed, each block that is out is in a list or in one's own hands; in the end none is. No program is named here. -/
namespace Go.Proofs.YtlcdgmjinhbncaaGreat
set_option linter.unusedVariables false

theorem keep_setC {cs : List CL} {i : Nat} {c : Int × Int} {l : List Int} {e : CL} (hi : cs[i]? = some (c, l)) {d : CL} (hd : d ∈ cs) {x : Int} (hx : x ∈ d.2) : x ∈ l ∨ ∃ d' ∈ cs.set i e, x ∈ d'.2 := by
  obtain ⟨j, hj⟩ := List.getElem?_of_mem hd
  by_cases h : i = j
  · subst h
    rw [hi] at hj
    obtain rfl := Option.some.inj hj
    exact Or.inl hx
  · exact Or.inr ⟨d, List.mem_of_getElem? (i := j) (by rw [List.getElem?_set_ne h]; exact hj), hx⟩
theorem new_setC {cs : List CL} {i : Nat} {c : CL} {e : CL} (hi : cs[i]? = some c) : e ∈ cs.set i e := List.mem_of_getElem? (List.getElem?_set_self (List.getElem?_eq_some_iff.1 hi).1)
/-- What is out is in a list, or in one's own hands. -/
structure EndC (P : (Int × Int × Int × Int) → Prop) (p : PoolV) (cs : List CL) (O : List Int) : Prop where
  tidy : Tidy P p
  cov : ∀ x q, OutQ p.l x q → x ∈ O ∨ ∃ d ∈ cs, x ∈ d.2
  out : ∀ x ∈ O, (∃ q, OutQ p.l x q) ∧ ∀ d ∈ cs, x ∉ d.2
  nod : O.Nodup
section
variable {P : (Int × Int × Int × Int) → Prop} {p : PoolV} {cs : List CL} {O : List Int}
theorem EndC.take (k : EndC P p cs O) {i : Nat} {c : Int × Int} {l : List Int} (hi : cs[i]? = some (c, l)) (c' : Int × Int) (o : Int) {R : PoolV × List Int × Int × Int} (hR : caTake p l o = R) (hn : R.2.2.2 = 0 → (∃ q, OutQ R.1.l R.2.2.1 q) ∧ ∀ d ∈ cs.set i (c', R.2.1), R.2.2.1 ∉ d.2) :
    EndC P R.1 (cs.set i (c', R.2.1)) (if R.2.2.2 = 0 then O ++ [R.2.2.1] else O) := by
  obtain ⟨t1, t2, t3, t4⟩ := caTake_old (l := l) (o := o) k.tidy.ok
  have hb := @caTake_outb p l o
  have ht := k.tidy.caTake l o
  rw [hR] at t1 t2 t3 t4 hb ht
  have hm : ∀ x ∈ O, x ∉ l := fun x hx hl => (k.out x hx).2 _ (List.mem_of_getElem? hi) hl
  have hout : ∀ x ∈ O, (∃ q, OutQ R.1.l x q) ∧ ∀ d ∈ cs.set i (c', R.2.1), x ∉ d.2 := fun x hx => by
    obtain ⟨⟨q, hq⟩, h2⟩ := k.out x hx
    refine ⟨⟨q, t1 x q hq⟩, fun d hd hxd => ?_⟩
    rcases List.mem_or_eq_of_mem_set hd with h | rfl
    · exact h2 d h hxd
    · rcases t2 x hxd with h | h
      · exact hm x hx h
      · exact h q hq
  have hcov : ∀ x q, OutQ R.1.l x q → x ∈ O ∨ (∃ d ∈ cs.set i (c', R.2.1), x ∈ d.2) ∨ (R.2.2.2 = 0 ∧ x = R.2.2.1) := fun x q h => by
    rcases hb h with h1 | h1 | h1
    · rcases k.cov x q h1 with h2 | ⟨d, hd, hx⟩
      · exact Or.inl h2
      · rcases keep_setC (e := (c', R.2.1)) hi hd hx with h3 | h3
        · rcases t4 x h3 with h4 | h4
          · exact Or.inr (Or.inl ⟨_, new_setC hi, h4⟩)
          · exact Or.inr (Or.inr h4)
        · exact Or.inr (Or.inl h3)
    · exact Or.inr (Or.inl ⟨_, new_setC hi, h1⟩)
    · exact Or.inr (Or.inr h1)
  by_cases h0 : R.2.2.2 = 0
  · rw [if_pos h0]
    obtain ⟨n1, n2⟩ := hn h0
    refine ⟨ht, fun x q h => ?_, fun x hx => ?_, List.nodup_append.2 ⟨k.nod, by simp, fun a ha b hb e => ?_⟩⟩
    · rcases hcov x q h with h1 | h1 | ⟨_, rfl⟩
      · exact Or.inl (List.mem_append_left _ h1)
      · exact Or.inr h1
      · exact Or.inl (List.mem_append_right _ (List.mem_singleton_self _))
    · rcases List.mem_append.1 hx with h1 | h1
      · exact hout x h1
      · obtain rfl := List.mem_singleton.1 h1
        exact ⟨n1, n2⟩
    · obtain rfl := List.mem_singleton.1 hb
      subst e
      rcases t3 h0 with h1 | h1
      · exact hm _ ha h1
      · obtain ⟨⟨q, hq⟩, _⟩ := k.out _ ha
        exact h1 q hq
  · rw [if_neg h0]
    refine ⟨ht, fun x q h => ?_, hout, k.nod⟩
    rcases hcov x q h with h1 | h1 | ⟨h1, _⟩
    · exact Or.inl h1
    · exact Or.inr h1
    · exact absurd h1 h0
theorem put_tidy (t : Tidy P p) {l : List Int} {o : Int} (hl : ∀ x ∈ l, OutQ p.l x o) (hn : l.Nodup) (x : Int) {R : PoolV × List Int} (hR : caPut o (p, l) x = R) :
    Tidy P R.1 ∧ (∀ y q, OutQ R.1.l y q → OutQ p.l y q ∧ (y ∈ l → y ∈ R.2)) ∧ (∀ y q, OutQ p.l y q → y ∉ l → OutQ R.1.l y q) ∧ x ∈ R.2 ∧ ∀ y ∈ R.2, y = x ∨ y ∈ l := by
  subst hR
  unfold caPut
  simp only
  split
  · obtain ⟨q1, q2, q3, q4⟩ := t.empty 128 l hl hn
    refine ⟨q1, fun y q h => ⟨(q2 y q h).1, fun hy => List.mem_cons_of_mem _ ((q2 y q h).2 hy)⟩, fun y q h hy => q3 y q h fun h2 => absurd h2 hy, List.mem_cons_self .., fun y hy => ?_⟩
    rcases List.mem_cons.1 hy with h | h
    · exact Or.inl h
    · exact Or.inr (q4 y h)
  · refine ⟨t, fun y q h => ⟨h, fun hy => List.mem_cons_of_mem _ hy⟩, fun y q h _ => h, List.mem_cons_self .., fun y hy => List.mem_cons.1 hy⟩
theorem EndC.give {x : Int} (k : EndC P p cs (x :: O)) {i : Nat} {c : Int × Int} {l : List Int} (hi : cs[i]? = some (c, l)) (c' : Int × Int) (o : Int) (hl : ∀ x ∈ l, OutQ p.l x o) (hn : l.Nodup) {R : PoolV × List Int} (hR : caPut o (p, l) x = R) :
    EndC P R.1 (cs.set i (c', R.2)) O := by
  obtain ⟨q1, q2, q3, q4, q5⟩ := put_tidy k.tidy hl hn x hR
  obtain ⟨n1, n2⟩ := List.nodup_cons.1 k.nod
  refine ⟨q1, fun y q h => ?_, fun y hy => ?_, n2⟩
  · obtain ⟨h1, h2⟩ := q2 y q h
    rcases k.cov y q h1 with h3 | ⟨d, hd, hx⟩
    · rcases List.mem_cons.1 h3 with rfl | h4
      · exact Or.inr ⟨_, new_setC hi, q4⟩
      · exact Or.inl h4
    · rcases keep_setC (e := (c', R.2)) hi hd hx with h4 | h4
      · exact Or.inr ⟨_, new_setC hi, h2 h4⟩
      · exact Or.inr h4
  · obtain ⟨⟨q, hq⟩, h2⟩ := k.out y (List.mem_cons_of_mem _ hy)
    have hyl : y ∉ l := h2 _ (List.mem_of_getElem? hi)
    refine ⟨⟨q, q3 y q hq hyl⟩, fun d hd hyd => ?_⟩
    rcases List.mem_or_eq_of_mem_set hd with h | rfl
    · exact h2 d h hyd
    · rcases q5 y hyd with rfl | h
      · exact n1 hy
      · exact hyl h
theorem EndC.flush (k : EndC P p cs O) {i : Nat} {c : Int × Int} {l : List Int} (hi : cs[i]? = some (c, l)) (c' : Int × Int) (o : Int) (hl : ∀ x ∈ l, OutQ p.l x o) (hn : l.Nodup) {R : PoolV × List Int} (hR : caEmpty 0 o p l = R) :
    EndC P R.1 (cs.set i (c', R.2)) O ∧ R.2 = [] := by
  obtain ⟨q1, q2, q3, q4⟩ := k.tidy.empty 0 l hl hn
  have he := (caEmpty_all l k.tidy.ok hl hn).1
  rw [hR] at q1 q2 q3 q4 he
  refine ⟨⟨q1, fun y q h => ?_, fun y hy => ?_, k.nod⟩, he⟩
  · obtain ⟨h1, h2⟩ := q2 y q h
    rcases k.cov y q h1 with h3 | ⟨d, hd, hx⟩
    · exact Or.inl h3
    · rcases keep_setC (e := (c', R.2)) hi hd hx with h4 | h4
      · exact Or.inr ⟨_, new_setC hi, h2 h4⟩
      · exact Or.inr h4
  · obtain ⟨⟨q, hq⟩, h2⟩ := k.out y hy
    have hyl : y ∉ l := h2 _ (List.mem_of_getElem? hi)
    refine ⟨⟨q, q3 y q hq fun h => absurd h hyl⟩, fun d hd hyd => ?_⟩
    rcases List.mem_or_eq_of_mem_set hd with h | rfl
    · exact h2 d h hyd
    · exact hyl (q4 y hyd)
/-- None is out: no span is cut, and all such spans are gone. -/
theorem EndC.done (k : EndC P p cs []) (he : ∀ d ∈ cs, d.2 = []) : p.l = [] ∧ ∀ s ∈ p.heap.l, ¬ P s := by
  have hl : p.l = [] := by
    refine List.eq_nil_iff_forall_not_mem.2 fun c hc => ?_
    have hw := k.tidy.calm c hc
    have hn : ∀ x ∈ pBlocks c.1, x ∈ c.2 := fun x hx => Classical.byContradiction fun h => by
      rcases k.cov x c.1.2.2.2 ⟨c, hc, hx, h, rfl⟩ with h1 | ⟨d, hd, h1⟩
      · cases h1
      · rw [he d hd] at h1; cases h1
    have h1 : c.2.Perm (pBlocks c.1) := (List.perm_ext_iff_of_nodup (k.tidy.ok.nod c hc) (pBlocks_nodup _)).2 fun x => ⟨k.tidy.ok.sub c hc x, hn x⟩
    unfold pWhole at hw
    rw [h1.length_eq, beq_self_eq_true] at hw
    cases hw
  refine ⟨hl, fun s hs hP => ?_⟩
  obtain ⟨c, hc, _⟩ := k.tidy.all_ s hs hP
  rw [hl] at hc
  cases hc
end
section
variable {F : CaF} {w W : World} {S : Nat → Prop} {v : PoolW} {cs : List CL} {k : Nat} {pages : Int}
theorem give_single (s : CaSt F w W S v cs k pages) {x : Int} {o : Int} {r : List Int} (h1 : OutQ v.plain.l x o) (h2 : ∀ d ∈ cs, x ∉ d.2) : caGive v (allOf cs) r o [x] = ((caPut o (v.plain, r) x).1, (caPut o (v.plain, r) x).2, 0) := by
  have e1 : caBad v.ks o [x] = false := by
    unfold caBad
    show (orderP v.ks x != o || false) = false
    rw [order_out s h1]; simp
  have e2 : caClash (allOf cs) [x] = false := by
    unfold caClash
    show (decide (x ∈ allOf cs ++ []) || false) = false
    refine Bool.or_eq_false_iff.2 ⟨decide_eq_false fun h => ?_, rfl⟩
    have h' : x ∈ allOf cs := by rcases List.mem_append.1 h with h | h; exact h; cases h
    obtain ⟨d, hd, hx⟩ := List.mem_flatMap.1 (sortI_mem.1 h')
    exact h2 d hd hx
  unfold caGive
  rw [e1, e2]
  rfl
end
end Go.Proofs.YtlcdgmjinhbncaaGreat
/- What the closure of Flush asks. -/
namespace Go.Proofs.YtlcdgmjinhbncaaGreat
open Go.RowKit Go.Maps
set_option linter.unusedVariables false

section
variable {F : CaF} {w W : World} {S : Nat → Prop} {v : PoolW} {cs : List CL} {k : Nat} {pages : Int}
/-- Flush$1: is there no such processor? -/
theorem c_flush1 (s : CaSt F w W S v cs k pages) (tc : Nat) (z : Int) (h1 : W.cell? ⟨tc, 0, none⟩ = some (.pointer (some ⟨F.q, 0, none⟩))) (b : Bool) (hb : b = decide (z < 0 ∨ (F.N : Int) ≤ z)) :
    Calls Tryz.prog 109 #[.int .i64 z, .pointer (some ⟨tc, 0, none⟩)] W fun e w' => e = .returned (.bool b) ∧ Below W.heap.size W w' := by
  have HF : Hid (∀ w', Below W.drew.heap.size W.drew w' → Below W.heap.size W w') := hidb (fun w' h => ⟨h.os, h.tape, h.output, h.size, h.block⟩)
  by_cases hz : z < 0 ∨ (F.N : Int) ≤ z
  · have c1 := c_list_no s z 0 (by omega)
    obtain rfl : b = true := by rw [hb]; exact decide_eq_true hz
    clear s hz hb
    --@1
    go_enter Tryz.func109, Tryz.ntmps109
    go_wp2_with (first
      | (go_at_call 96; (with_reducible refine c1.mono ?_); rintro e w1 ⟨rfl, hb1⟩))
    go_ret
    exact ⟨rfl, hb1⟩
  · obtain ⟨p, rfl⟩ : ∃ p : Nat, z = p := ⟨z.toNat, by omega⟩
    have c1 : Calls Tryz.prog 96 #[.pointer (some ⟨F.q, 0, none⟩), .int .i64 p, .int .i64 0] W fun e w' => e = .returned (.pointer (some ⟨F.rb, 2 * (4 * p + 0), none⟩)) ∧ Below W.heap.size W w' := c_list s p 0 (by omega) (by omega)
    obtain rfl : b = false := by rw [hb]; exact decide_eq_false hz
    clear s hz hb
    --@2
    go_enter Tryz.func109, Tryz.ntmps109
    go_wp2_with (first
      | (go_at_call 96; (with_reducible refine c1.mono ?_); rintro e w1 ⟨rfl, hb1⟩))
    go_ret
    exact ⟨rfl, hb1⟩
end

end Go.Proofs.YtlcdgmjinhbncaaGreat
