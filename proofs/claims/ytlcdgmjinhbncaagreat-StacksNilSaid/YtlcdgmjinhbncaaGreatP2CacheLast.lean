/- New caches, and what is refused. -/
import Derived.Test.YtlcdgmjinhbncaaGreatPCacheGive0
import Derived.Test.YtlcdgmjinhbncaaGreatPCacheGive
import Derived.Test.YtlcdgmjinhbncaaGreatPRowWords
import Derived.Test.YtlcdgmjinhbncaaGreatPCacheFns
import Derived.RangeFuncBox
namespace Go.Proofs.YtlcdgmjinhbncaaGreat
open Go.RowKit Go.Maps
set_option linter.unusedVariables false

theorem info_lists : (Tryz.prog.info? 236).map (fun i => (i.zero.map Value.cells, i.size, i.bytes)) = some (some #[.int .i64 0, .int .i64 0, .int .i64 0, .int .i64 0, .int .i64 0, .int .i64 0, .int .i64 0, .int .i64 0], 8, 64) := by kernel_rfl
theorem lists_parts : ∃ i0 z, Tryz.prog.info? 236 = some i0 ∧ i0.zero = some z ∧ z.cells = #[.int .i64 0, .int .i64 0, .int .i64 0, .int .i64 0, .int .i64 0, .int .i64 0, .int .i64 0, .int .i64 0] ∧ i0.size = 8 ∧ i0.bytes = 64 := by
  have h := info_lists
  cases hi : Tryz.prog.info? 236 with
  | none => rw [hi] at h; cases h
  | some i0 =>
    rw [hi] at h
    cases hz : i0.zero with
    | none =>
      rw [Option.map_some, hz] at h
      injection h with h
      injection h with h1 _
      cases h1
    | some z =>
      rw [Option.map_some, hz] at h
      injection h with h
      injection h with h1 h2
      injection h2 with h2 h3
      injection h1 with h1
      exact ⟨i0, z, rfl, hz, h1, h2, h3⟩
theorem zero_cells {z : Array Value} (hz : z = #[.int .i64 0, .int .i64 0, .int .i64 0, .int .i64 0, .int .i64 0, .int .i64 0, .int .i64 0, .int .i64 0]) (n j : Nat) (h : j < n) : (madeCells z n).toList[j]? = some (.int .i64 0) := by
  have e : madeCells z n = (Array.range n).map (z[· % z.size]!) := rfl
  rw [e, Array.getElem?_toList, Array.getElem?_map, Array.getElem?_range, if_pos h, Option.map_some]
  congr 1
  subst hz
  have h8 : j % 8 < 8 := Nat.mod_lt _ (by decide)
  obtain ⟨r, hr⟩ : ∃ r, j % 8 = r := ⟨_, rfl⟩
  show (#[Value.int .i64 0, .int .i64 0, .int .i64 0, .int .i64 0, .int .i64 0, .int .i64 0, .int .i64 0, .int .i64 0])[j % 8]! = _
  rw [hr] at h8 ⊢
  match r, h8 with
  | 0, _ => rfl
  | 1, _ => rfl
  | 2, _ => rfl
  | 3, _ => rfl
  | 4, _ => rfl
  | 5, _ => rfl
  | 6, _ => rfl
  | 7, _ => rfl
set_option maxRecDepth 100000 in
theorem c_new {w W : World} {S : Nat → Prop} {Sh : Nat → Prop} {p hp ap g mb n m : Nat} {D : DataW Unit} {v : PoolW} {k : Nat} {pages : Int} (N : Nat) (h1 : 1 ≤ N ∧ N ≤ 16) (q1 : PlAt W Sh p hp ap g mb n m D v) (q2 : PlOk n m v) (lt : ∀ b, S b → b < W.heap.size) (hS : ∀ b, PlS Sh p ap g mb v.ks b → S b) (low : ∀ b, S b → w.heap.size ≤ b) (bel : Below w.heap.size w W) (la : v.h.last ≤ k) (pg : v.h.pages = pages) :
    Calls Tryz.prog 91 #[.int .i64 N, .pointer (some ⟨p, 0, none⟩), .pointer (some ⟨ap, 0, none⟩)] W fun e w' => ∃ F S', e = .returned (.tuple #[.pointer (some ⟨F.q, 0, none⟩), .int .i64 0]) ∧ (F.p = p ∧ F.hp = hp ∧ F.N = N ∧ F.ap = ap) ∧ CaSt F w w' S' v (List.replicate (4 * N) ((0, 0), [])) k pages := by
  obtain ⟨i0, z, hi, hz0, hz1, hz2, hz3⟩ := lists_parts
  have hd1 : decide ((N : Int) < 1) = false := decide_eq_false (by omega)
  have hd2 : decide ((16 : Int) < (N : Int)) = false := decide_eq_false (by omega)
  go_enter Tryz.func91, Tryz.ntmps91
  go_wp2_with (at_make; refine wpList_make_full W rfl _ _ 173 rfl W.heap.size 236 i0 z 8 Tryz.underlying173 hi hz0 hz2 .i64 .i64 _ _ N rfl rfl (by omega) (by omega) (by rw [hz3]; omega) (by unfold maxLen; omega) (Nat.le_refl _) ?_; intro w1 hown hgrow)
  obtain ⟨L, hL, _, _, _, hLl, hLe⟩ := own_whole hown
  have hlt : W.heap.size < w1.heap.size := (hown.lt W.heap.size rfl).2
  have hB1 : Below W.heap.size W w1 := (Below.refl _ _).grown hgrow (Nat.le_refl _) (fun k hk => by cases hk)
  have hLc : ∀ j, j < N * 8 → w1.cell? ⟨W.heap.size, j, none⟩ = some (.int .i64 0) := fun j hj => by
    have h2 := zero_cells hz1 (N * 8) j hj
    rw [hLe, List.take_of_length_le (by omega)] at h2
    exact (hL.cell j).trans h2
  have hLf : ∀ j, w1.frozen? ⟨W.heap.size, j, none⟩ = false := fun j => hL.free j
  have HFIN : Hid (∀ ob : Obj, ob = .cells #[.pointer (some ⟨p, 0, none⟩), .pointer (some ⟨ap, 0, none⟩), .slice (some ⟨W.heap.size, 0, none⟩) N N] 175 → CaSt ⟨w1.heap.size, W.heap.size, p, hp, ap, g, mb, n, N⟩ w (w1.alloc ob) (fun b => S b ∨ b = W.heap.size ∨ b = w1.heap.size) v (List.replicate (4 * N) ((0, 0), [])) k pages) := hidb (fun ob e => by
    subst e
    have hb2 : Below w1.heap.size w1 (w1.alloc (.cells #[.pointer (some ⟨p, 0, none⟩), .pointer (some ⟨ap, 0, none⟩), .slice (some ⟨W.heap.size, 0, none⟩) N N] 175)) := (Below.refl _ _).alloc (Nat.le_refl _) _
    have hbw := bel.size
    have hz9 := hB1.size
    have hrep : ∀ (i : Nat) c, (List.replicate (4 * N) (((0, 0), []) : CL))[i]? = some c → i < 4 * N ∧ c = ((0, 0), []) := fun i c h => by
      have h3 := (List.getElem?_eq_some_iff.1 h).1
      rw [List.length_replicate] at h3
      rw [List.getElem?_replicate, if_pos h3] at h
      exact ⟨h3, (Option.some.inj h).symm⟩
    have hcr : ∀ j, (w1.alloc (.cells #[.pointer (some ⟨p, 0, none⟩), .pointer (some ⟨ap, 0, none⟩), .slice (some ⟨W.heap.size, 0, none⟩) N N] 175)).cell? ⟨W.heap.size, j, none⟩ = w1.cell? ⟨W.heap.size, j, none⟩ := fun j => hb2.cell (p := ⟨W.heap.size, j, none⟩) hlt
    refine ⟨⟨Sh, m, D, (q1.below hB1).below hb2, q2, fun b hb => ⟨Or.inl (hS b hb), fun e => ?_, fun e => ?_⟩⟩, ⟨fun c hc => ?_, fun i c hi x hx => ?_, fun i j c d hi hj hne x hx => ?_⟩, World.cell?_alloc_at _ _ _ 0 (by simp), World.cell?_alloc_at _ _ _ 1 (by simp), World.cell?_alloc_at _ _ _ 2 (by simp), fun i c hi => ?_, fun j => ?_, List.length_replicate .., ?_, h1, Or.inr (Or.inr rfl), Or.inr (Or.inl rfl), fun b hb => ?_, fun b hb => ?_, (bel.trans (hB1.mono bel.size)).trans (hb2.mono (Nat.le_trans hbw hz9)), la, pg⟩
    · have h3 := lt b (hS b hb)
      have e2 : b = w1.heap.size := e
      omega
    · have h3 := lt b (hS b hb)
      have e2 : b = W.heap.size := e
      omega
    · obtain ⟨i, hi⟩ := List.getElem?_of_mem hc
      obtain ⟨_, rfl⟩ := hrep i c hi
      exact cList_iff.2 ⟨rfl, List.nodup_nil, rfl⟩
    · obtain ⟨_, rfl⟩ := hrep i c hi
      cases hx
    · obtain ⟨_, rfl⟩ := hrep i c hi
      cases hx
    · obtain ⟨h4, rfl⟩ := hrep i c hi
      exact ⟨(hcr _).trans (hLc _ (by omega)), (hcr _).trans (hLc _ (by omega))⟩
    · exact (hb2.frozen (p := ⟨W.heap.size, j, none⟩) hlt).trans (hLf j)
    · show w1.heap.size ≠ W.heap.size
      omega
    · rw [World.size_alloc]
      rcases hb with h | h | h
      · have := lt b h; omega
      · omega
      · omega
    · rcases hb with h | h | h
      · exact low b h
      · omega
      · omega)
  clear hL hLe hown hgrow hLc hLf
  refine bodyPost_ret (v := .tuple #[.pointer (some ⟨w1.heap.size, 0, none⟩), .int .i64 0]) (by simp [results, Tryz.results91, go_sem]) rfl ?_
  exact ⟨⟨w1.heap.size, W.heap.size, p, hp, ap, g, mb, n, N⟩, _, rfl, ⟨rfl, rfl, rfl, rfl⟩, HFIN.out _ rfl⟩

end Go.Proofs.YtlcdgmjinhbncaaGreat
/- What layer 11's statements have in common: a heap, its pool, and caches; the document's example. -/
namespace Go.Proofs.YtlcdgmjinhbncaaGreat
open Go.RowKit
set_option linter.unusedVariables false

theorem code_made11 (pages : Int) (N : Nat) (w : World) (h0 : 4 ≤ pages) (h1 : pages ≤ 1024) (hN1 : 1 ≤ N ∧ N ≤ 16) : ∃ F ws, hNew pages = (⟨pages, F, [], 0⟩, 0) ∧
    Calls Tryz.prog 31 #[.int .i64 pages, .int .i64 N] w fun e w' => ∃ (C : CaF) (S : Nat → Prop), e = .returned (.tuple #[.pointer (some ⟨C.hp, 0, none⟩), .pointer (some ⟨C.p, 0, none⟩), .pointer (some ⟨C.q, 0, none⟩)]) ∧ C.N = N ∧ Hid (CaSt C w w' S ⟨⟨pages, F, [], 0⟩, ws, false, []⟩ (List.replicate (4 * N) ((0, 0), [])) 0 pages) := by
  obtain ⟨F, e1, c1⟩ := t_hnew pages w h0 h1
  obtain ⟨n, rfl⟩ : ∃ n : Nat, pages = n := ⟨pages.toNat, by omega⟩
  obtain ⟨ws, hws⟩ : ∃ ws, List.replicate (64 * n) 0 = ws := ⟨_, rfl⟩
  have hwide : Wide ws := fun x hx => by rw [← hws] at hx; rw [(List.mem_replicate.1 hx).2]; decide
  refine ⟨F, ws, e1, ?_⟩
  have C2 : Hid (∀ W, Calls Tryz.prog 62 #[.int .i64 (n : Int)] W fun e w' => ∃ p g, e = .returned (.tuple #[.pointer (some ⟨p, 0, none⟩), .int .i64 0]) ∧ Ar w' W.heap.size p g (64 * n) ws ∧ Below W.heap.size W w') := hidb (fun W => by
    have := code_anew n W (by omega) (by omega)
    rw [hws] at this
    exact this)
  have C3 : Hid (∀ w1 w2 hp ap g Sh, HeapSt w w1 hp Sh ⟨(n : Int), F, [], 0⟩ 0 n → Ar w2 w1.heap.size ap g (64 * n) ws → Below w1.heap.size w1 w2 → Calls Tryz.prog 63 #[.pointer (some ⟨hp, 0, none⟩), .pointer (some ⟨ap, 0, none⟩)] w2 fun e w' => ∃ p, e = .returned (.pointer (some ⟨p, 0, none⟩)) ∧
      Calls Tryz.prog 91 #[.int .i64 N, .pointer (some ⟨p, 0, none⟩), .pointer (some ⟨ap, 0, none⟩)] w' fun e w4 => ∃ (C : CaF) (S : Nat → Prop), e = .returned (.tuple #[.pointer (some ⟨C.q, 0, none⟩), .int .i64 0]) ∧ (hp = C.hp ∧ p = C.p ∧ C.N = N) ∧ Hid (CaSt C w w4 S ⟨⟨(n : Int), F, [], 0⟩, ws, false, []⟩ (List.replicate (4 * N) ((0, 0), [])) 0 n)) := hidb (fun w1 w2 hp ap g Sh hh ha hb => by
    have hSl := hh.hp.lt
    have hge := ha.ge
    have hgg := ha.geg
    have k := hh.hp.below hb
    refine (code_pnew k (ha.more (Nat.zero_le _)) (by show ((64 * n : Nat) : Int) = 64 * (n : Int); omega) hwide (fun h => by have := hSl _ h; omega) (fun h => by have := hSl _ h; omega)).mono ?_
    rintro e w' ⟨p, mb, rfl, q1, q2, q3, q4, q5⟩
    have hb1 := hh.bel.size
    have hb2 := hb.size
    refine ⟨p, rfl, (c_new (w := w) (S := PlS Sh p ap g mb []) (k := 0) (pages := (n : Int)) N hN1 q1 q2 q1.lt (fun b h => h) (fun b h => ?_) ((hh.bel.trans (hb.mono hb1)).trans (q3.mono (by omega))) (Int.le_refl _) rfl).mono ?_⟩
    · rcases h with h | h | h | h | h | ⟨c, hc, _⟩
      · exact hh.low b h
      · omega
      · omega
      · omega
      · omega
      · cases hc
    · rintro e w4 ⟨C, S, rfl, ⟨x1, x2, x3, _⟩, hs⟩
      exact ⟨C, S, rfl, ⟨x2.symm, x1.symm, x3⟩, hidb hs⟩)
  clear e1 hws hwide
  go_enter Tryz.func31, Tryz.ntmps31
  go_wp2_with (first
    | (go_at_call 61; (with_reducible refine c1.mono ?_); rintro e w1 ⟨hp, Sh, rfl, s1⟩; have S1 := hidb s1; clear s1)
    | (go_at_call 62; (with_reducible refine (C2.out _).mono ?_); rintro e w2 ⟨ap, g, rfl, ha, hb2⟩; have c3 := C3.out _ _ _ _ _ _ S1.out ha hb2; clear ha hb2)
    | (go_at_call 63; (with_reducible refine c3.mono ?_); rintro e w3 ⟨p, rfl, c4⟩)
    | (go_at_call 91; (with_reducible refine c4.mono ?_); rintro e w4 ⟨C, S, rfl, ⟨rfl, rfl, hCN⟩, S4⟩))
  exact bodyPost_ret (v := .tuple #[.pointer (some ⟨C.hp, 0, none⟩), .pointer (some ⟨C.p, 0, none⟩), .pointer (some ⟨C.q, 0, none⟩)]) (by simp [results, Tryz.results31, go_sem]) rfl ⟨C, S, rfl, hCN, S4⟩

/-- The document's example. -/
theorem aw11_take3 (h' : HeapV) : pTake ⟨h', [((1, 0, 4, 1), [64, 96, 128, 160, 192, 224])], false⟩ 1 = (⟨h', [((1, 0, 4, 1), [96, 128, 160, 192, 224])], false⟩, 64, 0) := by
  rw [pTake_some (p := ⟨h', [((1, 0, 4, 1), [64, 96, 128, 160, 192, 224])], false⟩) (order := 1) (i := 0) (c := ((1, 0, 4, 1), [64, 96, 128, 160, 192, 224])) (by omega) (by show pFirst [((1, 0, 4, 1), [64, 96, 128, 160, 192, 224])] 1 0 true = some 0; decide) rfl]; rfl
theorem aw11_take4 (h' : HeapV) : pTake ⟨h', [((1, 0, 4, 1), [96, 128, 160, 192, 224])], false⟩ 1 = (⟨h', [((1, 0, 4, 1), [128, 160, 192, 224])], false⟩, 96, 0) := by
  rw [pTake_some (p := ⟨h', [((1, 0, 4, 1), [96, 128, 160, 192, 224])], false⟩) (order := 1) (i := 0) (c := ((1, 0, 4, 1), [96, 128, 160, 192, 224])) (by omega) (by show pFirst [((1, 0, 4, 1), [96, 128, 160, 192, 224])] 1 0 true = some 0; decide) rfl]; rfl
theorem aw11_fill {h h' : HeapV} (hm : hMake h 4 1 = (h', (1, 0, 4, 1), 0)) : caFill 8 ⟨h, [], false⟩ [] 1 = (⟨h', [((1, 0, 4, 1), [128, 160, 192, 224])], false⟩, [96, 64, 32, 0], 0) := by
  have s32 : pSize 1 = 32 := rfl
  unfold caFill
  rw [if_pos (by rw [s32]; decide), aw_take1 hm]
  simp only [if_true]
  unfold caFill
  rw [if_pos (by rw [s32]; decide), aw_take2 h']
  simp only [if_true]
  unfold caFill
  rw [if_pos (by rw [s32]; decide), aw11_take3 h']
  simp only [if_true]
  unfold caFill
  rw [if_pos (by rw [s32]; decide), aw11_take4 h']
  simp only [if_true]
  exact caFill_end (by rw [s32]; decide) _
theorem aw11 {h h' : HeapV} (hm : hMake h 4 1 = (h', (1, 0, 4, 1), 0)) : caTake ⟨h, [], false⟩ [] 1 = (⟨h', [((1, 0, 4, 1), [128, 160, 192, 224])], false⟩, [64, 32, 0], 96, 0) := by
  unfold caTake
  rw [aw11_fill hm]
theorem sl_three (W : World) (x y z : Int) (t : TypeId) : Sl (W.alloc (.cells #[.int .i64 x, .int .i64 y, .int .i64 z] t)) (W.alloc (.cells #[.int .i64 x, .int .i64 y, .int .i64 z] t)).heap.size (some ⟨W.heap.size, 0, none⟩) 3 ([x, y, z].map iv) :=
  ⟨rfl, fun _ => ⟨W.heap.size, 0, rfl, by simp, fun j hj => by
    match j, hj with
    | 0, _ => exact World.cell?_alloc_at _ _ _ 0 (by simp)
    | 1, _ => exact World.cell?_alloc_at _ _ _ 1 (by simp)
    | 2, _ => exact World.cell?_alloc_at _ _ _ 2 (by simp)⟩⟩
theorem awake11 (w : World) : Calls Tryz.prog 30 #[] w fun e w' => e = .returned (.bool true) ∧ Below w.heap.size w w' := by
  obtain ⟨F, ws, hN, c1⟩ := code_made11 8 1 w (by omega) (by omega) (by omega)
  obtain ⟨h', hM⟩ := aw_make9 hN
  have C2 : Hid (∀ W (C : CaF) S, C.N = 1 → Hid (CaSt C w W S ⟨⟨8, F, [], 0⟩, ws, false, []⟩ (List.replicate (4 * 1) ((0, 0), [])) 0 8) → Calls Tryz.prog 40 #[.pointer (some ⟨C.q, 0, none⟩), .int .i64 0, .int .i64 1] W fun e w2 => e = .returned (.tuple #[.int .i64 96, .int .i64 0]) ∧
      Calls Tryz.prog 34 #[.pointer (some ⟨C.q, 0, none⟩), .int .i64 0, .int .i64 1] w2 fun e w3 => ∃ A c, e = .returned (.slice A 3 c) ∧ Hid (Sl w3 w3.heap.size A 3 ([64, 32, 0].map iv) ∧ Below w.heap.size w w3)) := hidb (fun W C S hC s => by
    have := c_take s.out (by omega) 0 1 (by rw [hC]; decide) (by decide) (c := (0, 0)) (l := []) rfl
    rw [show caTake (PoolW.plain ⟨⟨8, F, [], 0⟩, ws, false, []⟩) [] ((1 : Nat) : Int) = _ from aw11 hM] at this
    refine this.mono ?_
    rintro e w2 ⟨rfl, S', v', c', k1, _, _⟩
    refine ⟨rfl, (c_listat k1 0 1 (by rw [hC]; decide) (by decide) (c := c') (l := [64, 32, 0]) rfl).mono ?_⟩
    rintro e w3 ⟨A, c, rfl, hP⟩
    exact ⟨A, c, rfl, hidb ⟨hP.out.1, k1.bel.trans (hP.out.2.mono k1.bel.size)⟩⟩)
  have CI : Hid (∀ w3 A c, Hid (Sl w3 w3.heap.size A 3 ([64, 32, 0].map iv) ∧ Below w.heap.size w w3) → Calls Tryz.prog 17 #[.slice A 3 c, .slice (some ⟨w3.heap.size, 0, none⟩) 3 3] (w3.alloc (.cells #[.int .i64 64, .int .i64 32, .int .i64 0] 3)) fun e w4 => e = .returned (.bool true) ∧ Hid (Below w.heap.size w w4)) := hidb (fun w3 A c P => by
    have hb : Below w3.heap.size w3 (w3.alloc (.cells #[.int .i64 64, .int .i64 32, .int .i64 0] 3)) := (Below.refl _ _).alloc (Nat.le_refl _) _
    refine (ref_bints A (some ⟨w3.heap.size, 0, none⟩) 3 c 3 3 [64, 32, 0] [64, 32, 0] _ _ _ ((P.out.1.below hb).more hb.size) (sl_three w3 64 32 0 _) (by omega) (by omega)).mono ?_
    rintro e w4 ⟨rfl, q, rfl⟩
    exact ⟨by simp, hidb (belowN (P.out.2.trans (hb.mono P.out.2.size)) q)⟩)
  have c1' : Calls Tryz.prog 31 #[.int .i64 8, .int .i64 1] w _ := c1
  clear hN hM c1
  go_enter Tryz.func30, Tryz.ntmps30
  go_wp2_with (first
    | (go_at_call 31; (with_reducible refine c1'.mono ?_); rintro e w1 ⟨C, S, rfl, hCN, s1⟩; have c2 := C2.out _ _ _ hCN s1; clear s1)
    | (go_at_call 40; (with_reducible refine c2.mono ?_); rintro e w2 ⟨rfl, c3⟩)
    | (go_at_call 34; (with_reducible refine c3.mono ?_); rintro e w3 ⟨A, c, rfl, P3⟩; have ci := CI.out _ _ c P3)
    | (go_at_call 17; (with_reducible refine ci.mono ?_); rintro e w4 ⟨rfl, P⟩))
  go_ret
  exact ⟨rfl, P.out⟩

end Go.Proofs.YtlcdgmjinhbncaaGreat
/- Layer 11's statement on the block that was given back last. -/
namespace Go.Proofs.YtlcdgmjinhbncaaGreat
open Go.RowKit
set_option linter.unusedVariables false

section
variable {w W W' : World} {p hp : Nat} {S S' : Nat → Prop} {v v' : PoolW} {k k' : Nat} {pages : Int}
end
/-- No list has more words than it may. -/
def Room (cs : List CL) : Prop := ∀ (i : Nat) d, cs[i]? = some d → d.2.length * pSize ((i % 4 : Nat) : Int) ≤ 256
section
variable {F : CaF} {w W : World} {S : Nat → Prop} {v : PoolW} {cs : List CL} {k : Nat} {pages : Int}
theorem Room.set_ {i : Nat} {d : CL} (h : Room cs) (hd : d.2.length * pSize ((i % 4 : Nat) : Int) ≤ 256) : Room (cs.set i d) := fun j e hj => by
  by_cases he : i = j
  · subst he
    by_cases hi : i < cs.length
    · rw [List.getElem?_set_self hi] at hj
      obtain rfl := Option.some.inj hj
      exact hd
    · rw [List.getElem?_eq_none (by rw [List.length_set]; omega)] at hj
      cases hj
  · rw [List.getElem?_set_ne he] at hj
    exact h j e hj
theorem caTake_room {p : PoolV} {l : List Int} {o : Int} (ho : 0 ≤ o ∧ o ≤ 3) (h : l.length * pSize o ≤ 256) : (caTake p l o).2.1.length * pSize o ≤ 256 ∧ ((caTake p l o).2.2.2 = 0 → (caTake p l o).2.1.length * pSize o < 256) := by
  have hs := pSize_16 o
  have hcons : ∀ (a : Int) (r : List Int), (a :: r).length * pSize o ≤ 256 → r.length * pSize o < 256 := fun a r h => by
    rw [List.length_cons, Nat.add_mul] at h
    omega
  unfold caTake
  cases l with
  | cons a r => exact ⟨Nat.le_of_lt (hcons a r h), fun _ => hcons a r h⟩
  | nil =>
    have hf := caFill_room 8 (p := p) (l := []) ho (by simp)
    have hn := @caFill_some p o
    simp only
    split
    · exact ⟨by simp, fun _ => by simp⟩
    · rename_i a r e
      rw [e] at hf
      exact ⟨Nat.le_of_lt (hcons a r hf), fun _ => hcons a r hf⟩
/-- A row that lies in none of these blocks. -/
def RowK (W : World) (S : Nat → Prop) (A : Option Addr) (n : Nat) (xs : List Value) : Prop := Sl W W.heap.size A n xs ∧ (0 < n → ∀ a, A = some a → ¬ S a.block ∧ a.block < W.heap.size)
theorem RowK.side {W' : World} {S' : Nat → Prop} {A : Option Addr} {n : Nat} {xs : List Value} (h : RowK W S A n xs) (hs : SideP S W S' W') : RowK W' S' A n xs := by
  rcases Nat.eq_zero_or_pos n with h0 | h0
  · subst h0
    exact ⟨⟨h.1.1, fun h => absurd h (Nat.lt_irrefl _)⟩, fun h => absurd h (Nat.lt_irrefl _)⟩
  · exact ⟨hs.sl h.1 (fun a e => (h.2 h0 a e).1), fun _ a e => ⟨hs.not (h.2 h0 a e).2 (h.2 h0 a e).1, Nat.lt_of_lt_of_le (h.2 h0 a e).2 hs.1.size⟩⟩
theorem RowK.new {W1 : World} {A : Option Addr} {n : Nat} {xs : List Value} (h : Sl W1 W1.heap.size A n xs) (hb : ∀ a, A = some a → W.heap.size ≤ a.block) (lt : ∀ b, S b → b < W.heap.size) : RowK W1 S A n xs :=
  ⟨h, fun h0 a e => ⟨fun c => by have := lt _ c; have := hb a e; omega, by obtain ⟨b, off, e2, hbl, _⟩ := h.2 h0; rw [e] at e2; injection e2 with e2; rw [e2]; exact hbl⟩⟩
theorem order_out (s : CaSt F w W S v cs k pages) {x o : Int} (h : OutQ v.plain.l x o) : orderP v.ks x = o := by
  obtain ⟨c, hc, h1, h2, h3⟩ := h
  obtain ⟨i, hi⟩ := List.getElem?_of_mem hc
  obtain ⟨sp, r⟩ := c
  rw [← h3]
  exact orderP_of (s.pool.pok.of_at hi h1) hi h2
theorem give_again (s : CaSt F w W S v cs k pages) {x : Int} {o : Int} {r : List Int} (h1 : OutQ v.plain.l x o) (h2 : ∀ d ∈ cs, x ∉ d.2) (h3 : r.length * pSize o < 256) : caGive v (allOf cs) r o [x] = (v.plain, x :: r, 0) := by
  have e1 : caBad v.ks o [x] = false := by
    unfold caBad
    show (orderP v.ks x != o || false) = false
    rw [order_out s h1]; simp
  have e2 : caClash (allOf cs) [x] = false := by
    unfold caClash
    show (decide (x ∈ allOf cs ++ []) || false) = false
    refine Bool.or_eq_false_iff.2 ⟨decide_eq_false fun h => ?_, rfl⟩
    have h' : x ∈ allOf cs := by rcases List.mem_append.1 h with h | h; exact h; cases h
    obtain ⟨d, hd, hx⟩ := List.mem_flatMap.1 (sortI_mem.1 h')
    exact h2 d hd hx
  unfold caGive
  rw [e1, e2]
  show ((caPut o (v.plain, r) x).1, (caPut o (v.plain, r) x).2, (0 : Int)) = _
  unfold caPut
  rw [if_neg (by show ¬ 256 ≤ r.length * pSize o; omega)]
end

end Go.Proofs.YtlcdgmjinhbncaaGreat
/- Layer 11 plainly: what is out behind a Take or a Give: no more than was, and the block. No program is named here. -/
