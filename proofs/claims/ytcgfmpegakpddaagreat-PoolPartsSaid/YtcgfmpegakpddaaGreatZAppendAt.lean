/- New of a pool; a pool that a law has made, with its heap and its arena, and what each call does to it. -/
import Derived.Test.YtcgfmpegakpddaaGreatZPoolTake
import Derived.Test.YtcgfmpegakpddaaGreatZPoolGive
import Derived.Test.YtcgfmpegakpddaaGreatZPoolReads2
import Derived.Test.YtcgfmpegakpddaaGreatZPoolReads2
import Derived.Test.YtcgfmpegakpddaaGreatZPoolGive0
import Derived.Test.YtcgfmpegakpddaaGreatZRows7
import Derived.Maps.AppendAt
namespace Go.Proofs.YtcgfmpegakpddaaGreat
open Go.RowKit Go.Maps
set_option linter.unusedVariables false

theorem alloc_at (W : World) (o : Obj) : (W.alloc o).heap[W.heap.size]? = some o := by show (W.heap.push o)[W.heap.size]? = _; simp
theorem code_pnew {w : World} {Sh : Nat → Prop} {hp ap g n : Nat} {h : HeapV} {ws : List Nat} (k : Hp w Sh hp h) (ha : Ar w 0 ap g n ws) (hn : (n : Int) = 64 * h.pages) (hw : Wide ws) (h1 : ¬ Sh ap) (h2 : ¬ Sh g) :
    Calls Tryz.prog 47 #[.pointer (some ⟨hp, 0, none⟩), .pointer (some ⟨ap, 0, none⟩)] w fun e w' => ∃ p mb, e = .returned (.pointer (some ⟨p, 0, none⟩)) ∧ PlAt w' Sh p hp ap g mb n 0 (.map []) ⟨h, ws, false, []⟩ ∧ PlOk n 0 ⟨h, ws, false, []⟩ ∧ Below w.heap.size w w' ∧ w.heap.size ≤ p ∧ w.heap.size ≤ mb := by
  have cw := code_awords ap _ _ _ w ha.cell
  have cz := code_hsize k
  have hp0 := k.ok.p0
  have hp1 := k.ok.p1
  have HE : Hid (∀ w2, Below w.heap.size w w2 → PlAt ((w2.alloc (.map #[] 0)).alloc (.cells #[.pointer (some ⟨hp, 0, none⟩), .pointer (some ⟨ap, 0, none⟩), .map (some w2.heap.size), .bool false] 119)) Sh (w2.heap.size + 1) hp ap g w2.heap.size n 0 (.map []) ⟨h, ws, false, []⟩ ∧ Below w.heap.size w ((w2.alloc (.map #[] 0)).alloc (.cells #[.pointer (some ⟨hp, 0, none⟩), .pointer (some ⟨ap, 0, none⟩), .map (some w2.heap.size), .bool false] 119))) := hidb (fun w2 hb => by
    have hb2 := hb.alloc hb.size (.map #[] 0)
    have hb3 := hb2.alloc hb2.size (.cells #[.pointer (some ⟨hp, 0, none⟩), .pointer (some ⟨ap, 0, none⟩), .map (some w2.heap.size), .bool false] 119)
    have hz : (w2.alloc (.map #[] 0)).heap.size = w2.heap.size + 1 := by simp
    have hs := hb.size
    have q : ((w2.alloc (.map #[] 0)).alloc (.cells #[.pointer (some ⟨hp, 0, none⟩), .pointer (some ⟨ap, 0, none⟩), .map (some w2.heap.size), .bool false] 119)).heap[w2.heap.size + 1]? = some (.cells #[.pointer (some ⟨hp, 0, none⟩), .pointer (some ⟨ap, 0, none⟩), .map (some w2.heap.size), .bool false] 119 (0, 0)) := by
      have h9 := alloc_at (w2.alloc (.map #[] 0)) (.cells #[.pointer (some ⟨hp, 0, none⟩), .pointer (some ⟨ap, 0, none⟩), .map (some w2.heap.size), .bool false] 119)
      rw [hz] at h9
      exact h9
    obtain ⟨c0, c1, c2, c3, f0, f1, f2, f3⟩ := cells4 q
    have hm := World.ownsMap_made w2 Tryz.prog 3 ptrR
    have hap := ha.ltp
    have hgl := ha.lt
    have hSl := k.lt
    refine ⟨⟨c0, c1, c2, c3, fun j => ?_, ownsMap_block hm (by rw [Below.heap_alloc _ _ _ (by simp)]), pis_nil, k.below hb3, (ha.below hb3 (Nat.le_refl _)), fun c hc => (by cases hc), ⟨by omega, by omega, by omega, by omega, by omega⟩, fun c hc => (by cases hc), ⟨fun h => by have := hSl _ h; omega, h1, h2, fun h => by have := hSl _ h; omega⟩, List.nodup_nil⟩, hb3⟩
    have hR : Rw ((w2.alloc (.map #[] 0)).alloc (.cells #[.pointer (some ⟨hp, 0, none⟩), .pointer (some ⟨ap, 0, none⟩), .map (some w2.heap.size), .bool false] 119)) (w2.heap.size + 1) 119 [.pointer (some ⟨hp, 0, none⟩), .pointer (some ⟨ap, 0, none⟩), .map (some w2.heap.size), .bool false] := q
    exact hR.free j)
  have HOK : Hid (PlOk n 0 ⟨h, ws, false, []⟩) := hidb ⟨hn, hw, fun c hc => (by cases hc), fun c hc => (by cases hc), fun c hc => (by cases hc), fun c hc => (by cases hc), List.nodup_nil, by have := k.ok.la; show ((0 : Nat) : Int) ≤ h.last; omega⟩
  have hmk := @run_makeMap Tryz.prog
  obtain ⟨pg, hpg⟩ : ∃ pg, h.pages = pg := ⟨_, rfl⟩
  rw [hpg] at cz hn hp0 hp1
  have hd : ((n : Int) == pg * 64) = true := by simpa using (show (n : Int) = pg * 64 by omega)
  clear k ha hpg hw h1 h2 hn
  go_enter Tryz.func47, Tryz.ntmps47
  go_wp2_with (first
    | (go_at_call 98; (with_reducible refine cw.mono ?_); rintro e w1 ⟨rfl, rfl⟩)
    | (go_at_call 99; (with_reducible refine cz.mono ?_); rintro e w2 ⟨rfl, hb2⟩; have P := hidb (HE.out w2 hb2); have hs2 := hb2.size))
  go_ret
  obtain ⟨p1, p2⟩ := P.out
  exact ⟨w2.heap.size + 1, w2.heap.size, rfl, p1, HOK.out, p2, by omega, by omega⟩

/-- A pool that the law has made, behind k spans at most. -/
structure PoolSt (w W : World) (p hp : Nat) (S : Nat → Prop) (v : PoolW) (k : Nat) (pages : Int) : Prop where
  pl : ∃ Sh ap g mb n m D, PlAt W Sh p hp ap g mb n m D v ∧ PlOk n m v ∧ ∀ b, PlS Sh p ap g mb v.ks b → S b
  lt : ∀ b, S b → b < W.heap.size
  low : ∀ b, S b → w.heap.size ≤ b
  bel : Below w.heap.size w W
  la : v.h.last ≤ k
  pg : v.h.pages = pages
theorem more_any {S : Nat → Prop} {W W' : World} {b : Nat} (h : S b ∨ W.heap.size ≤ b) (hl : b < W'.heap.size) : more S W W' b := ⟨h, hl⟩
section
variable {w W W' : World} {p hp : Nat} {S : Nat → Prop} {v v' : PoolW} {k k' : Nat} {pages : Int}
theorem PoolSt.below (s : PoolSt w W p hp S v k pages) (hb : Below W.heap.size W W') : PoolSt w W' p hp S v k pages := by
  obtain ⟨⟨Sh, ap, g, mb, n, m, D, q1, q2, q3⟩, l1, l2, l3, l4, l5⟩ := s
  exact ⟨⟨Sh, ap, g, mb, n, m, D, q1.below hb, q2, q3⟩, fun b h => Nat.lt_of_lt_of_le (l1 b h) hb.size, l2, l3.trans (hb.mono l3.size), l4, l5⟩
theorem PoolSt.did {Sh : Nat → Prop} {ap g mb n : Nat} (s : PoolSt w W p hp S v k pages) (h3 : ∀ b, PlS Sh p ap g mb v.ks b → S b) (h : Went W Sh p hp ap g mb n v.ks W' v') (hl : v'.h.last ≤ k') (hg : v'.h.pages = v.h.pages) : PoolSt w W' p hp (more S W W') v' k' pages ∧ Kept S W W' := by
  obtain ⟨S2, m2, D2, q1, q2, q3, q4⟩ := h
  have hK : Kept S W W' := ⟨q3.os, q3.tape, q3.output, q3.size, fun b hb hn => q3.block b hb (fun c => hn (h3 b c))⟩
  refine ⟨⟨⟨S2, ap, g, mb, n, m2, D2, q1, q2, fun b hb => more_any ?_ (q1.lt b hb)⟩, fun b hb => hb.2, more_low s.bel.size s.low, s.bel.trans (hK.below s.bel.size s.low), hl, hg.trans s.pg⟩, hK⟩
  rcases q4 b hb with h4 | h4
  · exact Or.inl (h3 b h4)
  · exact Or.inr h4
end

theorem pSweep_heap {h : HeapV} (k : HOk h) (l : PL) (held : Bool) : (pSweep ⟨h, l, held⟩).heap.pages = h.pages ∧ (pSweep ⟨h, l, held⟩).heap.last = h.last := by
  unfold pSweep
  split
  · exact ⟨rfl, rfl⟩
  · have := hDrop_ok k ((l.filter pWhole).map (·.1.1))
    exact ⟨this.2.1, this.2.2.2⟩
theorem pTake_heap {p : PoolV} (k : HOk p.heap) (order : Int) : (pTake p order).1.heap.pages = p.heap.pages ∧ (pTake p order).1.heap.last ≤ p.heap.last + 1 := by
  have h := hMake_ok k 4 order
  unfold pTake
  split
  · exact ⟨rfl, by show p.heap.last ≤ p.heap.last + 1; omega⟩
  · split
    · split
      · exact ⟨rfl, by show p.heap.last ≤ p.heap.last + 1; omega⟩
      · exact ⟨rfl, by show p.heap.last ≤ p.heap.last + 1; omega⟩
    · split
      · exact ⟨h.2.1, h.2.2.2⟩
      · exact ⟨rfl, by show p.heap.last ≤ p.heap.last + 1; omega⟩
theorem gGive_heap {p : PoolV} (k : HOk p.heap) (xs : List Int) : (gGive p xs).1.heap.pages = p.heap.pages ∧ (gGive p xs).1.heap.last = p.heap.last := by
  unfold gGive
  split
  · exact ⟨rfl, rfl⟩
  · split
    · exact ⟨rfl, rfl⟩
    · exact pSweep_heap k _ _

section
variable {w W : World} {p hp : Nat} {S : Nat → Prop} {v : PoolW} {k : Nat} {pages : Int}
theorem t_ptake (s : PoolSt w W p hp S v k pages) (hk : k + 1 ≤ 1000000000) (order : Int) (ho : in64 order) (p' : PoolV) (at' no : Int) (e : pTake v.plain order = (p', at', no)) :
    Calls Tryz.prog 44 #[.pointer (some ⟨p, 0, none⟩), .int .i64 order] W fun e w' => e = .returned (.tuple #[.int .i64 at', .int .i64 no]) ∧ ∃ S' v', PoolSt w w' p hp S' v' (k + 1) pages ∧ v'.plain = p' ∧ ToO S W S' w' := by
  by_cases c : order < 0 ∨ 3 < order
  · refine (code_ptake_arg (some ⟨p, 0, none⟩) order ho c W).mono ?_
    unfold pTake at e
    rw [if_pos c] at e
    injection e with e1 e2
    injection e2 with e2 e3
    subst e2 e3
    rintro e w' ⟨rfl, hb⟩
    have s2 := s.below hb
    exact ⟨rfl, S, v, ⟨s2.pl, s2.lt, s2.low, s2.bel, by have := s2.la; omega, s2.pg⟩, e1, ToO.below hb⟩
  · obtain ⟨Sh, ap, g, mb, n, m, D, q1, q2, q3⟩ := s.pl
    have hla := s.la
    refine (code_ptake q1 q2 order (by omega) (by omega)).mono ?_
    rintro e' w' ⟨at2, no2, v', rfl, hw, e2, _⟩
    rw [e] at e2
    injection e2 with e3 e4
    injection e4 with e4 e5
    subst e4 e5
    have hh := pTake_heap (p := v.plain) q1.hp_.ok order
    rw [e, e3] at hh
    obtain ⟨s2, hK⟩ := s.did (k' := k + 1) q3 hw (by have h1 : v'.h.last ≤ v.h.last + 1 := hh.2; omega) hh.1
    exact ⟨rfl, _, v', s2, e3.symm, ToO.did hK⟩
theorem holdV_plain {n m : Nat} {v : PoolW} (o : PlOk n m v) (hn : v.ws.length ≤ 65536) (on : Bool) : (holdV v on).plain = pSweep { v.plain with held := on } := by
  have o2 : PlOk n m { v with held := on } := ⟨o.len, o.wide, o.mem, o.four, o.lst, o.sub, o.ids, o.cnt⟩
  unfold holdV
  rw [o2.trim_plain hn]
  rfl
theorem t_plist (s : PoolSt w W p hp S v k pages) (order : Int) : Calls Tryz.prog 17 #[.pointer (some ⟨p, 0, none⟩), .int .i64 order] W (Reads9 W v.ks (fun k => k.s.2.2.2 == order) (·.l)) := by
  obtain ⟨Sh, ap, g, mb, n, m, D, q1, q2, q3⟩ := s.pl
  exact code_plist q1 q2 order
theorem t_pout (s : PoolSt w W p hp S v k pages) : Calls Tryz.prog 21 #[.pointer (some ⟨p, 0, none⟩)] W (Reads9 W v.ks (fun _ => true) outK) := by
  obtain ⟨Sh, ap, g, mb, n, m, D, q1, q2, q3⟩ := s.pl
  exact code_pout q1 q2 ()
theorem t_pspans (s : PoolSt w W p hp S v k pages) (order : Int) : Calls Tryz.prog 14 #[.pointer (some ⟨p, 0, none⟩), .int .i64 order] W fun e w' => ∃ ds, InOrderP v.ks ds ∧ OwnSpansC W ((ds.filter (fun k => k.s.2.2.2 == order)).map (·.s)) e w' := by
  obtain ⟨Sh, ap, g, mb, n, m, D, q1, q2, q3⟩ := s.pl
  exact code_pspans q1 q2 order
end

end Go.Proofs.YtcgfmpegakpddaaGreat
/- What layer 9's statements have in common: a heap, an arena and their pool; the document's example. -/
namespace Go.Proofs.YtcgfmpegakpddaaGreat
open Go.RowKit
set_option linter.unusedVariables false

/-- made: a heap, an arena, and their pool. -/
theorem code_made (pages : Int) (w : World) (h0 : 4 ≤ pages) (h1 : pages ≤ 1024) : ∃ F ws, hNew pages = (⟨pages, F, [], 0⟩, 0) ∧
    Calls Tryz.prog 11 #[.int .i64 pages] w fun e w' => ∃ hp ap p S, e = .returned (.tuple #[.pointer (some ⟨hp, 0, none⟩), .pointer (some ⟨ap, 0, none⟩), .pointer (some ⟨p, 0, none⟩)]) ∧ PoolSt w w' p hp S ⟨⟨pages, F, [], 0⟩, ws, false, []⟩ 0 pages := by
  obtain ⟨F, e1, c1⟩ := t_hnew pages w h0 h1
  obtain ⟨n, rfl⟩ : ∃ n : Nat, pages = n := ⟨pages.toNat, by omega⟩
  obtain ⟨ws, hws⟩ : ∃ ws, List.replicate (64 * n) 0 = ws := ⟨_, rfl⟩
  have hwide : Wide ws := fun x hx => by rw [← hws] at hx; rw [(List.mem_replicate.1 hx).2]; decide
  refine ⟨F, ws, e1, ?_⟩
  have C2 : Hid (∀ W, Calls Tryz.prog 46 #[.int .i64 (n : Int)] W fun e w' => ∃ p g, e = .returned (.tuple #[.pointer (some ⟨p, 0, none⟩), .int .i64 0]) ∧ Ar w' W.heap.size p g (64 * n) ws ∧ Below W.heap.size W w') := hidb (fun W => by
    have := code_anew n W (by omega) (by omega)
    rw [hws] at this
    exact this)
  have C3 : Hid (∀ w1 w2 hp ap g Sh, HeapSt w w1 hp Sh ⟨(n : Int), F, [], 0⟩ 0 n → Ar w2 w1.heap.size ap g (64 * n) ws → Below w1.heap.size w1 w2 → Calls Tryz.prog 47 #[.pointer (some ⟨hp, 0, none⟩), .pointer (some ⟨ap, 0, none⟩)] w2 fun e w' => ∃ p S, e = .returned (.pointer (some ⟨p, 0, none⟩)) ∧ PoolSt w w' p hp S ⟨⟨(n : Int), F, [], 0⟩, ws, false, []⟩ 0 n) := hidb (fun w1 w2 hp ap g Sh hh ha hb => by
    have hSl := hh.hp.lt
    have hge := ha.ge
    have hgg := ha.geg
    have k := hh.hp.below hb
    refine (code_pnew k (ha.more (Nat.zero_le _)) (by show ((64 * n : Nat) : Int) = 64 * (n : Int); omega) hwide (fun h => by have := hSl _ h; omega) (fun h => by have := hSl _ h; omega)).mono ?_
    rintro e w' ⟨p, mb, rfl, q1, q2, q3, q4, q5⟩
    have hb1 := hh.bel.size
    have hb2 := hb.size
    refine ⟨p, PlS Sh p ap g mb [], rfl, ⟨Sh, ap, g, mb, _, _, _, q1, q2, fun b h => h⟩, q1.lt, fun b h => ?_, (hh.bel.trans (hb.mono hb1)).trans (q3.mono (by omega)), Int.le_refl _, rfl⟩
    rcases h with h | h | h | h | h | ⟨c, hc, _⟩
    · exact hh.low b h
    · omega
    · omega
    · omega
    · omega
    · cases hc)
  clear e1 hws hwide
  go_enter Tryz.func11, Tryz.ntmps11
  go_wp2_with (first
    | (go_at_call 45; (with_reducible refine c1.mono ?_); rintro e w1 ⟨hp, Sh, rfl, s1⟩; have S1 := hidb s1; clear s1)
    | (go_at_call 46; (with_reducible refine (C2.out _).mono ?_); rintro e w2 ⟨ap, g, rfl, ha, hb2⟩; have c3 := C3.out _ _ _ _ _ _ S1.out ha hb2; clear ha hb2)
    | (go_at_call 47; (with_reducible refine c3.mono ?_); rintro e w3 ⟨p, S, rfl, s3⟩; have S3 := hidb s3; clear s3))
  exact bodyPost_ret (v := .tuple #[.pointer (some ⟨hp, 0, none⟩), .pointer (some ⟨ap, 0, none⟩), .pointer (some ⟨p, 0, none⟩)]) (by simp [results, Tryz.results11, go_sem]) rfl ⟨hp, ap, p, S, rfl, S3.out⟩
/-- The document's example. -/
theorem aw_make9 {F : List Bool} (hN : hNew 8 = (⟨8, F, [], 0⟩, 0)) : ∃ h', hMake ⟨8, F, [], 0⟩ 4 1 = (h', (1, 0, 4, 1), 0) := by
  obtain ⟨F', e1, _, hk⟩ := hNew_ok (pages := 8) (by omega) (by omega)
  obtain rfl : F' = F := by rw [e1] at hN; injection hN with hN _; injection hN
  have hl := hk.ends rfl
  simp only at hl
  have hb : fBest F' 4 = some (0, 8) := by
    rw [fBest_is F' (by have := hk.fl; simp only at this; omega), hl]
    rfl
  obtain ⟨g, _, _, _, e, _⟩ := hMake_yes hk (n := 4) (o := 1) (by omega) hb
  exact ⟨_, e⟩
theorem aw_blocks : pBlocks (1, 0, 4, 1) = [0, 32, 64, 96, 128, 160, 192, 224] := by decide
theorem aw_take1 {h h' : HeapV} (hm : hMake h 4 1 = (h', (1, 0, 4, 1), 0)) : pTake ⟨h, [], false⟩ 1 = (⟨h', [((1, 0, 4, 1), [32, 64, 96, 128, 160, 192, 224])], false⟩, 0, 0) := by
  rw [pTake_new (p := ⟨h, [], false⟩) (order := 1) (by omega) rfl hm, aw_blocks]; rfl
theorem aw_take2 (h' : HeapV) : pTake ⟨h', [((1, 0, 4, 1), [32, 64, 96, 128, 160, 192, 224])], false⟩ 1 = (⟨h', [((1, 0, 4, 1), [64, 96, 128, 160, 192, 224])], false⟩, 32, 0) := by
  rw [pTake_some (p := ⟨h', [((1, 0, 4, 1), [32, 64, 96, 128, 160, 192, 224])], false⟩) (order := 1) (i := 0) (c := ((1, 0, 4, 1), [32, 64, 96, 128, 160, 192, 224])) (by omega) (by show pFirst [((1, 0, 4, 1), [32, 64, 96, 128, 160, 192, 224])] 1 0 true = some 0; decide) rfl]; rfl
theorem awake9 (w : World) : Calls Tryz.prog 10 #[] w fun e w' => e = .returned (.bool true) ∧ Below w.heap.size w w' := by
  obtain ⟨F, ws, hN, c1⟩ := code_made 8 w (by omega) (by omega)
  obtain ⟨h', hM⟩ := aw_make9 hN
  have C2 : Hid (∀ W p hp S, PoolSt w W p hp S ⟨⟨8, F, [], 0⟩, ws, false, []⟩ 0 8 → Calls Tryz.prog 44 #[.pointer (some ⟨p, 0, none⟩), .int .i64 1] W fun e w' => e = .returned (.tuple #[.int .i64 0, .int .i64 0]) ∧ ∃ S' v', PoolSt w w' p hp S' v' (0 + 1) 8 ∧ v'.plain = ⟨h', [((1, 0, 4, 1), [32, 64, 96, 128, 160, 192, 224])], false⟩ ∧ ToO S W S' w') := hidb (fun W p hp S s => t_ptake s (by omega) 1 ⟨by omega, by omega⟩ _ 0 0 (aw_take1 hM))
  have C3 : Hid (∀ W p hp S v, PoolSt w W p hp S v 1 8 → v.plain = ⟨h', [((1, 0, 4, 1), [32, 64, 96, 128, 160, 192, 224])], false⟩ → Calls Tryz.prog 44 #[.pointer (some ⟨p, 0, none⟩), .int .i64 1] W fun e w' => e = .returned (.tuple #[.int .i64 32, .int .i64 0]) ∧ ∃ S' v', PoolSt w w' p hp S' v' (1 + 1) 8 ∧ v'.plain = ⟨h', [((1, 0, 4, 1), [64, 96, 128, 160, 192, 224])], false⟩ ∧ ToO S W S' w') := hidb (fun W p hp S v s hv => t_ptake s (by omega) 1 ⟨by omega, by omega⟩ _ 32 0 (by rw [hv]; exact aw_take2 h'))
  clear hN hM
  go_enter Tryz.func10, Tryz.ntmps10
  go_wp2_with (first
    | (go_at_call 11; (with_reducible refine c1.mono ?_); rintro e w1 ⟨hp, ap, p, S, rfl, s1⟩; have c2 := C2.out _ _ _ _ s1; clear s1)
    | (go_at_call 44; (with_reducible refine c2.mono ?_); rintro e w2 ⟨rfl, S', v', s2, hv2, _⟩; have c3 := C3.out _ _ _ _ _ s2 hv2; clear s2 hv2)
    | (go_at_call 44; (with_reducible refine c3.mono ?_); rintro e w3 ⟨rfl, S3, v3, s3, _, _⟩; have P := hidb s3.bel; clear s3))
  go_ret
  exact ⟨rfl, P.out⟩

end Go.Proofs.YtcgfmpegakpddaaGreat
/- Plain facts on layer 9's statements: what is given back last is taken next; while it is held no span goes. -/
namespace Go.Proofs.YtcgfmpegakpddaaGreat
open Go.RowKit
set_option linter.unusedVariables false

/-- A pool's plain state is a right one. -/
structure POk (p : PoolV) : Prop where
  hok : HOk p.heap
  mem : ∀ c ∈ p.l, c.1 ∈ p.heap.l
  four : ∀ c ∈ p.l, c.1.2.2.1 = 4 ∧ 0 ≤ c.1.2.2.2 ∧ c.1.2.2.2 ≤ 3
  sub : ∀ c ∈ p.l, ∀ x ∈ c.2, x ∈ pBlocks c.1
  nod : ∀ c ∈ p.l, c.2.Nodup
  ids : (p.l.map (·.1.1)).Nodup
theorem PoolSt.pok {w W : World} {p hp : Nat} {S : Nat → Prop} {v : PoolW} {k : Nat} {pages : Int} (s : PoolSt w W p hp S v k pages) : POk v.plain := by
  obtain ⟨Sh, ap, g, mb, n, m, D, q1, q2, q3⟩ := s.pl
  have hn : v.ws.length ≤ 65536 := by rw [q1.ar.hlen]; exact q1.ar.small
  have hm : ∀ c ∈ v.plain.l, ∃ k ∈ v.ks, k.plain = c := fun c hc => List.mem_map.1 hc
  refine ⟨q1.hp_.ok, fun c hc => ?_, fun c hc => ?_, fun c hc => ?_, fun c hc => ?_, ?_⟩
  · obtain ⟨k, hk, rfl⟩ := hm c hc; exact q2.mem k hk
  · obtain ⟨k, hk, rfl⟩ := hm c hc; exact q2.four k hk
  · obtain ⟨k, hk, rfl⟩ := hm c hc; exact q2.sub k hk
  · obtain ⟨k, hk, rfl⟩ := hm c hc; exact (cList_len (q2.lst k hk) hn).2.2.2.2.1
  · show ((v.ks.map CutV.plain).map (·.1.1)).Nodup
    rw [List.map_map]
    exact q2.ids
theorem pOf_spec {l : PL} {x : Int} {i : Nat} (h : pOf l x = some i) : ∃ c, l[i]? = some c ∧ x ∈ pBlocks c.1 := by
  obtain ⟨hi, h1, _⟩ := List.findIdx?_eq_some_iff_getElem.1 h
  exact ⟨l[i], List.getElem?_eq_getElem hi, by simpa using h1⟩
theorem pBlocks_nodup (s : Int × Int × Int × Int) : (pBlocks s).Nodup := by
  unfold pBlocks
  refine List.pairwise_map.2 (List.Pairwise.imp (fun {a b} (h : a < b) e4 => ?_) List.pairwise_lt_range)
  have h1 : a * pSize s.2.2.2 < b * pSize s.2.2.2 := Nat.mul_lt_mul_of_pos_right h (pSize_pos _)
  omega
end Go.Proofs.YtcgfmpegakpddaaGreat
/- append as one step of a region that draws, which tells where the new row lies. No program is named here. -/
namespace Go.Proofs.YtcgfmpegakpddaaGreat
open Go.RowKit Go.Maps
set_option linter.unusedVariables false

end Go.Proofs.YtcgfmpegakpddaaGreat
