/- New of a pool; a pool that a law has made, with its heap and its arena, and what each call does to it. -/
import Derived.Test.YtcgfmpegakpddaaGreatPoolTake
import Derived.Test.YtcgfmpegakpddaaGreatPoolGive
import Derived.Test.YtcgfmpegakpddaaGreatPoolReads2
import Derived.Test.YtcgfmpegakpddaaGreatPoolNils
import Derived.Test.YtcgfmpegakpddaaGreatHeapLaws0
namespace Go.Proofs.YtcgfmpegakpddaaGreat
open Go.RowKit Go.Maps
set_option linter.unusedVariables false

theorem code_pnew_hnil (a : Option Addr) (w : World) : Calls Tryz.prog 47 #[.pointer none, .pointer a] w fun e w' => e = .returned (.pointer none) ∧ w' = w := by
  go_enter Tryz.func47, Tryz.ntmps47
  go_wp2
  go_ret
  exact ⟨rfl, rfl⟩
theorem code_pnew_anil (a : Addr) (w : World) : Calls Tryz.prog 47 #[.pointer (some a), .pointer none] w fun e w' => e = .returned (.pointer none) ∧ w' = w := by
  go_enter Tryz.func47, Tryz.ntmps47
  go_wp2
  go_ret
  exact ⟨rfl, rfl⟩
theorem code_pnew_no {w : World} {Sh : Nat → Prop} {hp ap g n : Nat} {h : HeapV} {ws : List Nat} (k : Hp w Sh hp h) (ha : Ar w 0 ap g n ws) (hn : (n : Int) ≠ 64 * h.pages) :
    Calls Tryz.prog 47 #[.pointer (some ⟨hp, 0, none⟩), .pointer (some ⟨ap, 0, none⟩)] w fun e w' => e = .returned (.pointer none) ∧ Below w.heap.size w w' := by
  have cw := code_awords ap _ _ _ w ha.cell
  have cz := code_hsize k
  have hp0 := k.ok.p0
  have hp1 := k.ok.p1
  obtain ⟨pg, hpg⟩ : ∃ pg, h.pages = pg := ⟨_, rfl⟩
  rw [hpg] at cz hn hp0 hp1
  have hd : ((n : Int) == pg * 64) = false := by simpa using (show ¬ (n : Int) = pg * 64 by omega)
  clear k ha hpg
  go_enter Tryz.func47, Tryz.ntmps47
  go_wp2_with (first
    | (go_at_call 98; (with_reducible refine cw.mono ?_); rintro e w1 ⟨rfl, rfl⟩)
    | (go_at_call 99; (with_reducible refine cz.mono ?_); rintro e w2 ⟨rfl, hb2⟩))
  go_ret
  exact ⟨rfl, hb2⟩
theorem alloc_at (W : World) (o : Obj) : (W.alloc o).heap[W.heap.size]? = some o := by show (W.heap.push o)[W.heap.size]? = _; simp
theorem code_pnew {w : World} {Sh : Nat → Prop} {hp ap g n : Nat} {h : HeapV} {ws : List Nat} (k : Hp w Sh hp h) (ha : Ar w 0 ap g n ws) (hn : (n : Int) = 64 * h.pages) (hw : Wide ws) (h1 : ¬ Sh ap) (h2 : ¬ Sh g) :
    Calls Tryz.prog 47 #[.pointer (some ⟨hp, 0, none⟩), .pointer (some ⟨ap, 0, none⟩)] w fun e w' => ∃ p mb, e = .returned (.pointer (some ⟨p, 0, none⟩)) ∧ PlAt w' Sh p hp ap g mb n 0 (.map []) ⟨h, ws, false, []⟩ ∧ PlOk n 0 ⟨h, ws, false, []⟩ ∧ Below w.heap.size w w' ∧ w.heap.size ≤ p ∧ w.heap.size ≤ mb := by
  have cw := code_awords ap _ _ _ w ha.cell
  have cz := code_hsize k
  have hp0 := k.ok.p0
  have hp1 := k.ok.p1
  have HE : Hid (∀ w2, Below w.heap.size w w2 → PlAt ((w2.alloc (.map #[] 0)).alloc (.cells #[.pointer (some ⟨hp, 0, none⟩), .pointer (some ⟨ap, 0, none⟩), .map (some w2.heap.size), .bool false] 119)) Sh (w2.heap.size + 1) hp ap g w2.heap.size n 0 (.map []) ⟨h, ws, false, []⟩ ∧ Below w.heap.size w ((w2.alloc (.map #[] 0)).alloc (.cells #[.pointer (some ⟨hp, 0, none⟩), .pointer (some ⟨ap, 0, none⟩), .map (some w2.heap.size), .bool false] 119))) := hidb (fun w2 hb => by
    have hb2 := hb.alloc hb.size (.map #[] 0)
    have hb3 := hb2.alloc hb2.size (.cells #[.pointer (some ⟨hp, 0, none⟩), .pointer (some ⟨ap, 0, none⟩), .map (some w2.heap.size), .bool false] 119)
    have hz : (w2.alloc (.map #[] 0)).heap.size = w2.heap.size + 1 := by simp
    have hs := hb.size
    have q : ((w2.alloc (.map #[] 0)).alloc (.cells #[.pointer (some ⟨hp, 0, none⟩), .pointer (some ⟨ap, 0, none⟩), .map (some w2.heap.size), .bool false] 119)).heap[w2.heap.size + 1]? = some (.cells #[.pointer (some ⟨hp, 0, none⟩), .pointer (some ⟨ap, 0, none⟩), .map (some w2.heap.size), .bool false] 119 (0, 0)) := by
      have h9 := alloc_at (w2.alloc (.map #[] 0)) (.cells #[.pointer (some ⟨hp, 0, none⟩), .pointer (some ⟨ap, 0, none⟩), .map (some w2.heap.size), .bool false] 119)
      rw [hz] at h9
      exact h9
    obtain ⟨c0, c1, c2, c3, f0, f1, f2, f3⟩ := cells4 q
    have hm := World.ownsMap_made w2 Tryz.prog 3 ptrR
    have hap := ha.ltp
    have hgl := ha.lt
    have hSl := k.lt
    refine ⟨⟨c0, c1, c2, c3, fun j => ?_, ownsMap_block hm (by rw [Below.heap_alloc _ _ _ (by simp)]), pis_nil, k.below hb3, (ha.below hb3 (Nat.le_refl _)), fun c hc => (by cases hc), ⟨by omega, by omega, by omega, by omega, by omega⟩, fun c hc => (by cases hc), ⟨fun h => by have := hSl _ h; omega, h1, h2, fun h => by have := hSl _ h; omega⟩, List.nodup_nil⟩, hb3⟩
    have hR : Rw ((w2.alloc (.map #[] 0)).alloc (.cells #[.pointer (some ⟨hp, 0, none⟩), .pointer (some ⟨ap, 0, none⟩), .map (some w2.heap.size), .bool false] 119)) (w2.heap.size + 1) 119 [.pointer (some ⟨hp, 0, none⟩), .pointer (some ⟨ap, 0, none⟩), .map (some w2.heap.size), .bool false] := q
    exact hR.free j)
  have HOK : Hid (PlOk n 0 ⟨h, ws, false, []⟩) := hidb ⟨hn, hw, fun c hc => (by cases hc), fun c hc => (by cases hc), fun c hc => (by cases hc), fun c hc => (by cases hc), List.nodup_nil, by have := k.ok.la; show ((0 : Nat) : Int) ≤ h.last; omega⟩
  have hmk := @run_makeMap Tryz.prog
  obtain ⟨pg, hpg⟩ : ∃ pg, h.pages = pg := ⟨_, rfl⟩
  rw [hpg] at cz hn hp0 hp1
  have hd : ((n : Int) == pg * 64) = true := by simpa using (show (n : Int) = pg * 64 by omega)
  clear k ha hpg hw h1 h2 hn
  go_enter Tryz.func47, Tryz.ntmps47
  go_wp2_with (first
    | (go_at_call 98; (with_reducible refine cw.mono ?_); rintro e w1 ⟨rfl, rfl⟩)
    | (go_at_call 99; (with_reducible refine cz.mono ?_); rintro e w2 ⟨rfl, hb2⟩; have P := hidb (HE.out w2 hb2); have hs2 := hb2.size))
  go_ret
  obtain ⟨p1, p2⟩ := P.out
  exact ⟨w2.heap.size + 1, w2.heap.size, rfl, p1, HOK.out, p2, by omega, by omega⟩

/-- A pool that the law has made, behind k spans at most. -/
structure PoolSt (w W : World) (p hp : Nat) (S : Nat → Prop) (v : PoolW) (k : Nat) (pages : Int) : Prop where
  pl : ∃ Sh ap g mb n m D, PlAt W Sh p hp ap g mb n m D v ∧ PlOk n m v ∧ ∀ b, PlS Sh p ap g mb v.ks b → S b
  lt : ∀ b, S b → b < W.heap.size
  low : ∀ b, S b → w.heap.size ≤ b
  bel : Below w.heap.size w W
  la : v.h.last ≤ k
  pg : v.h.pages = pages
theorem more_any {S : Nat → Prop} {W W' : World} {b : Nat} (h : S b ∨ W.heap.size ≤ b) (hl : b < W'.heap.size) : more S W W' b := ⟨h, hl⟩
section
variable {w W W' : World} {p hp : Nat} {S : Nat → Prop} {v v' : PoolW} {k k' : Nat} {pages : Int}
theorem PoolSt.below (s : PoolSt w W p hp S v k pages) (hb : Below W.heap.size W W') : PoolSt w W' p hp S v k pages := by
  obtain ⟨⟨Sh, ap, g, mb, n, m, D, q1, q2, q3⟩, l1, l2, l3, l4, l5⟩ := s
  exact ⟨⟨Sh, ap, g, mb, n, m, D, q1.below hb, q2, q3⟩, fun b h => Nat.lt_of_lt_of_le (l1 b h) hb.size, l2, l3.trans (hb.mono l3.size), l4, l5⟩
theorem PoolSt.did {Sh : Nat → Prop} {ap g mb n : Nat} (s : PoolSt w W p hp S v k pages) (h3 : ∀ b, PlS Sh p ap g mb v.ks b → S b) (h : Went W Sh p hp ap g mb n v.ks W' v') (hl : v'.h.last ≤ k') (hg : v'.h.pages = v.h.pages) : PoolSt w W' p hp (more S W W') v' k' pages ∧ Kept S W W' := by
  obtain ⟨S2, m2, D2, q1, q2, q3, q4⟩ := h
  have hK : Kept S W W' := ⟨q3.os, q3.tape, q3.output, q3.size, fun b hb hn => q3.block b hb (fun c => hn (h3 b c))⟩
  refine ⟨⟨⟨S2, ap, g, mb, n, m2, D2, q1, q2, fun b hb => more_any ?_ (q1.lt b hb)⟩, fun b hb => hb.2, more_low s.bel.size s.low, s.bel.trans (hK.below s.bel.size s.low), hl, hg.trans s.pg⟩, hK⟩
  rcases q4 b hb with h4 | h4
  · exact Or.inl (h3 b h4)
  · exact Or.inr h4
theorem PoolSt.new_ {e : TypeId} {t : Nat} {u : Value} {n : Nat} {xs : List Value} (st : PoolSt w W p hp S v k pages) (hr : W'.ownsRow W.heap.size e t u n xs) : OwnAp S W' W.heap.size e t u n xs :=
  ⟨hr, fun q hq c => by have h1 := (hr.lt q hq).1; have h2 := st.lt q c; omega⟩
end

theorem pSweep_heap {h : HeapV} (k : HOk h) (l : PL) (held : Bool) : (pSweep ⟨h, l, held⟩).heap.pages = h.pages ∧ (pSweep ⟨h, l, held⟩).heap.last = h.last := by
  unfold pSweep
  split
  · exact ⟨rfl, rfl⟩
  · have := hDrop_ok k ((l.filter pWhole).map (·.1.1))
    exact ⟨this.2.1, this.2.2.2⟩
theorem pTake_heap {p : PoolV} (k : HOk p.heap) (order : Int) : (pTake p order).1.heap.pages = p.heap.pages ∧ (pTake p order).1.heap.last ≤ p.heap.last + 1 := by
  have h := hMake_ok k 4 order
  unfold pTake
  split
  · exact ⟨rfl, by show p.heap.last ≤ p.heap.last + 1; omega⟩
  · split
    · split
      · exact ⟨rfl, by show p.heap.last ≤ p.heap.last + 1; omega⟩
      · exact ⟨rfl, by show p.heap.last ≤ p.heap.last + 1; omega⟩
    · split
      · exact ⟨h.2.1, h.2.2.2⟩
      · exact ⟨rfl, by show p.heap.last ≤ p.heap.last + 1; omega⟩
theorem gGive_heap {p : PoolV} (k : HOk p.heap) (xs : List Int) : (gGive p xs).1.heap.pages = p.heap.pages ∧ (gGive p xs).1.heap.last = p.heap.last := by
  unfold gGive
  split
  · exact ⟨rfl, rfl⟩
  · split
    · exact ⟨rfl, rfl⟩
    · exact pSweep_heap k _ _

section
variable {w W : World} {p hp : Nat} {S : Nat → Prop} {v : PoolW} {k : Nat} {pages : Int}
theorem t_ptake (s : PoolSt w W p hp S v k pages) (hk : k + 1 ≤ 1000000000) (order : Int) (ho : in64 order) (p' : PoolV) (at' no : Int) (e : pTake v.plain order = (p', at', no)) :
    Calls Tryz.prog 44 #[.pointer (some ⟨p, 0, none⟩), .int .i64 order] W fun e w' => e = .returned (.tuple #[.int .i64 at', .int .i64 no]) ∧ ∃ S' v', PoolSt w w' p hp S' v' (k + 1) pages ∧ v'.plain = p' ∧ ToO S W S' w' := by
  by_cases c : order < 0 ∨ 3 < order
  · refine (code_ptake_arg (some ⟨p, 0, none⟩) order ho c W).mono ?_
    unfold pTake at e
    rw [if_pos c] at e
    injection e with e1 e2
    injection e2 with e2 e3
    subst e2 e3
    rintro e w' ⟨rfl, hb⟩
    have s2 := s.below hb
    exact ⟨rfl, S, v, ⟨s2.pl, s2.lt, s2.low, s2.bel, by have := s2.la; omega, s2.pg⟩, e1, ToO.below hb⟩
  · obtain ⟨Sh, ap, g, mb, n, m, D, q1, q2, q3⟩ := s.pl
    have hla := s.la
    refine (code_ptake q1 q2 order (by omega) (by omega)).mono ?_
    rintro e' w' ⟨at2, no2, v', rfl, hw, e2, _⟩
    rw [e] at e2
    injection e2 with e3 e4
    injection e4 with e4 e5
    subst e4 e5
    have hh := pTake_heap (p := v.plain) q1.hp_.ok order
    rw [e, e3] at hh
    obtain ⟨s2, hK⟩ := s.did (k' := k + 1) q3 hw (by have h1 : v'.h.last ≤ v.h.last + 1 := hh.2; omega) hh.1
    exact ⟨rfl, _, v', s2, e3.symm, ToO.did hK⟩
theorem t_pgive (s : PoolSt w W p hp S v k pages) (A : Option Addr) (N c : Nat) (xs : List Int) (hs : Sl W W.heap.size A N (xs.map iv)) (hA : ∀ a, A = some a → ¬ S a.block) (hN : N ≤ 65536) (hx : ∀ x ∈ xs, in64 x) (p' : PoolV) (no : Int) (e : gGive v.plain xs = (p', no)) :
    Calls Tryz.prog 52 #[.pointer (some ⟨p, 0, none⟩), .slice A N c] W fun e w' => e = .returned (.int .i64 no) ∧ ∃ S' v', PoolSt w w' p hp S' v' k pages ∧ v'.plain = p' ∧ ToO S W S' w' := by
  obtain ⟨Sh, ap, g, mb, n, m, D, q1, q2, q3⟩ := s.pl
  refine (code_pgive q1 q2 A N c xs hs (fun _ a ha h => hA a ha (q3 _ h)) hN hx).mono ?_
  rintro e' w' ⟨no2, v', rfl, hw, e2, _⟩
  rw [e] at e2
  injection e2 with e3 e4
  subst e4
  have hh := gGive_heap (p := v.plain) q1.hp_.ok xs
  rw [e, e3] at hh
  obtain ⟨s2, hK⟩ := s.did (k' := k) q3 hw (by have h1 : v'.h.last = v.h.last := hh.2; have := s.la; omega) hh.1
  exact ⟨rfl, _, v', s2, e3.symm, ToO.did hK⟩
theorem holdV_plain {n m : Nat} {v : PoolW} (o : PlOk n m v) (hn : v.ws.length ≤ 65536) (on : Bool) : (holdV v on).plain = pSweep { v.plain with held := on } := by
  have o2 : PlOk n m { v with held := on } := ⟨o.len, o.wide, o.mem, o.four, o.lst, o.sub, o.ids, o.cnt⟩
  unfold holdV
  rw [o2.trim_plain hn]
  rfl
theorem t_phold (s : PoolSt w W p hp S v k pages) (on : Bool) (p' : PoolV) (was : Bool) (e : pSweep { v.plain with held := on } = p') (hwas : v.held = was) :
    Calls Tryz.prog 54 #[.pointer (some ⟨p, 0, none⟩), .bool on] W fun e w' => e = .returned (.bool was) ∧ ∃ S' v', PoolSt w w' p hp S' v' k pages ∧ v'.plain = p' ∧ ToO S W S' w' := by
  obtain ⟨Sh, ap, g, mb, n, m, D, q1, q2, q3⟩ := s.pl
  have hpl := holdV_plain q2 (by rw [q1.ar.hlen]; exact q1.ar.small) on
  refine (code_phold q1 q2 on).mono ?_
  rintro e' w' ⟨rfl, S2, D2, r1, r2, r3, r4⟩
  have hsub : ∀ c ∈ (holdV v on).ks, c ∈ v.ks := fun c hc => by
    unfold holdV trimV at hc
    split at hc
    · exact hc
    · exact (List.mem_filter.1 hc).1
  have hw : Went W Sh p hp ap g mb n v.ks w' (holdV v on) := ⟨S2, m, D2, r1, r2, r3, fun b hb => by
    rcases hb with h | h | h | h | h | ⟨c, hc, e⟩
    · rcases r4 b h with h2 | h2
      · exact Or.inl (Or.inl h2)
      · exact Or.inr h2
    · exact Or.inl (Or.inr (Or.inl h))
    · exact Or.inl (Or.inr (Or.inr (Or.inl h)))
    · exact Or.inl (Or.inr (Or.inr (Or.inr (Or.inl h))))
    · exact Or.inl (Or.inr (Or.inr (Or.inr (Or.inr (Or.inl h)))))
    · exact Or.inl (Or.inr (Or.inr (Or.inr (Or.inr (Or.inr ⟨c, hsub c hc, e⟩)))))⟩
  have hh := pSweep_heap q1.hp_.ok v.plain.l on
  rw [show (⟨v.h, v.plain.l, on⟩ : PoolV) = { v.plain with held := on } from rfl, ← hpl] at hh
  obtain ⟨s2, hK⟩ := s.did (k' := k) q3 hw (by have h1 : (holdV v on).h.last = v.h.last := hh.2; have := s.la; omega) hh.1
  exact ⟨by rw [hwas], _, holdV v on, s2, by rw [hpl, e], ToO.did hK⟩
theorem t_porder (s : PoolSt w W p hp S v k pages) (a : Int) (ha : in64 a) (r : Int) (e : orderP v.ks a = r) :
    Calls Tryz.prog 19 #[.pointer (some ⟨p, 0, none⟩), .int .i64 a] W fun e w' => e = .returned (.int .i64 r) ∧ Below W.heap.size W w' := by
  obtain ⟨Sh, ap, g, mb, n, m, D, q1, q2, q3⟩ := s.pl
  have := code_porder q1 q2 a ha
  rw [e] at this
  exact this
theorem t_plist (s : PoolSt w W p hp S v k pages) (order : Int) : Calls Tryz.prog 17 #[.pointer (some ⟨p, 0, none⟩), .int .i64 order] W (Reads9 W v.ks (fun k => k.s.2.2.2 == order) (·.l)) := by
  obtain ⟨Sh, ap, g, mb, n, m, D, q1, q2, q3⟩ := s.pl
  exact code_plist q1 q2 order
theorem t_pout (s : PoolSt w W p hp S v k pages) : Calls Tryz.prog 21 #[.pointer (some ⟨p, 0, none⟩)] W (Reads9 W v.ks (fun _ => true) outK) := by
  obtain ⟨Sh, ap, g, mb, n, m, D, q1, q2, q3⟩ := s.pl
  exact code_pout q1 q2 ()
theorem t_pspans (s : PoolSt w W p hp S v k pages) (order : Int) : Calls Tryz.prog 14 #[.pointer (some ⟨p, 0, none⟩), .int .i64 order] W fun e w' => ∃ ds, InOrderP v.ks ds ∧ OwnSpansC W ((ds.filter (fun k => k.s.2.2.2 == order)).map (·.s)) e w' := by
  obtain ⟨Sh, ap, g, mb, n, m, D, q1, q2, q3⟩ := s.pl
  exact code_pspans q1 q2 order
theorem t_phruns (s : PoolSt w W p hp S v k pages) : Calls Tryz.prog 27 #[.pointer (some ⟨hp, 0, none⟩)] W (OwnRuns W (fList v.h.free)) := by
  obtain ⟨Sh, ap, g, mb, n, m, D, q1, q2, q3⟩ := s.pl
  exact code_hruns q1.hp_
theorem t_phspans (s : PoolSt w W p hp S v k pages) : Calls Tryz.prog 24 #[.pointer (some ⟨hp, 0, none⟩)] W (OwnSpansC W (hSpans v.h)) := by
  obtain ⟨Sh, ap, g, mb, n, m, D, q1, q2, q3⟩ := s.pl
  exact code_hspans q1.hp_
end

end Go.Proofs.YtcgfmpegakpddaaGreat
