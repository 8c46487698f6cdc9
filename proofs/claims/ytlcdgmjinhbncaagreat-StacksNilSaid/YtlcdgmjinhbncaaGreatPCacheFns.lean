/- New of a pool; a pool that a law has made, with its heap and its arena, and what each call does to it. -/
import Derived.Test.YtlcdgmjinhbncaaGreatPPoolTake
import Derived.Test.YtlcdgmjinhbncaaGreatPPoolGive
import Derived.Test.YtlcdgmjinhbncaaGreatPPoolReads2
import Derived.Test.YtlcdgmjinhbncaaGreatPPoolReads2
import Derived.Test.YtlcdgmjinhbncaaGreatPPoolReads2
import Derived.Test.YtlcdgmjinhbncaaGreatPPoolTrim
namespace Go.Proofs.YtlcdgmjinhbncaaGreat
open Go.RowKit Go.Maps
set_option linter.unusedVariables false

theorem alloc_at (W : World) (o : Obj) : (W.alloc o).heap[W.heap.size]? = some o := by show (W.heap.push o)[W.heap.size]? = _; simp
theorem code_pnew {w : World} {Sh : Nat → Prop} {hp ap g n : Nat} {h : HeapV} {ws : List Nat} (k : Hp w Sh hp h) (ha : Ar w 0 ap g n ws) (hn : (n : Int) = 64 * h.pages) (hw : Wide ws) (h1 : ¬ Sh ap) (h2 : ¬ Sh g) :
    Calls Tryz.prog 63 #[.pointer (some ⟨hp, 0, none⟩), .pointer (some ⟨ap, 0, none⟩)] w fun e w' => ∃ p mb, e = .returned (.pointer (some ⟨p, 0, none⟩)) ∧ PlAt w' Sh p hp ap g mb n 0 (.map []) ⟨h, ws, false, []⟩ ∧ PlOk n 0 ⟨h, ws, false, []⟩ ∧ Below w.heap.size w w' ∧ w.heap.size ≤ p ∧ w.heap.size ≤ mb := by
  have cw := code_awords ap _ _ _ w ha.cell
  have cz := code_hsize k
  have hp0 := k.ok.p0
  have hp1 := k.ok.p1
  have HE : Hid (∀ w2, Below w.heap.size w w2 → PlAt ((w2.alloc (.map #[] 0)).alloc (.cells #[.pointer (some ⟨hp, 0, none⟩), .pointer (some ⟨ap, 0, none⟩), .map (some w2.heap.size), .bool false] 145)) Sh (w2.heap.size + 1) hp ap g w2.heap.size n 0 (.map []) ⟨h, ws, false, []⟩ ∧ Below w.heap.size w ((w2.alloc (.map #[] 0)).alloc (.cells #[.pointer (some ⟨hp, 0, none⟩), .pointer (some ⟨ap, 0, none⟩), .map (some w2.heap.size), .bool false] 145))) := hidb (fun w2 hb => by
    have hb2 := hb.alloc hb.size (.map #[] 0)
    have hb3 := hb2.alloc hb2.size (.cells #[.pointer (some ⟨hp, 0, none⟩), .pointer (some ⟨ap, 0, none⟩), .map (some w2.heap.size), .bool false] 145)
    have hz : (w2.alloc (.map #[] 0)).heap.size = w2.heap.size + 1 := by simp
    have hs := hb.size
    have q : ((w2.alloc (.map #[] 0)).alloc (.cells #[.pointer (some ⟨hp, 0, none⟩), .pointer (some ⟨ap, 0, none⟩), .map (some w2.heap.size), .bool false] 145)).heap[w2.heap.size + 1]? = some (.cells #[.pointer (some ⟨hp, 0, none⟩), .pointer (some ⟨ap, 0, none⟩), .map (some w2.heap.size), .bool false] 145 (0, 0)) := by
      have h9 := alloc_at (w2.alloc (.map #[] 0)) (.cells #[.pointer (some ⟨hp, 0, none⟩), .pointer (some ⟨ap, 0, none⟩), .map (some w2.heap.size), .bool false] 145)
      rw [hz] at h9
      exact h9
    obtain ⟨c0, c1, c2, c3, f0, f1, f2, f3⟩ := cells4 q
    have hm := World.ownsMap_made w2 Tryz.prog 3 ptrR
    have hap := ha.ltp
    have hgl := ha.lt
    have hSl := k.lt
    refine ⟨⟨c0, c1, c2, c3, fun j => ?_, ownsMap_block hm (by rw [Below.heap_alloc _ _ _ (by simp)]), pis_nil, k.below hb3, (ha.below hb3 (Nat.le_refl _)), fun c hc => (by cases hc), ⟨by omega, by omega, by omega, by omega, by omega⟩, fun c hc => (by cases hc), ⟨fun h => by have := hSl _ h; omega, h1, h2, fun h => by have := hSl _ h; omega⟩, List.nodup_nil⟩, hb3⟩
    have hR : Rw ((w2.alloc (.map #[] 0)).alloc (.cells #[.pointer (some ⟨hp, 0, none⟩), .pointer (some ⟨ap, 0, none⟩), .map (some w2.heap.size), .bool false] 145)) (w2.heap.size + 1) 145 [.pointer (some ⟨hp, 0, none⟩), .pointer (some ⟨ap, 0, none⟩), .map (some w2.heap.size), .bool false] := q
    exact hR.free j)
  have HOK : Hid (PlOk n 0 ⟨h, ws, false, []⟩) := hidb ⟨hn, hw, fun c hc => (by cases hc), fun c hc => (by cases hc), fun c hc => (by cases hc), fun c hc => (by cases hc), List.nodup_nil, by have := k.ok.la; show ((0 : Nat) : Int) ≤ h.last; omega⟩
  have hmk := @run_makeMap Tryz.prog
  obtain ⟨pg, hpg⟩ : ∃ pg, h.pages = pg := ⟨_, rfl⟩
  rw [hpg] at cz hn hp0 hp1
  have hd : ((n : Int) == pg * 64) = true := by simpa using (show (n : Int) = pg * 64 by omega)
  clear k ha hpg hw h1 h2 hn
  go_enter Tryz.func63, Tryz.ntmps63
  go_wp2_with (first
    | (go_at_call 135; (with_reducible refine cw.mono ?_); rintro e w1 ⟨rfl, rfl⟩)
    | (go_at_call 136; (with_reducible refine cz.mono ?_); rintro e w2 ⟨rfl, hb2⟩; have P := hidb (HE.out w2 hb2); have hs2 := hb2.size))
  go_ret
  obtain ⟨p1, p2⟩ := P.out
  exact ⟨w2.heap.size + 1, w2.heap.size, rfl, p1, HOK.out, p2, by omega, by omega⟩

/-- A pool that the law has made, behind k spans at most. -/
structure PoolSt (w W : World) (p hp : Nat) (S : Nat → Prop) (v : PoolW) (k : Nat) (pages : Int) : Prop where
  pl : ∃ Sh ap g mb n m D, PlAt W Sh p hp ap g mb n m D v ∧ PlOk n m v ∧ ∀ b, PlS Sh p ap g mb v.ks b → S b
  lt : ∀ b, S b → b < W.heap.size
  low : ∀ b, S b → w.heap.size ≤ b
  bel : Below w.heap.size w W
  la : v.h.last ≤ k
  pg : v.h.pages = pages
theorem more_any {S : Nat → Prop} {W W' : World} {b : Nat} (h : S b ∨ W.heap.size ≤ b) (hl : b < W'.heap.size) : more S W W' b := ⟨h, hl⟩
section
variable {w W W' : World} {p hp : Nat} {S : Nat → Prop} {v v' : PoolW} {k k' : Nat} {pages : Int}
theorem PoolSt.below (s : PoolSt w W p hp S v k pages) (hb : Below W.heap.size W W') : PoolSt w W' p hp S v k pages := by
  obtain ⟨⟨Sh, ap, g, mb, n, m, D, q1, q2, q3⟩, l1, l2, l3, l4, l5⟩ := s
  exact ⟨⟨Sh, ap, g, mb, n, m, D, q1.below hb, q2, q3⟩, fun b h => Nat.lt_of_lt_of_le (l1 b h) hb.size, l2, l3.trans (hb.mono l3.size), l4, l5⟩
theorem PoolSt.did {Sh : Nat → Prop} {ap g mb n : Nat} (s : PoolSt w W p hp S v k pages) (h3 : ∀ b, PlS Sh p ap g mb v.ks b → S b) (h : Went W Sh p hp ap g mb n v.ks W' v') (hl : v'.h.last ≤ k') (hg : v'.h.pages = v.h.pages) : PoolSt w W' p hp (more S W W') v' k' pages ∧ Kept S W W' := by
  obtain ⟨S2, m2, D2, q1, q2, q3, q4⟩ := h
  have hK : Kept S W W' := ⟨q3.os, q3.tape, q3.output, q3.size, fun b hb hn => q3.block b hb (fun c => hn (h3 b c))⟩
  refine ⟨⟨⟨S2, ap, g, mb, n, m2, D2, q1, q2, fun b hb => more_any ?_ (q1.lt b hb)⟩, fun b hb => hb.2, more_low s.bel.size s.low, s.bel.trans (hK.below s.bel.size s.low), hl, hg.trans s.pg⟩, hK⟩
  rcases q4 b hb with h4 | h4
  · exact Or.inl (h3 b h4)
  · exact Or.inr h4
theorem PoolSt.new_ {e : TypeId} {t : Nat} {u : Value} {n : Nat} {xs : List Value} (st : PoolSt w W p hp S v k pages) (hr : W'.ownsRow W.heap.size e t u n xs) : OwnAp S W' W.heap.size e t u n xs :=
  ⟨hr, fun q hq c => by have h1 := (hr.lt q hq).1; have h2 := st.lt q c; omega⟩
end

theorem pSweep_heap {h : HeapV} (k : HOk h) (l : PL) (held : Bool) : (pSweep ⟨h, l, held⟩).heap.pages = h.pages ∧ (pSweep ⟨h, l, held⟩).heap.last = h.last := by
  unfold pSweep
  split
  · exact ⟨rfl, rfl⟩
  · have := hDrop_ok k ((l.filter pWhole).map (·.1.1))
    exact ⟨this.2.1, this.2.2.2⟩
theorem pTake_heap {p : PoolV} (k : HOk p.heap) (order : Int) : (pTake p order).1.heap.pages = p.heap.pages ∧ (pTake p order).1.heap.last ≤ p.heap.last + 1 := by
  have h := hMake_ok k 4 order
  unfold pTake
  split
  · exact ⟨rfl, by show p.heap.last ≤ p.heap.last + 1; omega⟩
  · split
    · split
      · exact ⟨rfl, by show p.heap.last ≤ p.heap.last + 1; omega⟩
      · exact ⟨rfl, by show p.heap.last ≤ p.heap.last + 1; omega⟩
    · split
      · exact ⟨h.2.1, h.2.2.2⟩
      · exact ⟨rfl, by show p.heap.last ≤ p.heap.last + 1; omega⟩
theorem gGive_heap {p : PoolV} (k : HOk p.heap) (xs : List Int) : (gGive p xs).1.heap.pages = p.heap.pages ∧ (gGive p xs).1.heap.last = p.heap.last := by
  unfold gGive
  split
  · exact ⟨rfl, rfl⟩
  · split
    · exact ⟨rfl, rfl⟩
    · exact pSweep_heap k _ _

section
variable {w W : World} {p hp : Nat} {S : Nat → Prop} {v : PoolW} {k : Nat} {pages : Int}
theorem t_porder (s : PoolSt w W p hp S v k pages) (a : Int) (ha : in64 a) (r : Int) (e : orderP v.ks a = r) :
    Calls Tryz.prog 20 #[.pointer (some ⟨p, 0, none⟩), .int .i64 a] W fun e w' => e = .returned (.int .i64 r) ∧ Below W.heap.size W w' := by
  obtain ⟨Sh, ap, g, mb, n, m, D, q1, q2, q3⟩ := s.pl
  have := code_porder q1 q2 a ha
  rw [e] at this
  exact this
theorem t_pout (s : PoolSt w W p hp S v k pages) : Calls Tryz.prog 22 #[.pointer (some ⟨p, 0, none⟩)] W (Reads9 W v.ks (fun _ => true) outK) := by
  obtain ⟨Sh, ap, g, mb, n, m, D, q1, q2, q3⟩ := s.pl
  exact code_pout q1 q2 ()
theorem t_phruns (s : PoolSt w W p hp S v k pages) : Calls Tryz.prog 28 #[.pointer (some ⟨hp, 0, none⟩)] W (OwnRuns W (fList v.h.free)) := by
  obtain ⟨Sh, ap, g, mb, n, m, D, q1, q2, q3⟩ := s.pl
  exact code_hruns q1.hp_
theorem t_phspans (s : PoolSt w W p hp S v k pages) : Calls Tryz.prog 25 #[.pointer (some ⟨hp, 0, none⟩)] W (OwnSpansC W (hSpans v.h)) := by
  obtain ⟨Sh, ap, g, mb, n, m, D, q1, q2, q3⟩ := s.pl
  exact code_hspans q1.hp_
end

end Go.Proofs.YtlcdgmjinhbncaaGreat
/- What layer 9's statements have in common: a heap, an arena and their pool; the document's example. -/
namespace Go.Proofs.YtlcdgmjinhbncaaGreat
open Go.RowKit
set_option linter.unusedVariables false

/-- The document's example. -/
theorem aw_make9 {F : List Bool} (hN : hNew 8 = (⟨8, F, [], 0⟩, 0)) : ∃ h', hMake ⟨8, F, [], 0⟩ 4 1 = (h', (1, 0, 4, 1), 0) := by
  obtain ⟨F', e1, _, hk⟩ := hNew_ok (pages := 8) (by omega) (by omega)
  obtain rfl : F' = F := by rw [e1] at hN; injection hN with hN _; injection hN
  have hl := hk.ends rfl
  simp only at hl
  have hb : fBest F' 4 = some (0, 8) := by
    rw [fBest_is F' (by have := hk.fl; simp only at this; omega), hl]
    rfl
  obtain ⟨g, _, _, _, e, _⟩ := hMake_yes hk (n := 4) (o := 1) (by omega) hb
  exact ⟨_, e⟩
theorem aw_blocks : pBlocks (1, 0, 4, 1) = [0, 32, 64, 96, 128, 160, 192, 224] := by decide
theorem aw_take1 {h h' : HeapV} (hm : hMake h 4 1 = (h', (1, 0, 4, 1), 0)) : pTake ⟨h, [], false⟩ 1 = (⟨h', [((1, 0, 4, 1), [32, 64, 96, 128, 160, 192, 224])], false⟩, 0, 0) := by
  rw [pTake_new (p := ⟨h, [], false⟩) (order := 1) (by omega) rfl hm, aw_blocks]; rfl
theorem aw_take2 (h' : HeapV) : pTake ⟨h', [((1, 0, 4, 1), [32, 64, 96, 128, 160, 192, 224])], false⟩ 1 = (⟨h', [((1, 0, 4, 1), [64, 96, 128, 160, 192, 224])], false⟩, 32, 0) := by
  rw [pTake_some (p := ⟨h', [((1, 0, 4, 1), [32, 64, 96, 128, 160, 192, 224])], false⟩) (order := 1) (i := 0) (c := ((1, 0, 4, 1), [32, 64, 96, 128, 160, 192, 224])) (by omega) (by show pFirst [((1, 0, 4, 1), [32, 64, 96, 128, 160, 192, 224])] 1 0 true = some 0; decide) rfl]; rfl
end Go.Proofs.YtlcdgmjinhbncaaGreat
/- Plain facts on layer 9's statements: what is given back last is taken next; while it is held no span goes. -/
namespace Go.Proofs.YtlcdgmjinhbncaaGreat
open Go.RowKit
set_option linter.unusedVariables false

/-- A pool's plain state is a right one. -/
structure POk (p : PoolV) : Prop where
  hok : HOk p.heap
  mem : ∀ c ∈ p.l, c.1 ∈ p.heap.l
  four : ∀ c ∈ p.l, c.1.2.2.1 = 4 ∧ 0 ≤ c.1.2.2.2 ∧ c.1.2.2.2 ≤ 3
  sub : ∀ c ∈ p.l, ∀ x ∈ c.2, x ∈ pBlocks c.1
  nod : ∀ c ∈ p.l, c.2.Nodup
  ids : (p.l.map (·.1.1)).Nodup
theorem PoolSt.pok {w W : World} {p hp : Nat} {S : Nat → Prop} {v : PoolW} {k : Nat} {pages : Int} (s : PoolSt w W p hp S v k pages) : POk v.plain := by
  obtain ⟨Sh, ap, g, mb, n, m, D, q1, q2, q3⟩ := s.pl
  have hn : v.ws.length ≤ 65536 := by rw [q1.ar.hlen]; exact q1.ar.small
  have hm : ∀ c ∈ v.plain.l, ∃ k ∈ v.ks, k.plain = c := fun c hc => List.mem_map.1 hc
  refine ⟨q1.hp_.ok, fun c hc => ?_, fun c hc => ?_, fun c hc => ?_, fun c hc => ?_, ?_⟩
  · obtain ⟨k, hk, rfl⟩ := hm c hc; exact q2.mem k hk
  · obtain ⟨k, hk, rfl⟩ := hm c hc; exact q2.four k hk
  · obtain ⟨k, hk, rfl⟩ := hm c hc; exact q2.sub k hk
  · obtain ⟨k, hk, rfl⟩ := hm c hc; exact (cList_len (q2.lst k hk) hn).2.2.2.2.1
  · show ((v.ks.map CutV.plain).map (·.1.1)).Nodup
    rw [List.map_map]
    exact q2.ids
theorem plain_inj {l : PL} (hd : (l.map (·.1.1)).Nodup) {i j : Nat} {c d : (Int × Int × Int × Int) × List Int} (hi : l[i]? = some c) (hj : l[j]? = some d) (h : c.1.1 = d.1.1) : i = j := by
  obtain ⟨hi2, e1⟩ := List.getElem?_eq_some_iff.1 hi
  obtain ⟨hj2, e2⟩ := List.getElem?_eq_some_iff.1 hj
  have := List.pairwise_iff_getElem.1 hd
  rcases Nat.lt_trichotomy i j with hlt | e | hlt
  · exact absurd (by rw [List.getElem_map, List.getElem_map, e1, e2, h]) (this i j (by simpa using hi2) (by simpa using hj2) hlt)
  · exact e
  · exact absurd (by rw [List.getElem_map, List.getElem_map, e1, e2, h]) (this j i (by simpa using hj2) (by simpa using hi2) hlt)
theorem pOf_spec {l : PL} {x : Int} {i : Nat} (h : pOf l x = some i) : ∃ c, l[i]? = some c ∧ x ∈ pBlocks c.1 := by
  obtain ⟨hi, h1, _⟩ := List.findIdx?_eq_some_iff_getElem.1 h
  exact ⟨l[i], List.getElem?_eq_getElem hi, by simpa using h1⟩
theorem POk.of_at {p : PoolV} (o : POk p) {i : Nat} {c : (Int × Int × Int × Int) × List Int} (hi : p.l[i]? = some c) {x : Int} (hx : x ∈ pBlocks c.1) : pOf p.l x = some i := by
  have hcm := List.mem_of_getElem? hi
  cases h : pOf p.l x with
  | none =>
    have := List.findIdx?_eq_none_iff.1 h c hcm
    simp [hx] at this
  | some j =>
    obtain ⟨d, hd, hxd⟩ := pOf_spec h
    have hdm := List.mem_of_getElem? hd
    obtain ⟨f1, f2, f3⟩ := o.four c hcm
    obtain ⟨g1, g2, g3⟩ := o.four d hdm
    have e := o.hok.apart (o.mem c hcm) (o.mem d hdm) (blocks_page hx f1 ⟨f2, f3⟩) (blocks_page hxd g1 ⟨g2, g3⟩)
    rw [plain_inj o.ids hi hd (by rw [e])]
theorem pBlocks_nodup (s : Int × Int × Int × Int) : (pBlocks s).Nodup := by
  unfold pBlocks
  refine List.pairwise_map.2 (List.Pairwise.imp (fun {a b} (h : a < b) e4 => ?_) List.pairwise_lt_range)
  have h1 : a * pSize s.2.2.2 < b * pSize s.2.2.2 := Nat.mul_lt_mul_of_pos_right h (pSize_pos _)
  omega
end Go.Proofs.YtlcdgmjinhbncaaGreat
/- Layer 9's statement on the block that was given back last. -/
namespace Go.Proofs.YtlcdgmjinhbncaaGreat
open Go.RowKit
set_option linter.unusedVariables false

theorem pTake_held (p : PoolV) (order : Int) : (pTake p order).1.held = p.held := by
  unfold pTake
  split
  · rfl
  · cases pFirst p.l order 0 true with
    | some i =>
      simp only
      cases p.l[i]? <;> rfl
    | none =>
      simp only
      split <;> rfl
theorem pSweep_held (p : PoolV) : (pSweep p).held = p.held := by
  unfold pSweep
  split <;> rfl

section
variable {w W : World} {p hp : Nat} {S : Nat → Prop} {v : PoolW} {k : Nat} {pages : Int}
theorem orderP_of {ks : List CutV} {x : Int} {i : Nat} {s : Int × Int × Int × Int} {r : List Int} (h1 : pOf (ks.map CutV.plain) x = some i) (h2 : (ks.map CutV.plain)[i]? = some (s, r)) (h3 : x ∉ r) : orderP ks x = s.2.2.2 := by
  rcases cut_of ks x with ⟨_, e⟩ | ⟨c, j, e1, e2, e3⟩
  · rw [e] at h1; cases h1
  · rw [e2] at h1
    obtain rfl := Option.some.inj h1
    rw [List.getElem?_map, e3] at h2
    have h2' : (c.s, c.l) = (s, r) := Option.some.inj h2
    injection h2' with a1 a2
    unfold orderP
    rw [e1]
    simp only
    rw [a2, if_neg h3, a1]
end

end Go.Proofs.YtlcdgmjinhbncaaGreat
/- Plain facts on a pool's blocks: each is out, or in its span's list. No program is named here. -/
namespace Go.Proofs.YtlcdgmjinhbncaaGreat
set_option linter.unusedVariables false

section
variable {p : PoolV}
/-- A block is of one span alone. -/
theorem POk.one_span (o : POk p) {c d : (Int × Int × Int × Int) × List Int} (hc : c ∈ p.l) (hd : d ∈ p.l) {x : Int} (h1 : x ∈ pBlocks c.1) (h2 : x ∈ pBlocks d.1) : c = d := by
  obtain ⟨i, hi⟩ := List.getElem?_of_mem hc
  obtain ⟨j, hj⟩ := List.getElem?_of_mem hd
  have e1 := o.of_at hi h1
  have e2 := o.of_at hj h2
  rw [e1] at e2
  obtain rfl := Option.some.inj e2
  rw [hi] at hj
  exact Option.some.inj hj
end
/-- As many of a span's blocks are in its list as the list is long. -/
theorem count_list {bl l : List Int} (hb : bl.Nodup) (hl : l.Nodup) (hs : ∀ x ∈ l, x ∈ bl) : (bl.filter fun x => decide (x ∈ l)).length = l.length := by
  have hn : (bl.filter fun x => decide (x ∈ l)).Nodup := hb.sublist List.filter_sublist
  have h1 : ∀ x, x ∈ (bl.filter fun x => decide (x ∈ l)) ↔ x ∈ l := fun x => by
    rw [List.mem_filter]
    constructor
    · exact fun h => of_decide_eq_true h.2
    · exact fun h => ⟨hs x h, decide_eq_true h⟩
  have h2 : ∀ {a b : List Int}, a.Nodup → (∀ x ∈ a, x ∈ b) → a.length ≤ b.length := by
    intro a
    induction a with
    | nil => intro b _ _; exact Nat.zero_le _
    | cons x a ih =>
      intro b hd hm
      obtain ⟨s, t, rfl⟩ := List.append_of_mem (hm x (List.mem_cons_self ..))
      have hd2 := List.nodup_cons.1 hd
      have := ih (b := s ++ t) hd2.2 fun y hy => by
        have h1 := hm y (List.mem_cons_of_mem _ hy)
        rcases List.mem_append.1 h1 with h | h
        · exact List.mem_append_left _ h
        · rcases List.mem_cons.1 h with rfl | h
          · exact absurd hy hd2.1
          · exact List.mem_append_right _ h
      rw [List.length_append] at this
      simp only [List.length_cons, List.length_append]
      omega
  exact Nat.le_antisymm (h2 hn fun x hx => (h1 x).1 hx) (h2 hl fun x hx => (h1 x).2 hx)

end Go.Proofs.YtlcdgmjinhbncaaGreat
/- A pool that isn't held has no whole span: then both ways to tell Give are the same. No program is named here. -/
namespace Go.Proofs.YtlcdgmjinhbncaaGreat
set_option linter.unusedVariables false

/-- Not held: no span is whole. -/
def Calm (p : PoolV) : Prop := p.held = false → ∀ c ∈ p.l, pWhole c = false
section
variable {p : PoolV}
theorem Calm.sweep (p : PoolV) : Calm (pSweep p) := by
  intro h c hc
  unfold pSweep at h hc
  split at hc
  · rename_i h2
    rw [if_pos h2] at h
    rw [h2] at h
    cases h
  · have := (List.mem_filter.1 hc).2
    simpa using this
theorem Calm.give (k : Calm p) (xs : List Int) : Calm (pGive p xs).1 := by
  unfold pGive
  split
  · exact k
  · cases pPuts p.l xs with
    | none => exact k
    | some l =>
      simp only
      split
      · exact k
      · exact Calm.sweep _
theorem Calm.take (k : Calm p) (o : POk p) (order : Int) : Calm (pTake p order).1 := by
  intro h c hc
  have hh : p.held = false := by rw [← h]; exact (pTake_held p order).symm
  by_cases ho : order < 0 ∨ 3 < order
  · unfold pTake at hc
    rw [if_pos ho] at hc
    exact k hh c hc
  · unfold pTake at hc
    rw [if_neg ho] at hc
    split at hc
    · rename_i i hf
      split at hc
      · rename_i d hd
        rcases List.mem_or_eq_of_mem_set hc with h1 | rfl
        · exact k hh c h1
        · have hdm := List.mem_of_getElem? hd
          have h2 := k hh d hdm
          have hpos : 0 < d.2.length := by
            rcases pFirst_spec p.l order 0 true with ⟨e, _⟩ | ⟨b, d', e, hd', hfd, _⟩
            · rw [hf] at e; cases e
            · rw [hf] at e
              obtain rfl := Option.some.inj e
              rw [hd] at hd'
              obtain rfl := Option.some.inj hd'
              unfold pFits at hfd
              simp at hfd
              exact List.length_pos_iff.2 (fun e => by rw [e] at hfd; simp at hfd)
          have hle := count_list (pBlocks_nodup d.1) (o.nod d hdm) (o.sub d hdm)
          have h3 : ((pBlocks d.1).filter fun x => decide (x ∈ d.2)).length ≤ (pBlocks d.1).length := List.length_filter_le _ _
          unfold pWhole
          simp only [List.length_tail, beq_eq_false_iff_ne]
          omega
      · exact k hh c hc
    · split at hc
      · rename_i he
        rcases List.mem_append.1 hc with h1 | h1
        · exact k hh c h1
        · obtain rfl := List.mem_singleton.1 h1
          unfold pWhole
          simp only [List.length_tail, beq_eq_false_iff_ne]
          have hp : 0 < (pBlocks (hMake p.heap 4 order).2.1).length := by
            cases hb : fBest p.heap.free 4 with
            | none => rw [hMake_full (by omega) hb] at he; exact absurd he (by show ¬ (3 : Int) = 0; decide)
            | some r =>
              obtain ⟨g, _, _, _, e, _⟩ := hMake_yes o.hok (n := 4) (o := order) (by omega) hb
              rw [e, pBlocks_length]
              have := (pMany_16 order (by omega) (by omega)).1
              show 0 < pMany 4 order
              omega
          omega
      · exact k hh c hc
end

end Go.Proofs.YtlcdgmjinhbncaaGreat
/- A pool that a law has made: what each call does to it, and that it leaves all other blocks; the heap beneath it makes a span. -/
namespace Go.Proofs.YtlcdgmjinhbncaaGreat
open Go.RowKit Go.Maps
set_option linter.unusedVariables false

/-- All blocks but those of S are as they were, and what S has grown by is new. -/
def SideP (S : Nat → Prop) (W : World) (S' : Nat → Prop) (W' : World) : Prop := Kept S W W' ∧ ∀ b, S' b → S b ∨ W.heap.size ≤ b
theorem SideP.not {S S' : Nat → Prop} {W W' : World} (h : SideP S W S' W') {b : Nat} (hb : b < W.heap.size) (hn : ¬ S b) : ¬ S' b := fun c => (h.2 b c).elim hn fun q => by omega
theorem SideP.sl {S S' : Nat → Prop} {W W' : World} (h : SideP S W S' W') {A : Option Addr} {n : Nat} {xs : List Value} (hs : Sl W W.heap.size A n xs) (hn : ∀ a, A = some a → ¬ S a.block) : Sl W' W'.heap.size A n xs := Sl.kept (B := 0) hs h.1 hn
theorem SideP.below {S : Nat → Prop} {W W' : World} (hb : Below W.heap.size W W') : SideP S W S W' := ⟨Kept.of_below hb S, fun b h => Or.inl h⟩
theorem SideP.did {S : Nat → Prop} {W W' : World} (hK : Kept S W W') : SideP S W (more S W W') W' := ⟨hK, fun b h => h.1⟩
theorem SideP.trans {S S' S'' : Nat → Prop} {W W' W'' : World} (h : SideP S W S' W') (h2 : SideP S' W' S'' W'') : SideP S W S'' W'' := by
  refine ⟨h.1.trans h2.1 (fun b hb c => ?_), fun b hb => ?_⟩
  · rcases h.2 b c with h3 | h3
    · exact h3
    · omega
  · rcases h2.2 b hb with h3 | h3
    · exact h.2 b h3
    · exact Or.inr (Nat.le_trans h.1.size h3)

theorem hMake_moreP {h : HeapV} (n o : Int) : ∀ s ∈ h.l, s ∈ (hMake h n o).1.l := fun s hs => by
  unfold hMake
  split
  · exact hs
  · split
    · exact hs
    · exact List.mem_append_left _ hs
theorem hMake_lastP {h : HeapV} (n o : Int) : h.last ≤ (hMake h n o).1.last := by
  unfold hMake
  split
  · exact Int.le_refl _
  · split
    · exact Int.le_refl _
    · show h.last ≤ h.last + 1; omega
theorem sub_lenP {α : Type} : ∀ {l m : List α}, l.Nodup → (∀ x ∈ l, x ∈ m) → l.length ≤ m.length
  | [], _, _, _ => Nat.zero_le _
  | x :: l, m, hd, hm => by
    obtain ⟨a, b, rfl⟩ := List.append_of_mem (hm x (List.mem_cons_self ..))
    have hd2 := List.nodup_cons.1 hd
    have ih := sub_lenP (l := l) (m := a ++ b) hd2.2 fun y hy => by
      have h1 := hm y (List.mem_cons_of_mem _ hy)
      rcases List.mem_append.1 h1 with h | h
      · exact List.mem_append_left _ h
      · rcases List.mem_cons.1 h with rfl | h
        · exact absurd hy hd2.1
        · exact List.mem_append_right _ h
    rw [List.length_append] at ih
    simp only [List.length_cons, List.length_append]
    omega
section
variable {w W W' : World} {p hp : Nat} {S T : Nat → Prop} {v : PoolW} {k : Nat} {pages : Int}
theorem PoolSt.kept (s : PoolSt w W p hp S v k pages) (hK : Kept T W W') (hn : ∀ b, S b → ¬ T b) (hT : ∀ b, T b → w.heap.size ≤ b) : PoolSt w W' p hp S v k pages := by
  obtain ⟨⟨Sh, ap, g, mb, n, m, D, q1, q2, q3⟩, l1, l2, l3, l4, l5⟩ := s
  exact ⟨⟨Sh, ap, g, mb, n, m, D, q1.keep hK fun b hb => hn b (q3 b hb), q2, q3⟩, fun b h => Nat.lt_of_lt_of_le (l1 b h) hK.size, l2, l3.trans (hK.below l3.size hT), l4, l5⟩
theorem PoolSt.later (s : PoolSt w W p hp S v k pages) {k' : Nat} (h : k ≤ k') : PoolSt w W p hp S v k' pages := ⟨s.pl, s.lt, s.low, s.bel, by have := s.la; omega, s.pg⟩
end

end Go.Proofs.YtlcdgmjinhbncaaGreat
/- Layer 11 plainly: caches' lists of blocks that are out of a pool. No program is named here. -/
namespace Go.Proofs.YtlcdgmjinhbncaaGreat
set_option linter.unusedVariables false

/-- A block of this order is out. -/
def OutQ (l : PL) (x o : Int) : Prop := ∃ c ∈ l, x ∈ pBlocks c.1 ∧ x ∉ c.2 ∧ c.1.2.2.2 = o
theorem out_set {l : PL} {i : Nat} {s : Int × Int × Int × Int} {r r' : List Int} (hi : l[i]? = some (s, r)) {x o : Int} (h : OutQ l x o) (hr : x ∈ r' → x ∈ r) : OutQ (l.set i (s, r')) x o := by
  obtain ⟨c, hc, h1, h2, h3⟩ := h
  obtain ⟨j, hj⟩ := List.getElem?_of_mem hc
  by_cases e : i = j
  · subst e
    rw [hi] at hj
    obtain rfl := Option.some.inj hj
    exact ⟨(s, r'), List.mem_of_getElem? (List.getElem?_set_self (List.getElem?_eq_some_iff.1 hi).1), h1, fun h => h2 (hr h), h3⟩
  · exact ⟨c, List.mem_of_getElem? (i := j) (by rw [List.getElem?_set_ne e]; exact hj), h1, h2, h3⟩
/-- What Take leaves: all that were out are, and the block is, that wasn't. -/
theorem take_out {p p' : PoolV} {order a : Int} (o : POk p) (o' : POk p') (h : pTake p order = (p', a, 0)) : (∀ x q, OutQ p.l x q → OutQ p'.l x q) ∧ OutQ p'.l a order ∧ (∀ q, ¬ OutQ p.l a q) ∧ p'.held = p.held := by
  unfold pTake at h
  split at h
  · injection h with _ h; injection h with _ h; cases h
  next ho =>
  cases hf : pFirst p.l order 0 true with
  | some i =>
    rw [hf] at h
    simp only at h
    rcases pFirst_spec p.l order 0 true with ⟨e, _⟩ | ⟨b, c, e, hc, hfc, _⟩
    · rw [hf] at e; cases e
    · rw [hf] at e
      obtain rfl := Option.some.inj e
      rw [hc] at h
      simp only at h
      injection h with h1 h2
      injection h2 with h2 _
      obtain ⟨s, l⟩ := c
      cases l with
      | nil => unfold pFits at hfc; simp at hfc
      | cons b r =>
        simp only [List.headD_cons, List.tail_cons] at h1 h2
        subst h2 h1
        have hcm := List.mem_of_getElem? hc
        have hab : b ∈ pBlocks s := o.sub _ hcm b (List.mem_cons_self ..)
        have hnr : b ∉ r := (List.nodup_cons.1 (o.nod _ hcm)).1
        have hso : s.2.2.2 = order := by
          unfold pFits at hfc
          simp only [Bool.and_eq_true, decide_eq_true_eq] at hfc
          exact hfc.1.1
        refine ⟨fun x q hx => out_set hc hx (fun h => List.mem_cons_of_mem _ h), ⟨(s, r), List.mem_of_getElem? (List.getElem?_set_self (List.getElem?_eq_some_iff.1 hc).1), hab, hnr, hso⟩, fun q hq => ?_, rfl⟩
        obtain ⟨d, hd, hx, hn, _⟩ := hq
        rw [o.one_span hd hcm hx hab] at hn
        exact hn (List.mem_cons_self ..)
  | none =>
    rw [hf] at h
    simp only at h
    split at h
    next he =>
      obtain ⟨⟨h', s, e0⟩, hm⟩ : ∃ r, hMake p.heap 4 order = r := ⟨_, rfl⟩
      rw [hm] at h he
      simp only at h he
      subst he
      injection h with h1 h2
      injection h2 with h2 _
      subst h1
      have hcm : (s, (pBlocks s).tail) ∈ p.l ++ [(s, (pBlocks s).tail)] := List.mem_append_right _ (List.mem_singleton_self _)
      obtain ⟨f1, f2, f3⟩ := o'.four _ hcm
      simp only at f1 f2 f3
      have hbl := pBlocks_length s
      rw [f1] at hbl
      have hm2 := (pMany_16 s.2.2.2 f2 f3).1
      have hnd := pBlocks_nodup s
      have hso : s.2.2.2 = order := by
        cases hbb : fBest p.heap.free 4 with
        | none => rw [hMake_full (by omega) hbb] at hm; injection hm with _ hm; injection hm with _ hm; cases hm
        | some q =>
          obtain ⟨g, _, _, _, e, _⟩ := hMake_yes o.hok (o := order) (by omega) hbb
          rw [e] at hm
          injection hm with _ hm
          injection hm with hm _
          rw [← hm]
      have hnin : ∀ x ∈ pBlocks s, ∀ d ∈ p.l, x ∉ pBlocks d.1 := fun x hx d hd hxd => by
        have e1 := o'.one_span (c := d) (d := (s, (pBlocks s).tail)) (List.mem_append_left _ hd) hcm hxd hx
        have hids : ((p.l ++ [(s, (pBlocks s).tail)]).map (·.1.1)).Nodup := o'.ids
        rw [List.map_append] at hids
        exact (List.nodup_append.1 hids).2.2 d.1.1 (List.mem_map.2 ⟨d, hd, rfl⟩) d.1.1 (by rw [e1]; simp) rfl
      cases hb : pBlocks s with
      | nil => rw [hb] at hbl; simp at hbl; omega
      | cons b r =>
        have hbm : b ∈ pBlocks s := by rw [hb]; exact List.mem_cons_self ..
        have hbr : pBlocks s = b :: r := hb
        rw [hb] at h2 hnd hcm
        simp only [List.headD_cons] at h2
        subst h2
        refine ⟨fun x q hx => ?_, ⟨_, hcm, hbm, (List.nodup_cons.1 hnd).1, hso⟩, fun q hq => ?_, rfl⟩
        · obtain ⟨d, hd, h3, h4, h5⟩ := hx
          exact ⟨d, List.mem_append_left _ hd, h3, h4, h5⟩
        · obtain ⟨d, hd, h3, _⟩ := hq
          exact hnin b hbm d hd h3
    next he =>
      injection h with _ h2
      injection h2 with _ h2
      exact absurd h2 he
/-- .. and if it doesn't answer a block, all is as it was. -/
theorem take_refused {p p' : PoolV} {order a e : Int} (h : pTake p order = (p', a, e)) (he : e ≠ 0) : p' = p := by
  unfold pTake at h
  split at h
  · injection h with h _; exact h.symm
  · split at h
    · split at h
      · injection h with _ h; injection h with _ h; exact absurd h.symm he
      · injection h with _ h; injection h with _ h; exact absurd h.symm he
    · split at h
      · injection h with _ h; injection h with _ h; exact absurd h.symm he
      · injection h with h _; exact h.symm
theorem not_whole {c : (Int × Int × Int × Int) × List Int} (h1 : c.2.Nodup) (h2 : ∀ y ∈ c.2, y ∈ pBlocks c.1) {x : Int} (hx : x ∈ pBlocks c.1) (hn : x ∉ c.2) : pWhole c = false := by
  have := sub_lenP (l := x :: c.2) (m := pBlocks c.1) (List.nodup_cons.2 ⟨hn, h1⟩) fun y hy => by
    rcases List.mem_cons.1 hy with rfl | hy
    · exact hx
    · exact h2 y hy
  rw [List.length_cons] at this
  unfold pWhole
  simp only [beq_eq_false_iff_ne]
  omega
theorem pSweep_out {p : PoolV} (hl : ∀ c ∈ p.l, c.2.Nodup ∧ ∀ y ∈ c.2, y ∈ pBlocks c.1) {x o : Int} (h : OutQ p.l x o) : OutQ (pSweep p).l x o := by
  unfold pSweep
  split
  · exact h
  · obtain ⟨c, hc, h1, h2, h3⟩ := h
    exact ⟨c, List.mem_filter.2 ⟨hc, by rw [not_whole (hl c hc).1 (hl c hc).2 h1 h2]; rfl⟩, h1, h2, h3⟩
/-- What Give of one block that is out leaves: all others that were out are. -/
theorem give_out {p : PoolV} (o : POk p) {x q : Int} (h : OutQ p.l x q) : ∃ p', gGive p [x] = (p', 0) ∧ p'.held = p.held ∧ ∀ y r, OutQ p.l y r → y ≠ x → OutQ p'.l y r := by
  obtain ⟨⟨s, l⟩, hc, h1, h2, h3⟩ := h
  obtain ⟨i, hi⟩ := List.getElem?_of_mem hc
  have hof := o.of_at hi h1
  have hp : pPuts p.l [x] = some (p.l.set i (s, x :: l)) := by
    show pPut p.l x = _
    unfold pPut
    rw [hof]
    simp only
    rw [hi]
    simp only
    rw [if_neg h2]
  have hcm := List.mem_of_getElem? hi
  refine ⟨_, gGive_yes (by simp [hof]) hp, pSweep_held _, fun y r hy hne => pSweep_out (fun c hc => ?_) (out_set hi hy (fun hm => ?_))⟩
  · rcases List.mem_or_eq_of_mem_set hc with h4 | rfl
    · exact ⟨o.nod c h4, o.sub c h4⟩
    · exact ⟨List.nodup_cons.2 ⟨h2, o.nod _ hcm⟩, fun z hz => by
        rcases List.mem_cons.1 hz with rfl | hz
        · exact h1
        · exact o.sub _ hcm z hz⟩
  · rcases List.mem_cons.1 hm with e | e
    · exact absurd e hne
    · exact e

end Go.Proofs.YtlcdgmjinhbncaaGreat
/- Caches in memory: their block, their row of chains, the pool beneath them; what keeps them, and what turns a part of them. -/
namespace Go.Proofs.YtlcdgmjinhbncaaGreat
open Go.RowKit Go.Maps
set_option linter.unusedVariables false

/-- Where caches lie: their block, their row of chains, the pool, its heap, the arena, its words, the pool's map; as many words, as many processors. -/
structure CaF where
  q : Nat
  rb : Nat
  p : Nat
  hp : Nat
  ap : Nat
  g : Nat
  mb : Nat
  n : Nat
  N : Nat
/-- A list: its chain, its blocks. -/
abbrev CL := (Int × Int) × List Int
/-- Each list is a chain of blocks of its order that are out, and none is in two. -/
structure CaOk (ws : List Nat) (l : PL) (cs : List CL) : Prop where
  lst : ∀ c ∈ cs, cList ws c.1 = some c.2
  out : ∀ (i : Nat) c, cs[i]? = some c → ∀ x ∈ c.2, OutQ l x ((i % 4 : Nat) : Int)
  apart : ∀ (i j : Nat) c d, cs[i]? = some c → cs[j]? = some d → i ≠ j → ∀ x ∈ c.2, x ∉ d.2
structure CaSt (F : CaF) (w W : World) (S : Nat → Prop) (v : PoolW) (cs : List CL) (k : Nat) (pages : Int) : Prop where
  pl : ∃ Sh m D, PlAt W Sh F.p F.hp F.ap F.g F.mb F.n m D v ∧ PlOk F.n m v ∧ ∀ b, PlS Sh F.p F.ap F.g F.mb v.ks b → S b ∧ b ≠ F.q ∧ b ≠ F.rb
  ok : CaOk v.ws v.plain.l cs
  c0 : W.cell? ⟨F.q, 0, none⟩ = some (.pointer (some ⟨F.p, 0, none⟩))
  c1 : W.cell? ⟨F.q, 1, none⟩ = some (.pointer (some ⟨F.ap, 0, none⟩))
  c2 : W.cell? ⟨F.q, 2, none⟩ = some (.slice (some ⟨F.rb, 0, none⟩) F.N F.N)
  row : ∀ (i : Nat) c, cs[i]? = some c → W.cell? ⟨F.rb, 2 * i, none⟩ = some (.int .i64 c.1.1) ∧ W.cell? ⟨F.rb, 2 * i + 1, none⟩ = some (.int .i64 c.1.2)
  fz : ∀ j, W.frozen? ⟨F.rb, j, none⟩ = false
  len : cs.length = 4 * F.N
  ne : F.q ≠ F.rb
  n1 : 1 ≤ F.N ∧ F.N ≤ 16
  sq : S F.q
  sr : S F.rb
  lt : ∀ b, S b → b < W.heap.size
  low : ∀ b, S b → w.heap.size ≤ b
  bel : Below w.heap.size w W
  la : v.h.last ≤ k
  pg : v.h.pages = pages
section
variable {F : CaF} {w W W' : World} {S T : Nat → Prop} {v : PoolW} {cs : List CL} {k : Nat} {pages : Int}
theorem CaSt.pool (s : CaSt F w W S v cs k pages) : PoolSt w W F.p F.hp S v k pages := by
  obtain ⟨Sh, m, D, q1, q2, q3⟩ := s.pl
  exact ⟨⟨Sh, F.ap, F.g, F.mb, F.n, m, D, q1, q2, fun b h => (q3 b h).1⟩, s.lt, s.low, s.bel, s.la, s.pg⟩
theorem CaSt.later (s : CaSt F w W S v cs k pages) {k' : Nat} (h : k ≤ k') : CaSt F w W S v cs k' pages :=
  ⟨s.pl, s.ok, s.c0, s.c1, s.c2, s.row, s.fz, s.len, s.ne, s.n1, s.sq, s.sr, s.lt, s.low, s.bel, by have := s.la; omega, s.pg⟩
theorem CaSt.kept (s : CaSt F w W S v cs k pages) (hK : Kept T W W') (hn : ∀ b, S b → ¬ T b) (hT : ∀ b, T b → w.heap.size ≤ b) : CaSt F w W' S v cs k pages := by
  obtain ⟨Sh, m, D, q1, q2, q3⟩ := s.pl
  have hq := hK.block F.q (s.lt _ s.sq) (hn _ s.sq)
  have hr := hK.block F.rb (s.lt _ s.sr) (hn _ s.sr)
  have cq : ∀ j, W'.cell? ⟨F.q, j, none⟩ = W.cell? ⟨F.q, j, none⟩ := fun j => World.cell?_of_block (w := W) (a := ⟨F.q, j, none⟩) hq
  have cr : ∀ j, W'.cell? ⟨F.rb, j, none⟩ = W.cell? ⟨F.rb, j, none⟩ := fun j => World.cell?_of_block (w := W) (a := ⟨F.rb, j, none⟩) hr
  exact ⟨⟨Sh, m, D, q1.keep hK fun b hb => hn b (q3 b hb).1, q2, q3⟩, s.ok, (cq 0).trans s.c0, (cq 1).trans s.c1, (cq 2).trans s.c2, fun i c h => ⟨(cr _).trans (s.row i c h).1, (cr _).trans (s.row i c h).2⟩, fun j => (World.frozen?_of_block (w := W) (a := ⟨F.rb, j, none⟩) hr).trans (s.fz j), s.len, s.ne, s.n1, s.sq, s.sr, fun b h => Nat.lt_of_lt_of_le (s.lt b h) hK.size, s.low, s.bel.trans (hK.below s.bel.size hT), s.la, s.pg⟩
theorem CaSt.below (s : CaSt F w W S v cs k pages) (hb : Below W.heap.size W W') : CaSt F w W' S v cs k pages := s.kept (Kept.of_below hb (fun _ => False)) (fun _ _ => id) (fun _ h => h.elim)
theorem CaSt.nodup (s : CaSt F w W S v cs k pages) {c : CL} (hc : c ∈ cs) : c.2.length ≤ 65536 ∧ in64 c.1.1 ∧ in64 c.1.2 ∧ (c.2.length : Int) = c.1.2 ∧ c.2.Nodup ∧ ∀ x ∈ c.2, 0 ≤ x ∧ x < (v.ws.length : Int) := by
  obtain ⟨Sh, m, D, q1, q2, q3⟩ := s.pl
  exact cList_len (s.ok.lst c hc) (by rw [q1.ar.hlen]; exact q1.ar.small)
/-- Other words, and another chain of one list. -/
theorem CaOk.chain {ws ws' : List Nat} {l : PL} (o : CaOk ws l cs) {i : Nat} {c : CL} (hi : cs[i]? = some c) {c' : Int × Int} {l' : List Int} {U : Int → Prop} (hl : cList ws' c' = some l') (hst : Stays ws ws' U) (hU : ∀ (j : Nat) d, cs[j]? = some d → i ≠ j → ∀ x ∈ d.2, ¬ U x) (ho : ∀ x ∈ l', OutQ l x ((i % 4 : Nat) : Int)) (ha : ∀ (j : Nat) d, cs[j]? = some d → i ≠ j → ∀ x ∈ d.2, x ∉ l') : CaOk ws' l (cs.set i (c', l')) := by
  have hil := (List.getElem?_eq_some_iff.1 hi).1
  have q : ∀ (j : Nat) d, (cs.set i (c', l'))[j]? = some d → (i = j ∧ d = (c', l')) ∨ (i ≠ j ∧ cs[j]? = some d) := fun j d h => by
    by_cases e : i = j
    · subst e
      rw [List.getElem?_set_self hil] at h
      exact Or.inl ⟨rfl, (Option.some.inj h).symm⟩
    · rw [List.getElem?_set_ne e] at h
      exact Or.inr ⟨e, h⟩
  refine ⟨fun d hd => ?_, fun j d hj x hx => ?_, fun j j' d d' hj hj' hne x hx => ?_⟩
  · obtain ⟨j, hj⟩ := List.getElem?_of_mem hd
    rcases q j d hj with ⟨_, rfl⟩ | ⟨h1, h2⟩
    · exact hl
    · exact hst _ _ (o.lst d (List.mem_of_getElem? h2)) (hU j d h2 h1)
  · rcases q j d hj with ⟨rfl, rfl⟩ | ⟨h1, h2⟩
    · exact ho x hx
    · exact o.out j d h2 x hx
  · rcases q j d hj with ⟨rfl, rfl⟩ | ⟨h1, h2⟩
    · rcases q j' d' hj' with ⟨h3, _⟩ | ⟨h3, h4⟩
      · exact absurd h3 hne
      · exact fun hxd => ha j' d' h4 h3 x hxd hx
    · rcases q j' d' hj' with ⟨rfl, rfl⟩ | ⟨h3, h4⟩
      · exact ha j d h2 h1 x hx
      · exact o.apart j j' d d' h2 h4 hne x hx
/-- A chain's two cells are written, behind a call that turned words alone. -/
theorem CaSt.chain {W1 : World} {ws' : List Nat} (s : CaSt F w W S v cs k pages) {i : Nat} {c : CL} (hi : cs[i]? = some c) {c' : Int × Int} {l' : List Int} {U : Int → Prop} (hw : Wide ws') (hl : cList ws' c' = some l') (hst : Stays v.ws ws' U) (hP : ∀ x, U x → ∃ o, OutQ v.plain.l x o) (hU : ∀ (j : Nat) d, cs[j]? = some d → i ≠ j → ∀ x ∈ d.2, ¬ U x) (ho : ∀ x ∈ l', OutQ v.plain.l x ((i % 4 : Nat) : Int)) (ha : ∀ (j : Nat) d, cs[j]? = some d → i ≠ j → ∀ x ∈ d.2, x ∉ l')
    (hg : W.grownBy W1 (some F.g)) (har : Ar W1 0 F.ap F.g F.n ws') {W2 : World} (hb2 : Below W1.heap.size W1 W2) :
    CaSt F w ((W2.setCell ⟨F.rb, 2 * i, none⟩ (.int .i64 c'.1)).setCell ⟨F.rb, 2 * i + 1, none⟩ (.int .i64 c'.2)) S { v with ws := ws' } (cs.set i (c', l')) k pages ∧ SideP S W S ((W2.setCell ⟨F.rb, 2 * i, none⟩ (.int .i64 c'.1)).setCell ⟨F.rb, 2 * i + 1, none⟩ (.int .i64 c'.2)) := by
  obtain ⟨Sh, m, D, q1, q2, q3⟩ := s.pl
  have hgS : S F.g := (q3 F.g (Or.inr (Or.inr (Or.inr (Or.inl rfl))))).1
  have hgq : F.g ≠ F.q ∧ F.g ≠ F.rb := (q3 F.g (Or.inr (Or.inr (Or.inr (Or.inl rfl))))).2
  have hil := (List.getElem?_eq_some_iff.1 hi).1
  have hP1 := (q1.words hg har).below hb2
  have hP2 : PlAt ((W2.setCell ⟨F.rb, 2 * i, none⟩ (.int .i64 c'.1)).setCell ⟨F.rb, 2 * i + 1, none⟩ (.int .i64 c'.2)) Sh F.p F.hp F.ap F.g F.mb F.n m D { v with ws := ws' } :=
    hP1.keep (((Kept.refl (fun b => b = F.rb) W2).set (a := ⟨F.rb, 2 * i, none⟩) (Or.inl rfl) _).set (a := ⟨F.rb, 2 * i + 1, none⟩) (Or.inl rfl) _) (fun b hb e => (q3 b hb).2.2 e)
  have hK1 : Kept S W W1 := (Kept.refl S W).grown hg (fun b e => by injection e with e; exact Or.inl (e ▸ hgS))
  have hK2 : Kept S W W2 := hK1.trans (S' := fun _ => False) (Kept.of_below hb2 _) (fun _ _ c => c.elim)
  have hK3 : Kept S W ((W2.setCell ⟨F.rb, 2 * i, none⟩ (.int .i64 c'.1)).setCell ⟨F.rb, 2 * i + 1, none⟩ (.int .i64 c'.2)) := (hK2.set (a := ⟨F.rb, 2 * i, none⟩) (Or.inl s.sr) _).set (a := ⟨F.rb, 2 * i + 1, none⟩) (Or.inl s.sr) _
  have hblk : ∀ b, b ≠ F.g → b < W.heap.size → W2.heap[b]? = W.heap[b]? := fun b h1 h2 => (hb2.block b (Nat.lt_of_lt_of_le h2 hg.size)).trans (hg.block b h2 (fun e => h1 (by injection e)))
  have hq2 := hblk F.q (Ne.symm hgq.1) (s.lt _ s.sq)
  have hr2 := hblk F.rb (Ne.symm hgq.2) (s.lt _ s.sr)
  have cq : ∀ j, ((W2.setCell ⟨F.rb, 2 * i, none⟩ (.int .i64 c'.1)).setCell ⟨F.rb, 2 * i + 1, none⟩ (.int .i64 c'.2)).cell? ⟨F.q, j, none⟩ = W.cell? ⟨F.q, j, none⟩ := fun j => by
    rw [World.cell?_setCell_other _ _ _ _ (fun e => s.ne (by injection e with e; exact e.symm)), World.cell?_setCell_other _ _ _ _ (fun e => s.ne (by injection e with e; exact e.symm))]
    exact World.cell?_of_block (w := W) (a := ⟨F.q, j, none⟩) hq2
  have cr : ∀ j, W2.cell? ⟨F.rb, j, none⟩ = W.cell? ⟨F.rb, j, none⟩ := fun j => World.cell?_of_block (w := W) (a := ⟨F.rb, j, none⟩) hr2
  have hoth : ∀ (X : World) (a b : Nat) (u : Value), a ≠ b → (X.setCell ⟨F.rb, a, none⟩ u).cell? ⟨F.rb, b, none⟩ = X.cell? ⟨F.rb, b, none⟩ := fun X a b u h => World.cell?_setCell_other X _ _ _ (fun e => h (by injection e))
  refine ⟨⟨⟨Sh, m, D, hP2, ⟨q2.len, hw, q2.mem, q2.four, fun kk hkk => hst _ _ (q2.lst kk hkk) fun x hx hu => ?_, q2.sub, q2.ids, q2.cnt⟩, q3⟩, s.ok.chain hi hl hst hU ho ha, (cq 0).trans s.c0, (cq 1).trans s.c1, (cq 2).trans s.c2, fun j d hj => ?_, fun j => ?_, by rw [List.length_set]; exact s.len, s.ne, s.n1, s.sq, s.sr, fun b hb => Nat.lt_of_lt_of_le (s.lt b hb) hK3.size, s.low, s.bel.trans (hK3.below s.bel.size s.low), s.la, s.pg⟩, ⟨hK3, fun b hb => Or.inl hb⟩⟩
  · obtain ⟨o, d, hd, h1, h2, _⟩ := hP x hu
    obtain ⟨d0, hd0, rfl⟩ := List.mem_map.1 (show d ∈ v.ks.map CutV.plain from hd)
    have e := q2.blocks_apart q1.hp_.ok hd0 hkk h1 (q2.sub kk hkk x hx)
    exact h2 (by rw [e]; exact hx)
  · by_cases e : i = j
    · subst e
      rw [List.getElem?_set_self hil] at hj
      obtain rfl := Option.some.inj hj
      refine ⟨?_, ?_⟩
      · rw [hoth _ _ _ _ (by omega)]
        exact World.cell?_setCell_same _ _ _ ((cr _).trans (s.row i c hi).1)
      · exact World.cell?_setCell_same _ _ _ (by rw [hoth _ _ _ _ (by omega)]; exact (cr _).trans (s.row i c hi).2)
    · rw [List.getElem?_set_ne e] at hj
      have := s.row j d hj
      exact ⟨by rw [hoth _ _ _ _ (by omega), hoth _ _ _ _ (by omega)]; exact (cr _).trans this.1, by rw [hoth _ _ _ _ (by omega), hoth _ _ _ _ (by omega)]; exact (cr _).trans this.2⟩
  · rw [World.frozen?_setCell, World.frozen?_setCell]
    exact (World.frozen?_of_block (w := W) (a := ⟨F.rb, j, none⟩) hr2).trans (s.fz j)
/-- The pool beneath them did something. -/
theorem CaSt.did {Sh : Nat → Prop} {v' : PoolW} {k' : Nat} {U : Int → Prop} (s : CaSt F w W S v cs k pages) (q3 : ∀ b, PlS Sh F.p F.ap F.g F.mb v.ks b → S b ∧ b ≠ F.q ∧ b ≠ F.rb) (h : Went W Sh F.p F.hp F.ap F.g F.mb F.n v.ks W' v') (hst : Stays v.ws v'.ws U) (hU : ∀ d ∈ cs, ∀ x ∈ d.2, ¬ U x) (ho : ∀ (i : Nat) d, cs[i]? = some d → ∀ x ∈ d.2, OutQ v'.plain.l x ((i % 4 : Nat) : Int)) (hl : v'.h.last ≤ k') (hg : v'.h.pages = v.h.pages) : CaSt F w W' (more S W W') v' cs k' pages ∧ SideP S W (more S W W') W' := by
  obtain ⟨S2, m2, D2, p1, p2, p3, p4⟩ := h
  have hK : Kept S W W' := ⟨p3.os, p3.tape, p3.output, p3.size, fun b hb hn => p3.block b hb (fun c => hn (q3 b c).1)⟩
  have hn : ∀ b, b = F.q ∨ b = F.rb → ¬ PlS Sh F.p F.ap F.g F.mb v.ks b := fun b hb c => by
    have := (q3 b c).2
    rcases hb with e | e
    · exact this.1 e
    · exact this.2 e
  have hq := p3.block F.q (s.lt _ s.sq) (hn _ (Or.inl rfl))
  have hr := p3.block F.rb (s.lt _ s.sr) (hn _ (Or.inr rfl))
  have cq : ∀ j, W'.cell? ⟨F.q, j, none⟩ = W.cell? ⟨F.q, j, none⟩ := fun j => World.cell?_of_block (w := W) (a := ⟨F.q, j, none⟩) hq
  have cr : ∀ j, W'.cell? ⟨F.rb, j, none⟩ = W.cell? ⟨F.rb, j, none⟩ := fun j => World.cell?_of_block (w := W) (a := ⟨F.rb, j, none⟩) hr
  have hsz := hK.size
  have hm : ∀ b, S b → more S W W' b := fun b hb => ⟨Or.inl hb, Nat.lt_of_lt_of_le (s.lt b hb) hsz⟩
  refine ⟨⟨⟨S2, m2, D2, p1, p2, fun b hb => ?_⟩, ⟨fun c hc => hst _ _ (s.ok.lst c hc) (hU c hc), ho, s.ok.apart⟩, (cq 0).trans s.c0, (cq 1).trans s.c1, (cq 2).trans s.c2, fun i c h => ⟨(cr _).trans (s.row i c h).1, (cr _).trans (s.row i c h).2⟩, fun j => (World.frozen?_of_block (w := W) (a := ⟨F.rb, j, none⟩) hr).trans (s.fz j), s.len, s.ne, s.n1, hm _ s.sq, hm _ s.sr, fun b hb => hb.2, more_low s.bel.size s.low, s.bel.trans (hK.below s.bel.size s.low), hl, hg.trans s.pg⟩, SideP.did hK⟩
  rcases p4 b hb with h4 | h4
  · have := q3 b h4
    exact ⟨hm b this.1, this.2⟩
  · have h5 := p1.lt b hb
    have h6 := s.lt _ s.sq
    have h7 := s.lt _ s.sr
    exact ⟨⟨Or.inr h4, h5⟩, by omega, by omega⟩
end

end Go.Proofs.YtlcdgmjinhbncaaGreat
/- Small calls of caches: their parts, a list's place, how many words a list has. -/
namespace Go.Proofs.YtlcdgmjinhbncaaGreat
open Go.RowKit Go.Maps
set_option linter.unusedVariables false

/-- parts: the three cells. -/
theorem cc_parts (q : Nat) (p a : Option Addr) (A : Option Addr) (n c : Nat) (w : World) (h0 : w.cell? ⟨q, 0, none⟩ = some (.pointer p)) (h1 : w.cell? ⟨q, 1, none⟩ = some (.pointer a)) (h2 : w.cell? ⟨q, 2, none⟩ = some (.slice A n c)) :
    Calls Tryz.prog 99 #[.pointer (some ⟨q, 0, none⟩)] w fun e w' => e = .returned (.agg #[.pointer p, .pointer a, .slice A n c]) ∧ Below w.heap.size w w' := by
  replace h0 := alloc_old (.cells #[.pointer none, .pointer none, .slice none 0 0] 175) h0
  replace h1 := alloc_old (.cells #[.pointer none, .pointer none, .slice none 0 0] 175) h1
  replace h2 := alloc_old (.cells #[.pointer none, .pointer none, .slice none 0 0] 175) h2
  go_enter Tryz.func99, Tryz.ntmps99
  go_wp2
  refine bodyPost_ret (v := .agg #[.pointer p, .pointer a, .slice A n c]) (by simp [results, Tryz.results99, go_sem]) rfl ?_
  exact ⟨rfl, (Below.refl _ _).alloc (Nat.le_refl _) _⟩
/-- How many words so many blocks of an order have. -/
theorem cc_words (h n order : Int) (w : World) (ho : 0 ≤ order ∧ order ≤ 3) (hn : 0 ≤ n ∧ n ≤ 65536) :
    Calls Tryz.prog 106 #[.agg #[.int .i64 h, .int .i64 n], .int .i64 order] w fun e w' => e = .returned (.int .i64 (n * pSize order)) ∧ Below w.heap.size w w' := by
  have hb : Below w.heap.size w (w.alloc (.cells #[.int .i64 h, .int .i64 n] 137)) := (Below.refl _ _).alloc (Nat.le_refl _) _
  obtain rfl | rfl | rfl | rfl : order = 0 ∨ order = 1 ∨ order = 2 ∨ order = 3 := by omega
  · rw [show ((pSize 0 : Nat) : Int) = 16 from rfl]
    go_enter Tryz.func106, Tryz.ntmps106
    go_wp2
    go_quiet (fail)
    go_wp2
    go_ret
    first
      | exact ⟨rfl, hb⟩
      | exact ⟨rfl, belowN hb _⟩
  · rw [show ((pSize 1 : Nat) : Int) = 32 from rfl]
    go_enter Tryz.func106, Tryz.ntmps106
    go_wp2
    go_quiet (fail)
    go_wp2
    go_ret
    first
      | exact ⟨rfl, hb⟩
      | exact ⟨rfl, belowN hb _⟩
  · rw [show ((pSize 2 : Nat) : Int) = 64 from rfl]
    go_enter Tryz.func106, Tryz.ntmps106
    go_wp2
    go_quiet (fail)
    go_wp2
    go_ret
    first
      | exact ⟨rfl, hb⟩
      | exact ⟨rfl, belowN hb _⟩
  · rw [show ((pSize 3 : Nat) : Int) = 128 from rfl]
    go_enter Tryz.func106, Tryz.ntmps106
    go_wp2
    go_quiet (fail)
    go_wp2
    go_ret
    first
      | exact ⟨rfl, hb⟩
      | exact ⟨rfl, belowN hb _⟩

/-- A list's place; nil, if there is none. -/
theorem cc_list_no (c : Option Addr) (proc order : Int) (N : Nat) (A : Option Addr) (w : World) (hp : Calls Tryz.prog 99 #[.pointer c] w fun e w' => (∃ p a m, e = .returned (.agg #[.pointer p, .pointer a, .slice A N m])) ∧ Below w.heap.size w w') (h : proc < 0 ∨ (N : Int) ≤ proc ∨ order < 0 ∨ 4 ≤ order) :
    Calls Tryz.prog 96 #[.pointer c, .int .i64 proc, .int .i64 order] w fun e w' => e = .returned (.pointer none) ∧ Below w.heap.size w w' := by
  by_cases h1 : proc < 0
  · have hd : decide (proc < 0) = true := decide_eq_true h1
    clear h
    go_enter Tryz.func96, Tryz.ntmps96
    go_wp2_with (go_at_call 99; (with_reducible refine hp.mono ?_); rintro e w1 ⟨⟨p, a, m, rfl⟩, hb⟩)
    go_ret
    exact ⟨rfl, hb.alloc hb.size _⟩
  have hd : decide (proc < 0) = false := decide_eq_false h1
  by_cases h2 : (N : Int) ≤ proc
  · have hd2 : decide ((N : Int) ≤ proc) = true := decide_eq_true h2
    clear h
    go_enter Tryz.func96, Tryz.ntmps96
    go_wp2_with (go_at_call 99; (with_reducible refine hp.mono ?_); rintro e w1 ⟨⟨p, a, m, rfl⟩, hb⟩)
    go_ret
    exact ⟨rfl, hb.alloc hb.size _⟩
  have hd2 : decide ((N : Int) ≤ proc) = false := decide_eq_false h2
  by_cases h3 : order < 0
  · have hd3 : decide (order < 0) = true := decide_eq_true h3
    clear h
    go_enter Tryz.func96, Tryz.ntmps96
    go_wp2_with (go_at_call 99; (with_reducible refine hp.mono ?_); rintro e w1 ⟨⟨p, a, m, rfl⟩, hb⟩)
    go_ret
    exact ⟨rfl, hb.alloc hb.size _⟩
  have h4 : 4 ≤ order := by omega
  have hd3 : decide (order < 0) = false := decide_eq_false h3
  have hd4 : decide (4 ≤ order) = true := decide_eq_true h4
  clear h
  go_enter Tryz.func96, Tryz.ntmps96
  go_wp2_with (go_at_call 99; (with_reducible refine hp.mono ?_); rintro e w1 ⟨⟨p, a, m, rfl⟩, hb⟩)
  go_ret
  exact ⟨rfl, hb.alloc hb.size _⟩
theorem cc_list_yes (q rb : Nat) (proc order : Nat) (N : Nat) (p a : Option Addr) (w : World) (hp : Calls Tryz.prog 99 #[.pointer (some ⟨q, 0, none⟩)] w fun e w' => e = .returned (.agg #[.pointer p, .pointer a, .slice (some ⟨rb, 0, none⟩) N N]) ∧ Below w.heap.size w w') (h1 : proc < N) (h2 : order < 4) (hN : N ≤ 16) :
    Calls Tryz.prog 96 #[.pointer (some ⟨q, 0, none⟩), .int .i64 proc, .int .i64 order] w fun e w' => e = .returned (.pointer (some ⟨rb, 2 * (4 * proc + order), none⟩)) ∧ Below w.heap.size w w' := by
  have e0 : ¬ (proc : Int) < 0 := by omega
  have e1 : ¬ (N : Int) ≤ (proc : Int) := by omega
  have e2 : ¬ (order : Int) < 0 := by omega
  have e3 : ¬ (4 : Int) ≤ (order : Int) := by omega
  have e4 : (0 : Int) ≤ (proc : Int) := by omega
  have e5 : (proc : Int) < (N : Int) := by omega
  have e6 : (0 : Int) ≤ (order : Int) := by omega
  have e7 : (order : Int) < 4 := by omega
  go_enter Tryz.func96, Tryz.ntmps96
  go_wp2_with (go_at_call 99; (with_reducible refine hp.mono ?_); rintro e w1 ⟨rfl, hb⟩)
  go_ret
  exact ⟨by rw [show proc * 8 + order * 2 = 2 * (4 * proc + order) by omega]; rfl, hb.alloc hb.size _⟩

end Go.Proofs.YtlcdgmjinhbncaaGreat
