/- What pop of caches does, once the chain's own call is told. -/
import Derived.Test.YtlcdgmjinhbncaaGreatPCachePush
import Derived.Test.YtlcdgmjinhbncaaGreatPCacheFns
import Derived.Shelf.Sort.Plain
import Derived.Shelf.Slices.In.SortNone
import Derived.Test.YtlcdgmjinhbncaaGreatProg
import Derived.Test.YtlcdgmjinhbncaaGreatPPoolGiveP
import Derived.RangeFuncBox
namespace Go.Proofs.YtlcdgmjinhbncaaGreat
open Go.RowKit Go.Maps
set_option linter.unusedVariables false

set_option maxRecDepth 100000 in
set_option maxHeartbeats 4000000 in
theorem cc_pop_walk {w : World} {q rb o ap g n : Nat} {h1 h2 c1 c2 a : Int} {ws' : List Nat} (hq : w.cell? ⟨q, 1, none⟩ = some (.pointer (some ⟨ap, 0, none⟩))) (y0 : w.cell? ⟨rb, o, none⟩ = some (.int .i64 h1)) (y1 : w.cell? ⟨rb, o + 1, none⟩ = some (.int .i64 h2)) (f0 : w.frozen? ⟨rb, o, none⟩ = false) (f1 : w.frozen? ⟨rb, o + 1, none⟩ = false) (hg : g ≠ rb) (hgl : g < w.heap.size) (hal : ap < w.heap.size)
    (CP : ∀ W', Below w.heap.size w W' → Calls Tryz.prog 132 #[.pointer (some ⟨ap, 0, none⟩), .agg #[.int .i64 h1, .int .i64 h2]] W' fun e w7 => e = .returned (.tuple #[.agg #[.int .i64 c1, .int .i64 c2], .int .i64 a, .int .i64 0]) ∧ W'.grownBy w7 (some g) ∧ Ar w7 0 ap g n ws') :
    Calls Tryz.prog 102 #[.pointer (some ⟨q, 0, none⟩), .pointer (some ⟨rb, o, none⟩)] w fun e w' => e = .returned (.tuple #[.int .i64 a, .int .i64 0]) ∧ CcTo w rb o ap g n ws' c1 c2 w' := by
  have hrl : rb < w.heap.size := lt_of_cell y0
  have b1 := alloc_old (.cells #[.int .i64 0, .int .i64 0] 137) hq
  have b2 := alloc_old (.cells #[.int .i64 0, .int .i64 0] 137) y0
  have b3 := alloc_old (.cells #[.int .i64 0, .int .i64 0] 137) y1
  have HB1 := hidb ((Below.refl w.heap.size w).drew)
  have HB2 := hidb (((Below.refl w.heap.size w).alloc (Nat.le_refl _) (.cells #[.int .i64 0, .int .i64 0] 137)).drew)
  have k1 := CP _ HB1.out
  have k2 := CP _ HB2.out
  have HF := hidb (fun (W' w7 : World) (hb : Below w.heap.size w W') (h : W'.grownBy w7 (some g)) => cells_old hb h hrl hg.symm y0 y1 f0 f1)
  have HA := hidb (fun (W' w7 : World) (hb : Below w.heap.size w W') (h : W'.grownBy w7 (some g)) (ha : Ar w7 0 ap g n ws') (ob : Obj) => ccTo_a (rb := rb) (o := o) (c1 := c1) (c2 := c2) hb h ha ob)
  have HC := hidb (fun (W' w7 : World) (b : Nat) (hb : Below w.heap.size w W') (h : W'.grownBy w7 (some g)) (ha : Ar w7 0 ap g n ws') (h1 : w.heap.size ≤ b) => ccTo_b (rb := rb) (o := o) (c1 := c1) (c2 := c2) hb h ha h1 hal hgl)
  have HH2 := hidb (show (w.alloc (.cells #[.int .i64 0, .int .i64 0] 137)).drew.heap[w.heap.size]? = some (.cells #[.int .i64 0, .int .i64 0] 137 (0, 0)) from heapC w _)
  have HL := hidb (fun (W' w7 : World) (hb : Below w.heap.size w W') (h : W'.grownBy w7 (some g)) => (show rb < w7.heap.size from Nat.lt_of_lt_of_le hrl (Nat.le_trans hb.size h.size)))
  clear CP
  go_enter Tryz.func102, Tryz.ntmps102
  go_wp2
  go_region_law (first
    | (go_simp; go_at_call 132; (with_reducible refine k1.mono ?_); rintro e w7 ⟨rfl, hg7, ha7⟩; obtain ⟨z0, z1, z2, z3⟩ := HF.out _ _ HB1.out hg7; have hl7 := HL.out _ _ HB1.out hg7; have nn7 : ¬ rb = w7.heap.size := (by omega); have nn8 : ¬ rb = w.heap.size := (by omega); have nn9 : ¬ rb = w.heap.size + 1 := (by omega); have z4 := alloc_old (.cells #[.int .i64 c1, .int .i64 c2] 137) z0; have z5 := alloc_old (.cells #[.int .i64 c1, .int .i64 c2] 137) z1; have P := hidb (HA.out _ _ HB1.out hg7 ha7 (.cells #[.int .i64 c1, .int .i64 c2] 137)); clear hg7 ha7)
    | (go_simp; go_at_call 132; (with_reducible refine k2.mono ?_); rintro e w7 ⟨rfl, hg7, ha7⟩; obtain ⟨z0, z1, z2, z3⟩ := HF.out _ _ HB2.out hg7; have hl7 := HL.out _ _ HB2.out hg7; have nn7 : ¬ rb = w7.heap.size := (by omega); have nn8 : ¬ rb = w.heap.size := (by omega); have nn9 : ¬ rb = w.heap.size + 1 := (by omega); obtain ⟨n0, n1, m0, m1⟩ := cells2C (chain_old (b := w.heap.size) (t := 137) hg7 HH2.out (by simp) (by omega)); have P := hidb (HC.out _ _ w.heap.size HB2.out hg7 ha7 (Nat.le_refl _)); clear hg7 ha7))
  all_goals clear k1 k2 HF HA HC HH2 HL b1 b2 b3 hq y0 y1 f0 f1
  all_goals go_wp2
  all_goals go_ret2
  all_goals exact ⟨rfl, P.out⟩

end Go.Proofs.YtlcdgmjinhbncaaGreat
/- Caches' own steps: a block is pushed, popped; the pool beneath them takes, is given a block. -/
namespace Go.Proofs.YtlcdgmjinhbncaaGreat
open Go.RowKit Go.Maps
set_option linter.unusedVariables false

section
variable {F : CaF} {w W : World} {S : Nat → Prop} {v : PoolW} {cs : List CL} {k : Nat} {pages : Int}
theorem outOf_q {ks : List CutV} {x o : Int} (h : OutQ (ks.map CutV.plain) x o) : OutOf ks x := by
  obtain ⟨c, hc, h1, h2, _⟩ := h
  obtain ⟨d, hd, rfl⟩ := List.mem_map.1 hc
  exact ⟨d, hd, h1, h2⟩
theorem CaSt.range (s : CaSt F w W S v cs k pages) {x o : Int} (h : OutQ v.plain.l x o) : 0 ≤ x ∧ x < (F.n : Int) ∧ F.n ≤ 65536 := by
  obtain ⟨Sh, m, D, q1, q2, q3⟩ := s.pl
  obtain ⟨c, hc, h1, _, _⟩ := h
  obtain ⟨d, hd, rfl⟩ := List.mem_map.1 (show c ∈ v.ks.map CutV.plain from hc)
  have := q2.block_range q1.hp_.ok hd h1
  have h2 := q1.ar.small
  exact ⟨this.1, this.2, h2⟩
theorem CaSt.gs (s : CaSt F w W S v cs k pages) : F.g ≠ F.rb ∧ F.g < W.heap.size ∧ F.ap < W.heap.size := by
  obtain ⟨Sh, m, D, q1, q2, q3⟩ := s.pl
  exact ⟨(q3 F.g (Or.inr (Or.inr (Or.inr (Or.inl rfl))))).2.2, q1.ar.lt, q1.ar.ltp⟩
/-- push. -/
theorem c_push (s : CaSt F w W S v cs k pages) {i : Nat} {c : CL} (hi : cs[i]? = some c) {x : Int} (hx : OutQ v.plain.l x ((i % 4 : Nat) : Int)) (hn : ∀ d ∈ cs, x ∉ d.2) :
    Calls Tryz.prog 108 #[.pointer (some ⟨F.q, 0, none⟩), .pointer (some ⟨F.rb, 2 * i, none⟩), .int .i64 x] W fun e w' => e = .returned (.int .i64 0) ∧ ∃ ws' c', CaSt F w w' S { v with ws := ws' } (cs.set i (c', x :: c.2)) k pages ∧ SideP S W S w' := by
  obtain ⟨g1, g2, g3⟩ := s.gs
  obtain ⟨r1, r2, r3⟩ := s.range hx
  have hcm := List.mem_of_getElem? hi
  obtain ⟨n1, n2, n3, n4, n5, n6⟩ := s.nodup hcm
  obtain ⟨Sh, m, D, q1, q2, q3⟩ := s.pl
  have hwl : v.ws.length = F.n := q1.ar.hlen
  obtain ⟨ws', c', p1, p2, p3, p4, p5⟩ := push_right (s.ok.lst c hcm) (m := [x]) (by
    rw [List.singleton_append]
    exact List.nodup_cons.2 ⟨hn c hcm, n5⟩) (fun y hy => by
    obtain rfl := List.mem_singleton.1 hy
    rw [hwl]; exact ⟨r1, r2⟩) q2.wide (by rw [hwl]; exact r3)
  obtain ⟨y0, y1⟩ := s.row i c hi
  refine (cc_push_walk (n := F.n) (ws' := ws') (c1 := c'.1) (c2 := c'.2) s.c1 y0 y1 (s.fz _) (s.fz _) g1 g2 g3 fun W' b hb hbl hc hbs => ?_).mono ?_
  · have cp := code_cpush (q1.below hb).ar c.1.1 c.1.2 n2 n3 q2.wide (some ⟨b, 0, none⟩) 1 1 [x] ⟨rfl, fun _ => ⟨b, 0, rfl, hbs, fun j hj => by
      obtain rfl : j = 0 := by omega
      exact hc⟩⟩ (fun _ a ha e => by
      injection ha with ha
      rw [← ha] at e
      have e2 : b = F.g := e
      omega) (by omega) (fun y hy => by
      obtain rfl := List.mem_singleton.1 hy
      exact ⟨by omega, by omega⟩)
    rw [show cPush v.ws (c.1.1, c.1.2) [x] = (ws', c', 0) from p1] at cp
    refine cp.mono ?_
    rintro e w7 ⟨rfl, ha, hg⟩
    exact ⟨rfl, hg, ha⟩
  · rintro e w' ⟨rfl, W2, hg, ha, hb⟩
    obtain ⟨h1, h2⟩ := s.chain (i := i) (c := c) hi (c' := c') (l' := x :: c.2) (U := (· = x)) p4 p2 (fun c9 l9 h9 hn9 => p5 c9 l9 h9 fun z hz hzl => hn9 z hzl (List.mem_singleton.1 hz)) (fun y hy => ⟨_, hy ▸ hx⟩) (fun j d hj hne y hy e => hn d (List.mem_of_getElem? hj) (e ▸ hy)) (fun y hy => by
      rcases List.mem_cons.1 hy with rfl | hy
      · exact hx
      · exact s.ok.out i c hi y hy) (fun j d hj hne y hy hm => by
      rcases List.mem_cons.1 hm with rfl | hm
      · exact hn d (List.mem_of_getElem? hj) hy
      · exact s.ok.apart j i d c hj hi (Ne.symm hne) y hy hm) hg ha (Below.refl _ _)
    have hsz : ((W2.setCell ⟨F.rb, 2 * i, none⟩ (.int .i64 c'.1)).setCell ⟨F.rb, 2 * i + 1, none⟩ (.int .i64 c'.2)).heap.size = W2.heap.size := by simp
    have hb' : Below ((W2.setCell ⟨F.rb, 2 * i, none⟩ (.int .i64 c'.1)).setCell ⟨F.rb, 2 * i + 1, none⟩ (.int .i64 c'.2)).heap.size ((W2.setCell ⟨F.rb, 2 * i, none⟩ (.int .i64 c'.1)).setCell ⟨F.rb, 2 * i + 1, none⟩ (.int .i64 c'.2)) w' := by rw [hsz]; exact hb
    exact ⟨rfl, ws', c', h1.below hb', h2.trans (SideP.below hb')⟩
/-- pop. -/
theorem c_pop (s : CaSt F w W S v cs k pages) {i : Nat} {c : Int × Int} {a : Int} {r : List Int} (hi : cs[i]? = some (c, a :: r)) :
    Calls Tryz.prog 102 #[.pointer (some ⟨F.q, 0, none⟩), .pointer (some ⟨F.rb, 2 * i, none⟩)] W fun e w' => e = .returned (.tuple #[.int .i64 a, .int .i64 0]) ∧ ∃ ws' c', CaSt F w w' S { v with ws := ws' } (cs.set i (c', r)) k pages ∧ SideP S W S w' := by
  obtain ⟨g1, g2, g3⟩ := s.gs
  have hcm := List.mem_of_getElem? hi
  obtain ⟨n1, n2, n3, n4, n5, n6⟩ := s.nodup hcm
  obtain ⟨Sh, m, D, q1, q2, q3⟩ := s.pl
  have hwl : v.ws.length = F.n := q1.ar.hlen
  obtain ⟨ws', c', p1, p2, p3, p4, p5⟩ := pop_right (s.ok.lst _ hcm) q2.wide (by rw [hwl]; exact q1.ar.small)
  obtain ⟨y0, y1⟩ := s.row i _ hi
  refine (cc_pop_walk (n := F.n) (ws' := ws') (c1 := c'.1) (c2 := c'.2) (a := a) s.c1 y0 y1 (s.fz _) (s.fz _) g1 g2 g3 fun W' hb => ?_).mono ?_
  · have cp := code_cpop (q1.below hb).ar c.1 c.2 n2 n3 q2.wide
    rw [show cPop v.ws (c.1, c.2) = (ws', c', a, 0) from p1] at cp
    refine cp.mono ?_
    rintro e w7 ⟨rfl, ha, hg⟩
    exact ⟨rfl, hg, ha⟩
  · rintro e w' ⟨rfl, W2, hg, ha, hb⟩
    obtain ⟨h1, h2⟩ := s.chain (i := i) (c := (c, a :: r)) hi (c' := c') (l' := r) (U := (· ∈ a :: r)) p4 p2 (fun c9 l9 h9 hn9 => p5 c9 l9 h9 fun z hz hzl => hn9 z hzl hz) (fun y hy => ⟨_, s.ok.out i _ hi y hy⟩) (fun j d hj hne y hy hm => s.ok.apart j i d _ hj hi (Ne.symm hne) y hy hm) (fun y hy => s.ok.out i _ hi y (List.mem_cons_of_mem _ hy)) (fun j d hj hne y hy hm => s.ok.apart j i d _ hj hi (Ne.symm hne) y hy (List.mem_cons_of_mem _ hm)) hg ha (Below.refl _ _)
    have hsz : ((W2.setCell ⟨F.rb, 2 * i, none⟩ (.int .i64 c'.1)).setCell ⟨F.rb, 2 * i + 1, none⟩ (.int .i64 c'.2)).heap.size = W2.heap.size := by simp
    have hb' : Below ((W2.setCell ⟨F.rb, 2 * i, none⟩ (.int .i64 c'.1)).setCell ⟨F.rb, 2 * i + 1, none⟩ (.int .i64 c'.2)).heap.size ((W2.setCell ⟨F.rb, 2 * i, none⟩ (.int .i64 c'.1)).setCell ⟨F.rb, 2 * i + 1, none⟩ (.int .i64 c'.2)) w' := by rw [hsz]; exact hb
    exact ⟨rfl, ws', c', h1.below hb', h2.trans (SideP.below hb')⟩
/-- The pool's Take. -/
theorem c_ptake (s : CaSt F w W S v cs k pages) (hk : k + 1 ≤ 1000000000) (order : Int) (ho : in64 order) (p' : PoolV) (at' no : Int) (e : pTake v.plain order = (p', at', no)) :
    Calls Tryz.prog 60 #[.pointer (some ⟨F.p, 0, none⟩), .int .i64 order] W fun e w' => e = .returned (.tuple #[.int .i64 at', .int .i64 no]) ∧ ∃ S' v', CaSt F w w' S' v' cs (k + 1) pages ∧ v'.plain = p' ∧ SideP S W S' w' := by
  by_cases c : order < 0 ∨ 3 < order
  · refine (code_ptake_arg (some ⟨F.p, 0, none⟩) order ho c W).mono ?_
    unfold pTake at e
    rw [if_pos c] at e
    injection e with e1 e2
    injection e2 with e2 e3
    subst e2 e3
    rintro e w' ⟨rfl, hb⟩
    exact ⟨rfl, S, v, (s.below hb).later (by omega), e1, SideP.below hb⟩
  · obtain ⟨Sh, m, D, q1, q2, q3⟩ := s.pl
    have hla := s.la
    refine (code_ptake q1 q2 order (by omega) (by omega)).mono ?_
    rintro e' w' ⟨at2, no2, v', rfl, hw, e2, hst⟩
    rw [e] at e2
    injection e2 with e3 e4
    injection e4 with e4 e5
    subst e4 e5
    have hh := pTake_heap (p := v.plain) q1.hp_.ok order
    rw [e, e3] at hh
    have hl : v'.h.last ≤ ((k + 1 : Nat) : Int) := by have h1 : v'.h.last ≤ v.h.last + 1 := hh.2; omega
    have hpk := (s.pool.did (fun b h => (q3 b h).1) hw hl hh.1).1.pok
    obtain ⟨h1, h2⟩ := s.did q3 hw hst (fun d hd x hx hn => by
      obtain ⟨i, hi⟩ := List.getElem?_of_mem hd
      exact hn (outOf_q (s.ok.out i d hi x hx))) (fun i d hi x hx => by
      by_cases hz : no = 0
      · subst hz
        rw [e3] at e
        exact (take_out s.pool.pok hpk e).1 x _ (s.ok.out i d hi x hx)
      · have := take_refused e hz
        rw [e3] at this
        rw [this]
        exact s.ok.out i d hi x hx) hl hh.1
    exact ⟨rfl, _, v', h1, e3.symm, h2⟩
/-- The pool's Give of one block that is out, and in no list. -/
theorem c_pgive (s : CaSt F w W S v cs k pages) {x q : Int} (hx : OutQ v.plain.l x q) (hn : ∀ d ∈ cs, x ∉ d.2) (A : Addr) (c : Nat) (hs : Sl W W.heap.size (some A) 1 ([x].map iv)) (hA : ¬ S A.block) (p' : PoolV) (no : Int) (e : gGive v.plain [x] = (p', no)) :
    Calls Tryz.prog 68 #[.pointer (some ⟨F.p, 0, none⟩), .slice (some A) 1 c] W fun e w' => e = .returned (.int .i64 no) ∧ ∃ S' v', CaSt F w w' S' v' cs k pages ∧ v'.plain = p' ∧ SideP S W S' w' := by
  obtain ⟨r1, r2, r3⟩ := s.range hx
  obtain ⟨Sh, m, D, q1, q2, q3⟩ := s.pl
  refine (code_pgive q1 q2 (some A) 1 c [x] hs (fun _ a ha h => by
    injection ha with ha
    exact hA (ha ▸ (q3 _ h).1)) (by omega) (fun y hy => by
    obtain rfl := List.mem_singleton.1 hy
    exact ⟨by omega, by omega⟩)).mono ?_
  rintro e' w' ⟨no2, v', rfl, hw, e2, hst⟩
  rw [e] at e2
  injection e2 with e3 e4
  subst e4
  have hh := gGive_heap (p := v.plain) q1.hp_.ok [x]
  rw [e, e3] at hh
  have hl : v'.h.last ≤ (k : Int) := by have h1 : v'.h.last = v.h.last := hh.2; have := s.la; omega
  obtain ⟨p2, g1, _, g2⟩ := give_out s.pool.pok hx
  rw [e] at g1
  injection g1 with g1 _
  obtain ⟨h1, h2⟩ := s.did q3 hw hst (fun d hd y hy hm => hn d hd (by rw [← List.mem_singleton.1 hm]; exact hy)) (fun i d hi y hy => by
    rw [← e3, g1]
    exact g2 y _ (s.ok.out i d hi y hy) (fun h => hn d (List.mem_of_getElem? hi) (h ▸ hy))) hl hh.1
  exact ⟨rfl, _, v', h1, e3.symm, h2⟩
/-- A list's place. -/
theorem c_list (s : CaSt F w W S v cs k pages) (proc order : Nat) (h1 : proc < F.N) (h2 : order < 4) :
    Calls Tryz.prog 96 #[.pointer (some ⟨F.q, 0, none⟩), .int .i64 proc, .int .i64 order] W fun e w' => e = .returned (.pointer (some ⟨F.rb, 2 * (4 * proc + order), none⟩)) ∧ Below W.heap.size W w' :=
  cc_list_yes F.q F.rb proc order F.N _ _ W (cc_parts F.q _ _ _ _ _ W s.c0 s.c1 s.c2) h1 h2 s.n1.2
theorem c_list_no (s : CaSt F w W S v cs k pages) (proc order : Int) (h : proc < 0 ∨ (F.N : Int) ≤ proc ∨ order < 0 ∨ 4 ≤ order) :
    Calls Tryz.prog 96 #[.pointer (some ⟨F.q, 0, none⟩), .int .i64 proc, .int .i64 order] W fun e w' => e = .returned (.pointer none) ∧ Below W.heap.size W w' :=
  cc_list_no (some ⟨F.q, 0, none⟩) proc order F.N (some ⟨F.rb, 0, none⟩) W ((cc_parts F.q _ _ _ _ _ W s.c0 s.c1 s.c2).mono fun e w' ⟨h1, h2⟩ => ⟨⟨_, _, _, h1⟩, h2⟩) h
end

end Go.Proofs.YtlcdgmjinhbncaaGreat
/- A list is filled out of the pool, and emptied into it. -/
namespace Go.Proofs.YtlcdgmjinhbncaaGreat
open Go.RowKit Go.Maps
set_option linter.unusedVariables false

/-- To fill a list: the pool, the list, the error that ended it. -/
def caFill : Nat → PoolV → List Int → Int → PoolV × List Int × Int
  | 0, p, l, _ => (p, l, 0)
  | f + 1, p, l, o => if l.length * pSize o < 128 then (if (pTake p o).2.2 = 0 then caFill f (pTake p o).1 ((pTake p o).2.1 :: l) o else ((pTake p o).1, l, (pTake p o).2.2)) else (p, l, 0)
theorem caFill_end {p : PoolV} {l : List Int} {o : Int} (h : ¬ l.length * pSize o < 128) : ∀ f, caFill f p l o = (p, l, 0)
  | 0 => rfl
  | f + 1 => by unfold caFill; rw [if_neg h]
theorem pSize_16 (o : Int) : 16 ≤ pSize o := by
  have : 1 ≤ 2 ^ o.toNat := Nat.one_le_two_pow
  unfold pSize; omega
theorem pSize_128 {o : Int} (h : 0 ≤ o ∧ o ≤ 3) : pSize o ≤ 128 := by
  obtain rfl | rfl | rfl | rfl : o = 0 ∨ o = 1 ∨ o = 2 ∨ o = 3 := by omega
  all_goals decide
/-- To empty a list to so many words: the pool, the list. -/
def caEmpty (most : Nat) (o : Int) : PoolV → List Int → PoolV × List Int
  | p, [] => (p, [])
  | p, a :: r => if most < (r.length + 1) * pSize o then caEmpty most o (gGive p [a]).1 r else (p, a :: r)

section
variable {F : CaF} {w W : World} {S : Nat → Prop} {v : PoolW} {cs : List CL} {k : Nat} {pages : Int}
theorem CaSt.noin (s : CaSt F w W S v cs k pages) {x : Int} (h : ∀ o, ¬ OutQ v.plain.l x o) : ∀ d ∈ cs, x ∉ d.2 := fun d hd hx => by
  obtain ⟨i, hi⟩ := List.getElem?_of_mem hd
  exact h _ (s.ok.out i d hi x hx)

/-- What fill leaves: the list is R's, the pool is R's. -/
def Filled (F : CaF) (w W : World) (S : Nat → Prop) (cs : List CL) (i k : Nat) (pages : Int) (R : PoolV × List Int × Int) (e : Ending) (w' : World) : Prop :=
  e = .returned (.int .i64 R.2.2) ∧ ∃ S' v' c', CaSt F w w' S' v' (cs.set i (c', R.2.1)) (k + 8) pages ∧ v'.plain = R.1 ∧ SideP S W S' w'

/-- How many blocks the list at i has, as its chain tells. -/
def lenAt (W : World) (rb i : Nat) : Int := intOf ((W.cell? ⟨rb, 2 * i + 1, none⟩).getD (.int .i64 0))
theorem set_same {α : Type} {l : List α} {i : Nat} {x : α} (h : l[i]? = some x) : l.set i x = l := by
  obtain ⟨hi, e⟩ := List.getElem?_eq_some_iff.1 h
  rw [← e]; exact List.set_getElem_self hi
theorem CaSt.at_ (s : CaSt F w W S v cs k pages) {i : Nat} {c : Int × Int} {l : List Int} (hi : cs[i]? = some (c, l)) : ∃ h, c = (h, (l.length : Int)) ∧ W.cell? ⟨F.rb, 2 * i, none⟩ = some (.int .i64 h) ∧ W.cell? ⟨F.rb, 2 * i + 1, none⟩ = some (.int .i64 (l.length : Int)) ∧ lenAt W F.rb i = l.length ∧ l.length ≤ 65536 := by
  obtain ⟨n1, n2, n3, n4, n5, n6⟩ := s.nodup (List.mem_of_getElem? hi)
  obtain ⟨y0, y1⟩ := s.row i _ hi
  simp only at n1 n4 y0 y1
  rw [← n4] at y1
  refine ⟨c.1, by rw [n4], y0, y1, ?_, n1⟩
  unfold lenAt
  rw [y1]; rfl

set_option maxHeartbeats 2000000 in
set_option maxRecDepth 100000 in
theorem c_fill (s : CaSt F w W S v cs k pages) (hk : k + 8 ≤ 1000000000) {i : Nat} {c : Int × Int} (hi : cs[i]? = some (c, [])) (o : Nat) (ho : o < 4) (hio : i % 4 = o) :
    Calls Tryz.prog 101 #[.pointer (some ⟨F.q, 0, none⟩), .pointer (some ⟨F.rb, 2 * i, none⟩), .int .i64 o] W (Filled F w W S cs i k pages (caFill 8 v.plain [] o)) := by
  obtain ⟨R, hR⟩ : ∃ R, caFill 8 v.plain [] o = R := ⟨_, rfl⟩
  rw [hR]
  have hil := (List.getElem?_eq_some_iff.1 hi).1
  have H0 := hidb (show CaSt F w W S v (cs.set i (c, [])) (k + 0) pages ∧ SideP S W S W ∧ caFill (8 - 0) v.plain [] o = R from ⟨by rw [set_same hi]; exact s, SideP.below (Below.refl _ _), hR⟩)
  have hget : ∀ x : CL, (cs.set i x)[i]? = some x := fun x => List.getElem?_set_self hil
  have HSZ := hidb (pSize_16 (o : Int))
  have hgq := s.ne
  clear s hR hi
  go_enter Tryz.func101, Tryz.ntmps101
  go_wp2
  go_loopw [7, 8] (fun _ _ wr => ∃ (S' : Nat → Prop) (u : PoolW) (c' : Int × Int) (l : List Int), l.length ≤ 8 ∧ Hid (CaSt F w wr S' u (cs.set i (c', l)) (k + l.length) pages ∧ SideP S W S' wr ∧ caFill (8 - l.length) u.plain l o = R)) (fun _ _ wr => (9 - lenAt wr F.rb i).toNat)
  case atStart => exact ⟨S, v, c, [], by simp, H0⟩
  case round =>
    obtain ⟨S', u, c', l, hl8, HS⟩ := hrel
    obtain ⟨hh, rfl, y0, y1, hlen, h655⟩ := HS.out.1.at_ (hget (c', l))
    obtain ⟨t, ht⟩ : ∃ t : Nat, l.length * pSize (o : Int) = t := ⟨_, rfl⟩
    have cwd : Calls Tryz.prog 106 #[.agg #[.int .i64 hh, .int .i64 (l.length : Int)], .int .i64 (o : Int)] wr fun e w' => e = .returned (.int .i64 (t : Int)) ∧ Below wr.heap.size wr w' := by
      have := cc_words hh (l.length : Int) (o : Int) wr ⟨by omega, by omega⟩ ⟨by omega, by omega⟩
      rw [← Int.natCast_mul, ht] at this
      exact this
    obtain ⟨N, hN⟩ : ∃ N : Nat, l.length = N := ⟨_, rfl⟩
    rw [hN] at cwd y1 hlen
    have hlen2 := hidb hlen
    by_cases hlt : t < 128
    · have hN8 : N < 8 := by
        have h1 := HSZ.out
        rw [hN] at ht
        rcases Nat.lt_or_ge N 8 with h | h
        · exact h
        · have : 8 * 16 ≤ N * pSize (o : Int) := Nat.mul_le_mul h h1
          omega
      have hI : (t : Int) < 128 := by omega
      obtain ⟨⟨p', a, no⟩, hT⟩ : ∃ r, pTake u.plain o = r := ⟨_, rfl⟩
      have hfill : caFill (8 - N) u.plain l o = if no = 0 then caFill (8 - (N + 1)) p' (a :: l) o else (p', l, no) := by
        rw [show 8 - N = (8 - (N + 1)) + 1 by omega]
        show (if l.length * pSize (o : Int) < 128 then _ else _) = _
        rw [if_pos (by omega), hT]
      have HFILL := hidb (hfill.symm.trans (hN ▸ HS.out.2.2))
      have CT : Hid (∀ w1, Below wr.heap.size wr w1 → w1.cell? ⟨F.q, 0, none⟩ = some (.pointer (some ⟨F.p, 0, none⟩)) ∧ Calls Tryz.prog 60 #[.pointer (some ⟨F.p, 0, none⟩), .int .i64 o] w1 fun e w2 => e = .returned (.tuple #[.int .i64 a, .int .i64 no]) ∧ ∃ S2 u2, Hid (CaSt F w w2 S2 u2 (cs.set i ((hh, (l.length : Int)), l)) (k + N + 1) pages ∧ u2.plain = p' ∧ SideP S W S2 w2)) := hidb (fun w1 hb => by
        have s1 := HS.out.1.below hb
        rw [hN] at s1
        refine ⟨s1.c0, (c_ptake s1 (by omega) o ⟨by omega, by omega⟩ p' a no hT).mono ?_⟩
        rintro e w2 ⟨rfl, S2, u2, h1, h2, h3⟩
        rw [hN]
        exact ⟨rfl, S2, u2, hidb ⟨h1, h2, (HS.out.2.1.trans (SideP.below hb)).trans h3⟩⟩)
      by_cases hno : no = 0
      · subst hno
        have CPU : Hid (∀ w2 S2 u2, Hid (CaSt F w w2 S2 u2 (cs.set i ((hh, (l.length : Int)), l)) (k + N + 1) pages ∧ u2.plain = p' ∧ SideP S W S2 w2) → Calls Tryz.prog 108 #[.pointer (some ⟨F.q, 0, none⟩), .pointer (some ⟨F.rb, 2 * i, none⟩), .int .i64 a] w2 fun e w3 => e = .returned (.int .i64 0) ∧ ∃ S3 u3 c3, Hid (CaSt F w w3 S3 u3 (cs.set i (c3, a :: l)) (k + (N + 1)) pages ∧ SideP S W S3 w3 ∧ caFill (8 - (N + 1)) u3.plain (a :: l) o = R)) := hidb (fun w2 S2 u2 H2 => by
          obtain ⟨h1, h2, h3⟩ := H2.out
          have hpo := h1.pool.pok
          rw [h2] at hpo
          obtain ⟨_, t2, t3, _⟩ := take_out HS.out.1.pool.pok hpo hT
          refine (c_push h1 (hget _) (x := a) (by rw [h2, hio]; exact t2) (HS.out.1.noin t3)).mono ?_
          rintro e w3 ⟨rfl, ws', c3, k1, k2⟩
          rw [List.set_set] at k1
          refine ⟨rfl, S2, _, c3, hidb ⟨k1, h3.trans k2, ?_⟩⟩
          have := HFILL.out
          rw [if_pos rfl] at this
          show caFill _ u2.plain _ _ = R
          rw [h2]; exact this)
        have HLA : Hid (∀ w3 S3 u3 c3, Hid (CaSt F w w3 S3 u3 (cs.set i (c3, a :: l)) (k + (N + 1)) pages ∧ SideP S W S3 w3 ∧ caFill (8 - (N + 1)) u3.plain (a :: l) o = R) → lenAt w3 F.rb i = N + 1) := hidb (fun w3 S3 u3 c3 H3 => by
          obtain ⟨_, _, _, _, h, _⟩ := H3.out.1.at_ (hget _)
          rw [h]
          simp only [List.length_cons]
          omega)
        clear hT hfill hget HSZ ht h655 hlen
        --@1
        go_wp2_with (first
          | (go_at_call 106; (with_reducible refine cwd.mono ?_); rintro e w1 ⟨rfl, hb1⟩; obtain ⟨z0, ct⟩ := CT.out w1 hb1)
          | (go_at_call 60; (with_reducible refine ct.mono ?_); rintro e w2 ⟨rfl, S2, u2, H2⟩; have cp := CPU.out w2 S2 u2 H2)
          | (go_at_call 108; (with_reducible refine cp.mono ?_); rintro e w3 ⟨rfl, S3, u3, c3, H3⟩; have HM := hidb (HLA.out w3 S3 u3 c3 H3)))
        go_roundw
        case rel => exact ⟨S3, u3, c3, a :: l, by simp only [List.length_cons]; omega, by rw [show (a :: l).length = N + 1 by simp [hN]]; exact H3⟩
        case measure =>
          have e1 := HM.out
          have e2 := hlen2.out
          rw [e1, e2]
          omega
      · have HEND : Hid (∀ w2 S2 u2, Hid (CaSt F w w2 S2 u2 (cs.set i ((hh, (l.length : Int)), l)) (k + N + 1) pages ∧ u2.plain = p' ∧ SideP S W S2 w2) → Filled F w W S cs i k pages R (.returned (.int .i64 no)) w2) := hidb (fun w2 S2 u2 H2 => by
          obtain ⟨h1, h2, h3⟩ := H2.out
          have := HFILL.out
          rw [if_neg hno] at this
          subst this
          exact ⟨rfl, S2, u2, _, h1.later (by omega), h2, h3⟩)
        clear hT hfill hget HSZ ht h655 hlen
        --@2
        go_wp2_with (first
          | (go_at_call 106; (with_reducible refine cwd.mono ?_); rintro e w1 ⟨rfl, hb1⟩; obtain ⟨z0, ct⟩ := CT.out w1 hb1)
          | (go_at_call 60; (with_reducible refine ct.mono ?_); rintro e w2 ⟨rfl, S2, u2, H2⟩; have P := hidb (HEND.out w2 S2 u2 H2)))
        go_ret
        exact P.out
    · have hI : ¬ (t : Int) < 128 := by omega
      have HEND : Hid (∀ w1, Below wr.heap.size wr w1 → Filled F w W S cs i k pages R (.returned (.int .i64 0)) w1) := hidb (fun w1 hb => by
        have := HS.out.2.2
        rw [caFill_end (by omega)] at this
        subst this
        exact ⟨rfl, S', u, _, (HS.out.1.below hb).later (by omega), rfl, HS.out.2.1.trans (SideP.below hb)⟩)
      clear hget HSZ ht h655 hlen
      --@3
      go_wp2_with (go_at_call 106; (with_reducible refine cwd.mono ?_); rintro e w1 ⟨rfl, hb1⟩; have P := hidb (HEND.out w1 hb1))
      go_ret
      exact P.out
end

end Go.Proofs.YtlcdgmjinhbncaaGreat
/- A list is emptied into the pool. -/
namespace Go.Proofs.YtlcdgmjinhbncaaGreat
open Go.RowKit Go.Maps
set_option linter.unusedVariables false

section
variable {F : CaF} {w W : World} {S : Nat → Prop} {v : PoolW} {cs : List CL} {k : Nat} {pages : Int}
/-- What was out, and in no list, is so still. -/
def StillOut (cs : List CL) (l0 : List Int) (p p' : PoolV) (l : List Int) : Prop := (∀ y q, OutQ p.l y q → (∀ d ∈ cs, y ∉ d.2) → OutQ p'.l y q) ∧ ∀ a ∈ l, a ∈ l0
def Emptied (F : CaF) (w W : World) (S : Nat → Prop) (cs : List CL) (i k : Nat) (pages : Int) (p : PoolV) (l0 : List Int) (R : PoolV × List Int) (e : Ending) (w' : World) : Prop :=
  e = .returned (.tuple #[]) ∧ ∃ S' v' c', CaSt F w w' S' v' (cs.set i (c', R.2)) k pages ∧ v'.plain = R.1 ∧ SideP S W S' w' ∧ StillOut cs l0 p R.1 R.2
theorem caEmpty_end {most : Nat} {o : Int} {p : PoolV} {l : List Int} (h : ¬ most < l.length * pSize o) : caEmpty most o p l = (p, l) := by
  cases l with
  | nil => rfl
  | cons a r => unfold caEmpty; rw [if_neg (by simpa using h)]
theorem caEmpty_step {most : Nat} {o : Int} {p : PoolV} {a : Int} {r : List Int} (h : most < (r.length + 1) * pSize o) : caEmpty most o p (a :: r) = caEmpty most o (gGive p [a]).1 r := by
  conv => lhs; unfold caEmpty
  rw [if_pos h]
/-- What was popped is in no list. -/
theorem CaSt.popped (s : CaSt F w W S v cs k pages) {i : Nat} {c : Int × Int} {a : Int} {r : List Int} (hi : cs[i]? = some (c, a :: r)) (c' : Int × Int) : ∀ d ∈ cs.set i (c', r), a ∉ d.2 := fun d hd hm => by
  have hil := (List.getElem?_eq_some_iff.1 hi).1
  obtain ⟨j, hj⟩ := List.getElem?_of_mem hd
  by_cases e : i = j
  · subst e
    rw [List.getElem?_set_self hil] at hj
    obtain rfl := Option.some.inj hj
    have := (s.nodup (List.mem_of_getElem? hi)).2.2.2.2.1
    exact (List.nodup_cons.1 this).1 hm
  · rw [List.getElem?_set_ne e] at hj
    exact s.ok.apart i j _ d hi hj e a (List.mem_cons_self ..) hm

set_option maxHeartbeats 2000000 in
set_option maxRecDepth 100000 in
theorem c_empty (s : CaSt F w W S v cs k pages) {i : Nat} {c : Int × Int} {l0 : List Int} (hi : cs[i]? = some (c, l0)) (o : Nat) (ho : o < 4) (hio : i % 4 = o) (most : Nat) (hm : most ≤ 65536) :
    Calls Tryz.prog 107 #[.pointer (some ⟨F.q, 0, none⟩), .pointer (some ⟨F.rb, 2 * i, none⟩), .int .i64 o, .int .i64 most] W (Emptied F w W S cs i k pages v.plain l0 (caEmpty most o v.plain l0)) := by
  obtain ⟨R, hR⟩ : ∃ R, caEmpty most o v.plain l0 = R := ⟨_, rfl⟩
  rw [hR]
  have hil := (List.getElem?_eq_some_iff.1 hi).1
  have H0 := hidb (show CaSt F w W S v (cs.set i (c, l0)) k pages ∧ SideP S W S W ∧ caEmpty most o v.plain l0 = R ∧ StillOut cs l0 v.plain v.plain l0 from ⟨by rw [set_same hi]; exact s, SideP.below (Below.refl _ _), hR, fun _ _ h _ => h, fun _ h => h⟩)
  have HIM := hidb (List.mem_of_getElem? hi)
  have hget : ∀ x : CL, (cs.set i x)[i]? = some x := fun x => List.getElem?_set_self hil
  clear s hR hi
  go_enter Tryz.func107, Tryz.ntmps107
  go_wp2
  go_loopw [8, 9] (fun _ _ wr => ∃ (S' : Nat → Prop) (u : PoolW) (c' : Int × Int) (l : List Int), Hid (CaSt F w wr S' u (cs.set i (c', l)) k pages ∧ SideP S W S' wr ∧ caEmpty most o u.plain l = R ∧ StillOut cs l0 v.plain u.plain l)) (fun _ _ wr => (lenAt wr F.rb i).toNat)
  case atStart => exact ⟨S, v, c, l0, H0⟩
  case round =>
    obtain ⟨S', u, c', l, HS⟩ := hrel
    obtain ⟨hh, rfl, y0, y1, hlen, h655⟩ := HS.out.1.at_ (hget (c', l))
    obtain ⟨t, ht⟩ : ∃ t : Nat, l.length * pSize (o : Int) = t := ⟨_, rfl⟩
    have cwd : Calls Tryz.prog 106 #[.agg #[.int .i64 hh, .int .i64 (l.length : Int)], .int .i64 (o : Int)] wr fun e w' => e = .returned (.int .i64 (t : Int)) ∧ Below wr.heap.size wr w' := by
      have := cc_words hh (l.length : Int) (o : Int) wr ⟨by omega, by omega⟩ ⟨by omega, by omega⟩
      rw [← Int.natCast_mul, ht] at this
      exact this
    obtain ⟨N, hN⟩ : ∃ N : Nat, l.length = N := ⟨_, rfl⟩
    rw [hN] at cwd y1 hlen
    have hlen2 := hidb hlen
    by_cases hlt : most < t
    · have hI : (most : Int) < (t : Int) := by omega
      cases l with
      | nil => rw [List.length_nil, Nat.zero_mul] at ht; omega
      | cons a r =>
        have hN2 : r.length + 1 = N := by rw [← hN]; rfl
        have CT : Hid (∀ w1, Below wr.heap.size wr w1 → Calls Tryz.prog 102 #[.pointer (some ⟨F.q, 0, none⟩), .pointer (some ⟨F.rb, 2 * i, none⟩)] w1 fun e w2 => e = .returned (.tuple #[.int .i64 a, .int .i64 0]) ∧ w2.cell? ⟨F.q, 0, none⟩ = some (.pointer (some ⟨F.p, 0, none⟩)) ∧
            Calls Tryz.prog 68 #[.pointer (some ⟨F.p, 0, none⟩), .slice (some ⟨w2.heap.size, 0, none⟩) 1 1] (w2.alloc (.cells #[.int .i64 a] 3)) fun e w3 => e = .returned (.int .i64 0) ∧ ∃ S3 u3 c3, Hid (CaSt F w w3 S3 u3 (cs.set i (c3, r)) k pages ∧ SideP S W S3 w3 ∧ caEmpty most o u3.plain r = R ∧ StillOut cs l0 v.plain u3.plain r)) := hidb (fun w1 hb => by
          have s1 := HS.out.1.below hb
          have hout := s1.ok.out i _ (hget _) a (List.mem_cons_self ..)
          refine (c_pop s1 (hget _)).mono ?_
          rintro e w2 ⟨rfl, ws', c3, k1, k2⟩
          have hnin := s1.popped (hget _) c3
          refine ⟨rfl, k1.c0, ?_⟩
          have hb3 : Below w2.heap.size w2 (w2.alloc (.cells #[.int .i64 a] 3)) := (Below.refl _ _).alloc (Nat.le_refl _) _
          have k3 := k1.below hb3
          obtain ⟨p2, g1, _, g3⟩ := give_out k3.pool.pok (x := a) (q := ((i % 4 : Nat) : Int)) hout
          refine (c_pgive k3 hout hnin ⟨w2.heap.size, 0, none⟩ 1 (Sl.oneI w2 a _) (fun h => by have := k1.lt _ h; exact absurd this (Nat.lt_irrefl _)) p2 0 g1).mono ?_
          rintro e w3 ⟨rfl, S3, u3, m1, m2, m3⟩
          rw [List.set_set] at m1
          refine ⟨rfl, S3, u3, c3, hidb ⟨m1, ((HS.out.2.1.trans (SideP.below hb)).trans k2).trans ((SideP.below hb3).trans m3), ?_, ?_⟩⟩
          · skip
            have h5 := HS.out.2.2.1
            rw [caEmpty_step (by rw [hN2, ← hN, ht]; exact hlt)] at h5
            rw [m2, ← h5]
            show _ = caEmpty most o (gGive u.plain [a]).1 r
            rw [show gGive u.plain [a] = (p2, 0) from g1]
          · obtain ⟨t1, t2⟩ := HS.out.2.2.2
            refine ⟨fun y q hy hn => ?_, fun x hx => t2 x (List.mem_cons_of_mem _ hx)⟩
            rw [m2]
            exact g3 y q (t1 y q hy hn) (fun e => hn _ HIM.out (by rw [e]; exact t2 a (List.mem_cons_self ..))))
        have HLA : Hid (∀ w3 S3 u3 c3, Hid (CaSt F w w3 S3 u3 (cs.set i (c3, r)) k pages ∧ SideP S W S3 w3 ∧ caEmpty most o u3.plain r = R ∧ StillOut cs l0 v.plain u3.plain r) → lenAt w3 F.rb i + 1 = N) := hidb (fun w3 S3 u3 c3 H3 => by
          obtain ⟨_, _, _, _, h, _⟩ := H3.out.1.at_ (hget _)
          rw [h]
          omega)
        clear hget ht h655 hlen
        --@1
        go_wp2_with (first
          | (go_at_call 106; (with_reducible refine cwd.mono ?_); rintro e w1 ⟨rfl, hb1⟩; have ct := CT.out w1 hb1)
          | (go_at_call 102; (with_reducible refine ct.mono ?_); rintro e w2 ⟨rfl, z0, cg⟩)
          | (go_at_call 68; (with_reducible refine cg.mono ?_); rintro e w3 ⟨rfl, S3, u3, c3, H3⟩; have HM := hidb (HLA.out w3 S3 u3 c3 H3)))
        go_roundw
        case rel => exact ⟨S3, u3, c3, r, H3⟩
        case measure =>
          have e1 := HM.out
          have e2 := hlen2.out
          rw [e2]
          omega
    · have hI : ¬ (most : Int) < (t : Int) := by omega
      have HEND : Hid (∀ w1, Below wr.heap.size wr w1 → Emptied F w W S cs i k pages v.plain l0 R (.returned (.tuple #[])) w1) := hidb (fun w1 hb => by
        have := HS.out.2.2.1
        rw [caEmpty_end (by omega)] at this
        subst this
        exact ⟨rfl, S', u, _, HS.out.1.below hb, rfl, HS.out.2.1.trans (SideP.below hb), HS.out.2.2.2⟩)
      clear hget ht h655 hlen
      --@2
      go_wp2_with (go_at_call 106; (with_reducible refine cwd.mono ?_); rintro e w1 ⟨rfl, hb1⟩; have P := hidb (HEND.out w1 hb1))
      exact bodyPost_ret (v := .tuple #[]) (by simp [results, Tryz.results107, go_sem]) rfl P.out
end

end Go.Proofs.YtlcdgmjinhbncaaGreat
/- Take of caches; a list's blocks. -/
namespace Go.Proofs.YtlcdgmjinhbncaaGreat
open Go.RowKit Go.Maps
set_option linter.unusedVariables false

/-- Take from a list: the pool, the list, the address, the error. -/
def caTake (p : PoolV) (l : List Int) (o : Int) : PoolV × List Int × Int × Int := match l with
  | a :: r => (p, r, a, 0)
  | [] => match (caFill 8 p [] o).2.1 with
    | [] => ((caFill 8 p [] o).1, [], 0, (caFill 8 p [] o).2.2)
    | a :: r => ((caFill 8 p [] o).1, r, a, 0)
theorem caFill_more : ∀ (f : Nat) {p : PoolV} {l : List Int} {o : Int}, l.length ≤ (caFill f p l o).2.1.length
  | 0, _, _, _ => Nat.le_refl _
  | f + 1, p, l, o => by
    unfold caFill
    split
    · split
      · exact Nat.le_trans (by simp) (caFill_more f)
      · exact Nat.le_refl _
    · exact Nat.le_refl _
theorem caFill_some {p : PoolV} {o : Int} (h : (caFill 8 p [] o).2.1 = []) : (caFill 8 p [] o).2.2 ≠ 0 := by
  unfold caFill at h ⊢
  rw [if_pos (by simp)] at h ⊢
  split at h
  · have := caFill_more 7 (p := (pTake p o).1) (l := [(pTake p o).2.1]) (o := o)
    rw [h] at this
    simp at this
  · rename_i hne
    rw [if_neg hne]
    exact hne
/-- A list never has more than 256 words. -/
theorem caFill_room : ∀ (f : Nat) {p : PoolV} {l : List Int} {o : Int}, (0 ≤ o ∧ o ≤ 3) → l.length * pSize o ≤ 256 → (caFill f p l o).2.1.length * pSize o ≤ 256
  | 0, _, _, _, _, h => h
  | f + 1, p, l, o, ho, h => by
    unfold caFill
    split
    · rename_i h1
      split
      · refine caFill_room f ho ?_
        have h2 := pSize_128 ho
        rw [List.length_cons, Nat.add_mul]
        omega
      · exact h
    · exact h
section
variable {F : CaF} {w W : World} {S : Nat → Prop} {v : PoolW} {cs : List CL} {k : Nat} {pages : Int}
theorem c_take_no (s : CaSt F w W S v cs k pages) (proc order : Int) (h : proc < 0 ∨ (F.N : Int) ≤ proc ∨ order < 0 ∨ 4 ≤ order) :
    Calls Tryz.prog 40 #[.pointer (some ⟨F.q, 0, none⟩), .int .i64 proc, .int .i64 order] W fun e w' => e = .returned (.tuple #[.int .i64 0, .int .i64 1]) ∧ Below W.heap.size W w' := by
  have cl := c_list_no s proc order h
  clear s h
  go_enter Tryz.func40, Tryz.ntmps40
  go_wp2_with (go_at_call 96; (with_reducible refine cl.mono ?_); rintro e w1 ⟨rfl, hb⟩)
  go_ret2
  exact ⟨rfl, hb⟩
def CTook (F : CaF) (w W : World) (S : Nat → Prop) (cs : List CL) (i k : Nat) (pages : Int) (R : PoolV × List Int × Int × Int) (e : Ending) (w' : World) : Prop :=
  e = .returned (.tuple #[.int .i64 R.2.2.1, .int .i64 R.2.2.2]) ∧ ∃ S' v' c', CaSt F w w' S' v' (cs.set i (c', R.2.1)) (k + 8) pages ∧ v'.plain = R.1 ∧ SideP S W S' w' ∧ (R.2.2.2 = 0 → OutQ R.1.l R.2.2.1 ((i % 4 : Nat) : Int) ∧ ∀ d ∈ cs.set i (c', R.2.1), R.2.2.1 ∉ d.2)
set_option maxHeartbeats 1000000 in
theorem c_take (s : CaSt F w W S v cs k pages) (hk : k + 8 ≤ 1000000000) (proc order : Nat) (h1 : proc < F.N) (h2 : order < 4) {c : Int × Int} {l : List Int} (hi : cs[4 * proc + order]? = some (c, l)) :
    Calls Tryz.prog 40 #[.pointer (some ⟨F.q, 0, none⟩), .int .i64 proc, .int .i64 order] W (CTook F w W S cs (4 * proc + order) k pages (caTake v.plain l order)) := by
  have cl := c_list s proc order h1 h2
  have him : (4 * proc + order) % 4 = order := by omega
  obtain ⟨i, hii⟩ : ∃ i, 4 * proc + order = i := ⟨_, rfl⟩
  rw [hii] at cl hi him ⊢
  have hil := (List.getElem?_eq_some_iff.1 hi).1
  have hget : ∀ x : CL, (cs.set i x)[i]? = some x := fun x => List.getElem?_set_self hil
  obtain ⟨hh, rfl, y0, y1, _, h655⟩ := s.at_ hi
  have HS := hidb s
  have HQ : Hid (∀ w1, Below W.heap.size W w1 → w1.cell? ⟨F.rb, 2 * i, none⟩ = some (.int .i64 hh) ∧ w1.cell? ⟨F.rb, 2 * i + 1, none⟩ = some (.int .i64 (l.length : Int))) := hidb (fun w1 hb => by
    have h1 := (HS.out.below hb).row i _ hi
    exact h1)
  cases l with
  | cons a r =>
    have CP : Hid (∀ w1, Below W.heap.size W w1 → Calls Tryz.prog 102 #[.pointer (some ⟨F.q, 0, none⟩), .pointer (some ⟨F.rb, 2 * i, none⟩)] w1 fun e w2 => e = .returned (.tuple #[.int .i64 a, .int .i64 0]) ∧ Hid (CTook F w W S cs i k pages (v.plain, r, a, 0) (.returned (.tuple #[.int .i64 a, .int .i64 0])) w2)) := hidb (fun w1 hb => by
      refine (c_pop (HS.out.below hb) hi).mono ?_
      rintro e w2 ⟨rfl, ws', c', k1, k2⟩
      exact ⟨rfl, hidb ⟨rfl, S, _, c', k1.later (by omega), rfl, (SideP.below hb).trans k2, fun _ => ⟨HS.out.ok.out i _ hi a (List.mem_cons_self ..), HS.out.popped hi c'⟩⟩⟩)
    rw [show caTake v.plain (a :: r) order = (v.plain, r, a, 0) from rfl]
    have hl0 : ¬ ((a :: r).length : Int) = 0 := by simp only [List.length_cons]; omega
    obtain ⟨ln, hln⟩ : ∃ ln : Int, ((a :: r).length : Int) = ln := ⟨_, rfl⟩
    rw [hln] at HQ hl0
    clear s y0 y1 hi hget him hln h655
    --@1
    go_enter Tryz.func40, Tryz.ntmps40
    go_wp2_with (first
      | (go_at_call 96; (with_reducible refine cl.mono ?_); rintro e w1 ⟨rfl, hb⟩; obtain ⟨z0, z1⟩ := HQ.out w1 hb; have cp := CP.out w1 hb)
      | (go_at_call 102; (with_reducible refine cp.mono ?_); rintro e w2 ⟨rfl, P⟩))
    go_ret2
    exact P.out
  | nil =>
    obtain ⟨⟨p', l', no⟩, hR⟩ : ∃ R, caFill 8 v.plain [] order = R := ⟨_, rfl⟩
    have CF : Hid (∀ w1, Below W.heap.size W w1 → Calls Tryz.prog 101 #[.pointer (some ⟨F.q, 0, none⟩), .pointer (some ⟨F.rb, 2 * i, none⟩), .int .i64 order] w1 fun e w2 => e = .returned (.int .i64 no) ∧ w2.cell? ⟨F.rb, 2 * i + 1, none⟩ = some (.int .i64 (l'.length : Int)) ∧ ∃ S2 v2 c2, Hid (CaSt F w w2 S2 v2 (cs.set i (c2, l')) (k + 8) pages ∧ v2.plain = p' ∧ SideP S W S2 w2)) := hidb (fun w1 hb => by
      have := c_fill (HS.out.below hb) hk hi order h2 him
      rw [hR] at this
      refine this.mono ?_
      rintro e w2 ⟨rfl, S2, v2, c2, k1, k2, k3⟩
      obtain ⟨_, _, _, z1, _⟩ := k1.at_ (hget _)
      exact ⟨rfl, z1, S2, v2, c2, hidb ⟨k1, k2, (SideP.below hb).trans k3⟩⟩)
    have hl0 : ((([] : List Int).length : Nat) : Int) = 0 := rfl
    rw [hl0] at HQ
    cases l' with
    | nil =>
      rw [show caTake v.plain [] order = (p', [], 0, no) by unfold caTake; simp only [hR]]
      have HE : Hid (∀ w2 S2 v2 c2, Hid (CaSt F w w2 S2 v2 (cs.set i (c2, [])) (k + 8) pages ∧ v2.plain = p' ∧ SideP S W S2 w2) → CTook F w W S cs i k pages (p', [], 0, no) (.returned (.tuple #[.int .i64 0, .int .i64 no])) w2) := hidb (fun w2 S2 v2 c2 H => ⟨rfl, S2, v2, c2, H.out.1, H.out.2.1, H.out.2.2, fun e0 => absurd e0 (by have := caFill_some (p := v.plain) (o := (order : Int)) (by rw [hR]); rw [hR] at this; exact this)⟩)
      rw [hl0] at CF
      clear s y0 y1 hi hget him h655 hR hl0
      --@2
      go_enter Tryz.func40, Tryz.ntmps40
      go_wp2_with (first
        | (go_at_call 96; (with_reducible refine cl.mono ?_); rintro e w1 ⟨rfl, hb⟩; obtain ⟨z0, z1⟩ := HQ.out w1 hb; have cf := CF.out w1 hb)
        | (go_at_call 101; (with_reducible refine cf.mono ?_); rintro e w2 ⟨rfl, x1, S2, v2, c2, H2⟩; have P := hidb (HE.out w2 S2 v2 c2 H2)))
      go_ret2
      exact P.out
    | cons a r =>
      rw [show caTake v.plain [] order = (p', r, a, 0) by unfold caTake; simp only [hR]]
      have CP : Hid (∀ w2 S2 v2 c2, Hid (CaSt F w w2 S2 v2 (cs.set i (c2, a :: r)) (k + 8) pages ∧ v2.plain = p' ∧ SideP S W S2 w2) → Calls Tryz.prog 102 #[.pointer (some ⟨F.q, 0, none⟩), .pointer (some ⟨F.rb, 2 * i, none⟩)] w2 fun e w3 => e = .returned (.tuple #[.int .i64 a, .int .i64 0]) ∧ Hid (CTook F w W S cs i k pages (p', r, a, 0) (.returned (.tuple #[.int .i64 a, .int .i64 0])) w3)) := hidb (fun w2 S2 v2 c2 H => by
        obtain ⟨k1, k2, k3⟩ := H.out
        refine (c_pop k1 (hget _)).mono ?_
        rintro e w3 ⟨rfl, ws', c', m1, m2⟩
        rw [List.set_set] at m1
        have hp := k1.popped (hget (c2, a :: r)) c'
        rw [List.set_set] at hp
        refine ⟨rfl, hidb ⟨rfl, S2, _, c', m1, k2, k3.trans m2, fun _ => ⟨?_, hp⟩⟩⟩
        rw [← k2]
        exact k1.ok.out i _ (hget (c2, a :: r)) a (List.mem_cons_self ..))
      have hl1 : ¬ ((a :: r).length : Int) = 0 := by simp only [List.length_cons]; omega
      obtain ⟨ln, hln⟩ : ∃ ln : Int, ((a :: r).length : Int) = ln := ⟨_, rfl⟩
      rw [hln] at CF hl1
      clear s y0 y1 hi hget him h655 hR hl0 hln
      --@3
      go_enter Tryz.func40, Tryz.ntmps40
      go_wp2_with (first
        | (go_at_call 96; (with_reducible refine cl.mono ?_); rintro e w1 ⟨rfl, hb⟩; obtain ⟨z0, z1⟩ := HQ.out w1 hb; have cf := CF.out w1 hb)
        | (go_at_call 101; (with_reducible refine cf.mono ?_); rintro e w2 ⟨rfl, x1, S2, v2, c2, H2⟩; have cp := CP.out w2 S2 v2 c2 H2)
        | (go_at_call 102; (with_reducible refine cp.mono ?_); rintro e w3 ⟨rfl, P⟩))
      go_ret2
      exact P.out

/-- A list's blocks, told. -/
theorem c_listat2 (s : CaSt F w W S v cs k pages) (proc order : Nat) (h1 : proc < F.N) (h2 : order < 4) {c : Int × Int} {l : List Int} (hi : cs[4 * proc + order]? = some (c, l)) :
    Calls Tryz.prog 34 #[.pointer (some ⟨F.q, 0, none⟩), .int .i64 proc, .int .i64 order] W fun e w' => ∃ A c, e = .returned (.slice A l.length c) ∧ Hid (Sl w' w'.heap.size A l.length (l.map iv) ∧ Below W.heap.size W w' ∧ ∀ a, A = some a → W.heap.size ≤ a.block) := by
  have cl := c_list s proc order h1 h2
  obtain ⟨i, hii⟩ : ∃ i, 4 * proc + order = i := ⟨_, rfl⟩
  rw [hii] at cl hi
  obtain ⟨Sh, m, D, q1, q2, q3⟩ := s.pl
  obtain ⟨n1, n2, n3, n4, n5, n6⟩ := s.nodup (List.mem_of_getElem? hi)
  have hlst := s.ok.lst _ (List.mem_of_getElem? hi)
  simp only at n1 n2 n3 hlst
  have CL : Hid (∀ W', Below W.heap.size W W' → (W'.cell? ⟨F.q, 1, none⟩ = some (.pointer (some ⟨F.ap, 0, none⟩)) ∧ W'.cell? ⟨F.rb, 2 * i, none⟩ = some (.int .i64 c.1) ∧ W'.cell? ⟨F.rb, 2 * i + 1, none⟩ = some (.int .i64 c.2)) ∧ Calls Tryz.prog 97 #[.pointer (some ⟨F.ap, 0, none⟩), .agg #[.int .i64 c.1, .int .i64 c.2]] W'.drew fun e w2 => ∃ A d, e = .returned (.tuple #[.slice A l.length d, .int .i64 0]) ∧ Hid (Sl w2 w2.heap.size A l.length (l.map iv) ∧ Below W.heap.size W w2 ∧ ∀ a, A = some a → W.heap.size ≤ a.block)) := hidb (fun W' hb => by
    have s1 := s.below hb
    refine ⟨⟨s1.c1, s1.row i _ hi⟩, ?_⟩
    have := code_clist ((q1.below hb).below (Below.refl _ _).drew).ar c.1 c.2 n2 n3 q2.wide
    rw [show cList v.ws (c.1, c.2) = some l from hlst] at this
    refine this.mono ?_
    rintro e w2 ⟨A, n, d, out, rfl, e1, e2, e3, e4, e5, e6⟩
    obtain rfl := e1 l rfl
    have hn : n = out.length := by have := e3.1; simpa using this.symm
    subst hn
    exact ⟨A, d, rfl, hidb ⟨e3, hb.drew.trans (e5.mono (by show W.heap.size ≤ W'.heap.size; exact hb.size)), fun a ha => Nat.le_trans hb.size (e6 a ha)⟩⟩)
  obtain ⟨ln, hln⟩ : ∃ ln, l.length = ln := ⟨_, rfl⟩
  rw [hln] at CL ⊢
  clear s hi q1 q2 q3 n1 n2 n3 n4 n5 n6 hlst
  --@4
  go_enter Tryz.func34, Tryz.ntmps34
  go_wp2_with (go_at_call 96; (with_reducible refine cl.mono ?_); rintro e w1 ⟨rfl, hb⟩; obtain ⟨⟨z0, z1, z2⟩, cc⟩ := CL.out w1 hb)
  go_region_law (first | (go_simp; go_at_call 97; (with_reducible refine cc.mono ?_); rintro e w2 ⟨A, d, rfl, P⟩))
  all_goals go_wp2
  all_goals go_ret
  all_goals exact ⟨A, d, rfl, P⟩
theorem c_listat (s : CaSt F w W S v cs k pages) (proc order : Nat) (h1 : proc < F.N) (h2 : order < 4) {c : Int × Int} {l : List Int} (hi : cs[4 * proc + order]? = some (c, l)) :
    Calls Tryz.prog 34 #[.pointer (some ⟨F.q, 0, none⟩), .int .i64 proc, .int .i64 order] W fun e w' => ∃ A c, e = .returned (.slice A l.length c) ∧ Hid (Sl w' w'.heap.size A l.length (l.map iv) ∧ Below W.heap.size W w') :=
  (c_listat2 s proc order h1 h2 hi).mono fun e w' ⟨A, c, h, P⟩ => ⟨A, c, h, hidb ⟨P.out.1, P.out.2.1⟩⟩
end

end Go.Proofs.YtlcdgmjinhbncaaGreat
/-
  DERIVED: THE SHELF's CONTRACTS AT THIS DUMP, IN PLAIN WORDS (tools/lay-plain.mjs out of 'TryzFew4.lean', which tools/lay-shelf.mjs wrote): THE SAME DECLARATIONS UNDER THE SAME NAMES: 'import', 'namespace', 'open', 'def', 'theorem' AND NOTHING ELSE: no command of the shelf's: FOR A HAND-IN. Each laying: the table of numbers ('.._ren') and one theorem, a field a fact of the dump's own or the kernel's comparison; each contract: ONE APPLICATION.
-/
namespace Go.Proofs
open Go.Shelf
def Tryz.lays189_ren : Go.Shelf.Ren := ⟨fun | 189 => 100 | 125 => 167 | 257 => 166 | 128 => 229 | 129 => 230 | 294 => 220 | 295 => 221 | 296 => 222 | 297 => 223 | 298 => 224 | 299 => 225 | 216 => 226 | 300 => 227 | 301 => 228 | 328 => 273 | 329 => 274 | 330 => 275 | 331 => 276 | 332 => 277 | 215 => 159 | 343 => 306 | n => n, fun | 28 => 38 | 3 => 3 | 46 => 241 | 0 => 0 | 51 => 296 | 53 => 273 | 4 => 4 | 183 => 289 | 182 => 288 | 131 => 293 | 5 => 5 | 9 => 9 | 218 => 324 | 222 => 328 | 228 => 347 | 229 => 348 | n => n, fun | n => n⟩
theorem Tryz.lays189 : Go.Proofs.Lays.n189 Tryz.prog Tryz.lays189_ren := {
  mixed := by kernel_rfl
  f125 := Tryz.func167.trans (congrArg some (by kernel_rfl))
  f128 := Tryz.func229.trans (congrArg some (by kernel_rfl))
  f129 := Tryz.func230.trans (congrArg some (by kernel_rfl))
  f189 := Tryz.func100.trans (congrArg some (by kernel_rfl))
  f215 := Tryz.func159.trans (congrArg some (by kernel_rfl))
  f216 := Tryz.func226.trans (congrArg some (by kernel_rfl))
  f257 := Tryz.func166.trans (congrArg some (by kernel_rfl))
  f294 := Tryz.func220.trans (congrArg some (by kernel_rfl))
  f295 := Tryz.func221.trans (congrArg some (by kernel_rfl))
  f296 := Tryz.func222.trans (congrArg some (by kernel_rfl))
  f297 := Tryz.func223.trans (congrArg some (by kernel_rfl))
  f298 := Tryz.func224.trans (congrArg some (by kernel_rfl))
  f299 := Tryz.func225.trans (congrArg some (by kernel_rfl))
  f300 := Tryz.func227.trans (congrArg some (by kernel_rfl))
  f301 := Tryz.func228.trans (congrArg some (by kernel_rfl))
  f328 := Tryz.func273.trans (congrArg some (by kernel_rfl))
  f329 := Tryz.func274.trans (congrArg some (by kernel_rfl))
  f330 := Tryz.func275.trans (congrArg some (by kernel_rfl))
  f331 := Tryz.func276.trans (congrArg some (by kernel_rfl))
  f332 := Tryz.func277.trans (congrArg some (by kernel_rfl))
  f343 := Tryz.func306.trans (congrArg some (by kernel_rfl))
  t0 := Tryz.underlying0
  a0 := Tryz.isAgg0
  z0 := Tryz.sizeOf0
  v0 := Tryz.zeroValue0
  t3 := Tryz.underlying3
  a3 := Tryz.isAgg3
  z3 := Tryz.sizeOf3
  v3 := Tryz.zeroValue3
  t4 := Tryz.underlying4
  a4 := Tryz.isAgg4
  z4 := Tryz.sizeOf4
  v4 := Tryz.zeroValue4
  t5 := Tryz.underlying5
  a5 := Tryz.isAgg5
  z5 := Tryz.sizeOf5
  v5 := Tryz.zeroValue5
  t9 := Tryz.underlying9
  a9 := Tryz.isAgg9
  z9 := Tryz.sizeOf9
  v9 := Tryz.zeroValue9
  t28 := Tryz.underlying38
  a28 := Tryz.isAgg38
  z28 := Tryz.sizeOf38
  v28 := Tryz.zeroValue38
  t46 := Tryz.underlying241
  a46 := Tryz.isAgg241
  z46 := Tryz.sizeOf241
  v46 := Tryz.zeroValue241
  t51 := Tryz.underlying296
  a51 := Tryz.isAgg296
  z51 := Tryz.sizeOf296
  v51 := Tryz.zeroValue296
  t53 := Tryz.underlying273
  a53 := Tryz.isAgg273
  z53 := Tryz.sizeOf273
  v53 := Tryz.zeroValue273
  t131 := Tryz.underlying293
  a131 := Tryz.isAgg293
  z131 := Tryz.sizeOf293
  v131 := Tryz.zeroValue293
  t182 := Tryz.underlying288
  a182 := Tryz.isAgg288
  z182 := Tryz.sizeOf288
  v182 := Tryz.zeroValue288
  t183 := Tryz.underlying289
  a183 := Tryz.isAgg289
  z183 := Tryz.sizeOf289
  v183 := Tryz.zeroValue289
  t218 := Tryz.underlying324
  a218 := Tryz.isAgg324
  z218 := Tryz.sizeOf324
  v218 := Tryz.zeroValue324
  t222 := Tryz.underlying328
  a222 := Tryz.isAgg328
  z222 := Tryz.sizeOf328
  v222 := Tryz.zeroValue328
  t228 := Tryz.underlying347
  a228 := Tryz.isAgg347
  z228 := Tryz.sizeOf347
  v228 := Tryz.zeroValue347
  t229 := Tryz.underlying348
  a229 := Tryz.isAgg348
  z229 := Tryz.sizeOf348
  v229 := Tryz.zeroValue348 }
open Go.Sort Go.RowKit in
theorem Tryz.slices_Sort_int (blk off cap : Nat) (zs : List Int) (w : World) (hH : Holds (Value.int .i64) w blk off zs.toArray) (hblk : blk < w.heap.size) (hsz : zs.length < 4611686018427387904) :
    Calls Tryz.prog 100 #[.slice (some ⟨blk, off, none⟩) zs.length cap] w fun e w' =>
      e = .returned (.tuple #[]) ∧ ∃ n os, w' = grow (putRow (Value.int .i64) (Sort.ahead w n) blk off (zs.mergeSort fun x y => decide (x ≤ y)).toArray) os := Any.slices_Sort_int Tryz.lays189 blk off cap zs w hH hblk hsz
open Go.RowKit Go.Sort in
/-- .. and plain. (LAID: no walk: one application.) -/
theorem Tryz.slices_Sort_int_none (p : Option Addr) (cap : Nat) (w : World) :
    Calls Tryz.prog 100 #[.slice p 0 cap] w fun e w' => e = .returned (.tuple #[]) ∧ w' = w := Any.slices_Sort_int_none Tryz.lays189 p cap w
end Go.Proofs
/- All blocks of caches, rising. -/
namespace Go.Proofs.YtlcdgmjinhbncaaGreat
open Go.RowKit Go.Maps Go.Sort
set_option linter.unusedVariables false

/-- Numbers in order. -/
def sortI (l : List Int) : List Int := l.mergeSort fun x y => decide (x ≤ y)
theorem sortI_mem {l : List Int} {x : Int} : x ∈ sortI l ↔ x ∈ l := by unfold sortI; exact List.mem_mergeSort
theorem sortI_length (l : List Int) : (sortI l).length = l.length := by unfold sortI; exact List.length_mergeSort l
theorem code_isort (g n c : Nat) (zs : List Int) (w : World) (base : Nat) (hown : w.ownsRow base 3 1 (.slice (some ⟨g, 0, none⟩) n c) n (zs.map iv)) (hl : zs.length = n) (hn : n ≤ 16777216) :
    Calls Tryz.prog 100 #[.slice (some ⟨g, 0, none⟩) n c] w fun e w' => e = .returned (.tuple #[]) ∧ w'.ownsRow base 3 1 (.slice (some ⟨g, 0, none⟩) n c) n ((sortI zs).map iv) ∧ w.grownBy w' (some g) := by
  obtain ⟨L, hL, hbg, hnc, hcm, hLl, hxs⟩ := own_whole hown
  rw [Nat.mul_one] at hLl hxs
  have hH : Holds (Value.int .i64) w g 0 zs.toArray := holds_rw1 (Value.int .i64) hL zs.toArray (by rw [show zs.toArray.size = n by simpa using hl, ← hxs]; show zs.map iv = zs.map (Value.int .i64); rfl)
  have h := Tryz.slices_Sort_int g 0 c zs w hH hL.lt (by omega)
  rw [hl] at h
  refine h.mono ?_
  rintro e w' ⟨he, q, os, rfl⟩
  have hsl := sortI_length zs
  obtain ⟨r1, r2⟩ := put_rw1 (Value.int .i64) hL q (sortI zs).toArray os (by simp; omega)
  have e1 : sortWorld (Value.int .i64) w g 0 q (sortI zs).toArray os = grow (putRow (Value.int .i64) (Sort.ahead w q) g 0 (sortI zs).toArray) os := rfl
  rw [e1] at r1 r2
  refine ⟨he, ?_, r2⟩
  have h2 := own_of_whole (base := base) (s := 1) (n := n) (c := c) r1 hbg hnc hcm (by simp; omega)
  rw [Nat.mul_one, List.take_left' (by simp [hl, hsl])] at h2
  exact h2
/-- .. of any row, an empty one too. -/
theorem code_isort_any (A : Option Addr) (n c : Nat) (zs : List Int) (w : World) (base : Nat) (hown : w.ownsRow base 3 1 (.slice A n c) n (zs.map iv)) (hl : zs.length = n) (hn : n ≤ 16777216) :
    Calls Tryz.prog 100 #[.slice A n c] w fun e w' => e = .returned (.tuple #[]) ∧ w'.ownsRow base 3 1 (.slice A n c) n ((sortI zs).map iv) ∧ w.grownBy w' (Value.slice A n c).ownBlock := by
  by_cases h0 : n = 0
  · subst h0
    obtain rfl : zs = [] := List.eq_nil_of_length_eq_zero hl
    refine (Tryz.slices_Sort_int_none A c w).mono ?_
    rintro e w' ⟨rfl, rfl⟩
    have e0 : sortI [] = [] := List.eq_nil_of_length_eq_zero (sortI_length [])
    rw [e0]
    exact ⟨rfl, hown, grownSelf _ _⟩
  · obtain ⟨g, rfl, _, _⟩ := own_some hown (by omega)
    exact code_isort g n c zs w base hown hl hn

theorem sl_noneC {w : World} {B n : Nat} {A : Option Addr} {xs : List Value} (h : Sl w B A n xs) (e : A = none) : n = 0 := by
  rcases Nat.eq_zero_or_pos n with h0 | h0
  · exact h0
  · obtain ⟨b, off, e2, _⟩ := h.2 h0
    rw [e] at e2
    cases e2
/-- The first j lists' blocks, in a row under way. -/
structure AllSt (W1 wr : World) (cs : List CL) (j : Nat) (A : Option Addr) (m c : Nat) : Prop where
  row : wr.ownsRow W1.heap.size 3 1 (.slice A m c) m (((cs.take j).flatMap (·.2)).map iv)
  len : ((cs.take j).flatMap (·.2)).length = m
  bel : Below W1.heap.size W1 wr
theorem AllSt.step {W1 wr w2 w3 : World} {cs : List CL} {j m c m2 : Nat} {A A' : Option Addr} {c' : Nat} (h : AllSt W1 wr cs j A m c) {k : CL} (hk : cs[j]? = some k) (hb : Below wr.heap.size wr w2) (hm : k.2.length = m2)
    (hr : w3.ownsRow W1.heap.size 3 1 (.slice A' (m + m2) c') (m + m2) (((cs.take j).flatMap (·.2)).map iv ++ k.2.map iv)) (hg : w2.grownBy w3 (Value.slice A m c).ownBlock) : AllSt W1 w3 cs (j + 1) A' (m + m2) c' := by
  have e1 : (cs.take (j + 1)).flatMap (·.2) = (cs.take j).flatMap (·.2) ++ k.2 := by rw [List.take_add_one, hk, List.flatMap_append]; simp
  have hb2 : Below W1.heap.size W1 w2 := h.bel.trans (hb.mono h.bel.size)
  exact ⟨by rw [e1, List.map_append]; exact hr, by rw [e1, List.length_append, h.len, hm], hb2.grown hg hb2.size (fun b hb => (h.row.lt b hb).1)⟩
def allOf (cs : List CL) : List Int := sortI (cs.flatMap (·.2))

section
variable {F : CaF} {w W : World} {S : Nat → Prop} {v : PoolW} {cs : List CL} {k : Nat} {pages : Int}
set_option maxRecDepth 100000 in
set_option maxHeartbeats 2000000 in
theorem c_all (s : CaSt F w W S v cs k pages) : Calls Tryz.prog 36 #[.pointer (some ⟨F.q, 0, none⟩)] W (OwnInts W (allOf cs)) := by
  have cp := cc_parts F.q _ _ _ _ _ W s.c0 s.c1 s.c2
  have hf : ∀ W, (Instr.field 175 (.agg #[.pointer (some ⟨F.p, 0, none⟩), .pointer (some ⟨F.ap, 0, none⟩), .slice (some ⟨F.rb, 0, none⟩) F.N F.N]) 2).run Tryz.prog W = .ok (.slice (some ⟨F.rb, 0, none⟩) F.N F.N) W := fun W => by kernel_rfl
  have hlen := s.len
  obtain ⟨N, hN⟩ : ∃ N, F.N = N := ⟨_, rfl⟩
  have hN16 : N ≤ 16 := by have := s.n1.2; omega
  have HS := hidb s
  have HL : Hid (∀ W1 (p o : Nat), Below W.heap.size W W1 → p < N → o < 4 → ∃ d : CL, cs[4 * p + o]? = some d ∧ d.2.length ≤ 65536 ∧ Calls Tryz.prog 34 #[.pointer (some ⟨F.q, 0, none⟩), .int .i64 p, .int .i64 o] W1 fun e w2 => ∃ A c, e = .returned (.slice A d.2.length c) ∧ Hid (Sl w2 w2.heap.size A d.2.length (d.2.map iv) ∧ Below W1.heap.size W1 w2)) := hidb (fun W1 p o hb hp ho => by
    have s1 := HS.out.below hb
    have hi : 4 * p + o < cs.length := by rw [hlen, hN]; omega
    obtain ⟨⟨c, l⟩, hd⟩ : ∃ d, cs[4 * p + o]? = some d := ⟨_, List.getElem?_eq_getElem hi⟩
    exact ⟨(c, l), hd, (s1.nodup (List.mem_of_getElem? hd)).1, c_listat s1 p o (by omega) ho hd⟩)
  obtain ⟨i0, hi, hz0, hz1, hz2⟩ := info_parts info_int
  rw [hN] at cp hf hlen
  have HLEN := hidb hlen
  clear s hN hlen
  go_enter Tryz.func36, Tryz.ntmps36
  go_wp2_with (first
    | (go_at_call 99; (with_reducible refine cp.mono ?_); rintro e w1 ⟨rfl, hb1⟩))
  have HB1 := hidb hb1
  have hz1s := hb1.size
  clear hb1 cp
  go_loopw [3, 4, 5, 10, 13] (fun v3 _ _ v10 _ wr => ∃ (p : Nat) (A : Option Addr) (m c : Nat), p ≤ N ∧ v10 = .int .i64 p ∧ v3 = .slice A m c ∧ m ≤ 65536 * (4 * p) ∧ Hid (AllSt w1 wr cs (4 * p) A m c)) (fun _ _ _ v10 _ _ => (N - intOf v10).toNat)
  case atStart => exact ⟨0, none, 0, 0, Nat.zero_le _, rfl, rfl, by omega, hidb ⟨World.ownsRow_nil _ _ _ _, rfl, Below.refl _ _⟩⟩
  case round =>
    obtain ⟨p, A, m, c, hp, rfl, rfl, hm, HA⟩ := hrel
    by_cases hlt : p < N
    · obtain ⟨wo, rfl⟩ : ∃ wo : World, wo = wr := ⟨_, rfl⟩
      have hp0 : (p : Int) < (N : Int) := by omega
      go_wp2
      go_loopw [3, 5, 13] (fun v3 _ v13 wr2 => ∃ (o : Nat) (A : Option Addr) (m c : Nat), o ≤ 4 ∧ v13 = .int .i64 o ∧ v3 = .slice A m c ∧ m ≤ 65536 * (4 * p + o) ∧ Hid (AllSt w1 wr2 cs (4 * p + o) A m c)) (fun _ _ v13 _ => (4 - intOf v13).toNat)
      case atStart => exact ⟨0, A, m, c, by omega, rfl, rfl, hm, HA⟩
      case round =>
        obtain ⟨o, A, m, c, ho, rfl, rfl, hm, HA⟩ := hrel
        by_cases hlo : o < 4
        · obtain ⟨d, hd, hdl, cl⟩ := HL.out wr p o (HB1.out.trans (HA.out.bel.mono HB1.out.size)) hlt hlo
          have HD := hidb hd
          obtain ⟨ml, hml⟩ : ∃ ml, d.2.length = ml := ⟨_, rfl⟩
          rw [hml] at cl hdl
          have HML := hidb hml
          have HST : Hid (∀ w2 w3 A3 c3, Below wr.heap.size wr w2 → w3.ownsRow w1.heap.size 3 1 (.slice A3 (m + ml) c3) (m + ml) (((cs.take (4 * p + o)).flatMap (·.2)).map iv ++ d.2.map iv) → w2.grownBy w3 (Value.slice A m c).ownBlock → AllSt w1 w3 cs (4 * p + (o + 1)) A3 (m + ml) c3) := hidb (fun w2 w3 A3 c3 hb hr hg => HA.out.step HD.out hb HML.out hr hg)
          have hsz := HA.out.bel.size
          clear hd hml
          --@1
          go_wp2_with (first
            | (go_at_call 34; (with_reducible refine cl.mono ?_); rintro e w2 ⟨A2, d2, rfl, P2⟩; have hb2s := P2.out.2.size)
            | (at_builtin; refine wpList_append_rowN w2 rfl _ _ 38 rfl w1.heap.size 3 i0 (.int .i64 0) 1 8 Tryz.underlying38 hi hz0 hz1 hz2 rfl (by decide) _ m _ rfl (by exact own_below HA.out.row P2.out.2) (by omega) A2 ml d2 (d.2.map iv) rfl (by rw [List.length_map, HML.out, Nat.mul_one]) (fun h => sl_noneC P2.out.1 h) (sl_cells P2.out.1) (ivs_one _) (by unfold maxLen; omega) (by omega) ?_; intro A3 c3 w3 hown3 hg3; have HR3 := hidb (HST.out w2 w3 A3 c3 P2.out.2 hown3 hg3); clear hown3 hg3))
          go_roundw
          case rel => exact ⟨o + 1, A3, m + ml, c3, by omega, by go_num, rfl, by omega, HR3⟩
          case measure => simp [intOf]; omega
        · obtain rfl : o = 4 := by omega
          --@2
          go_wp2
          go_roundw
          case rel => exact ⟨p + 1, A, m, c, by omega, by go_num, rfl, by omega, by rw [show 4 * (p + 1) = 4 * p + 4 by omega]; exact HA⟩
          case measure => simp [intOf]; omega
    · obtain rfl : p = N := by omega
      have cs' : Calls Tryz.prog 100 #[.slice A m c] wr fun e w' => e = .returned (.tuple #[]) ∧ Hid (OwnInts W (allOf cs) (.returned (.slice A m c)) w') := by
        have h1 := HA.out.row
        have h2 := HA.out.len
        rw [List.take_of_length_le (by rw [HLEN.out]; exact Nat.le_refl _)] at h1 h2
        refine (code_isort_any A m c _ wr w1.heap.size h1 h2 (by omega)).mono ?_
        rintro e w' ⟨rfl, h3, h4⟩
        refine ⟨rfl, hidb ⟨A, c, ?_, ?_, ?_⟩⟩
        · unfold allOf; rw [sortI_length, h2]
        · unfold allOf; rw [sortI_length, h2]; exact own_lower h3 hz1s
        · exact (HB1.out.trans (HA.out.bel.mono hz1s)).grown h4 (Nat.le_trans hz1s HA.out.bel.size) (fun b hb => Nat.le_trans hz1s (h1.lt b hb).1)
      --@3
      go_wp2_with (first
        | (go_at_call 100; (with_reducible refine cs'.mono ?_); rintro e w2 ⟨rfl, P⟩))
      go_ret
      exact P.out
end

end Go.Proofs.YtlcdgmjinhbncaaGreat
/- Which numbers the closures of caches' calls meet: whether any is asked so. -/
namespace Go.Proofs.YtlcdgmjinhbncaaGreat
open Go.RowKit Go.Maps
set_option linter.unusedVariables false

/-- slices.IndexFunc at numbers, with that closure: what it asks of each one may turn the world. -/
theorem code_cf_idx {t : Nat} (p : Nat → Bool) (I : Nat → World → Prop) (A : Option Addr) (n c : Nat) (zs : List Int) (w : World) (hI : I 0 w) (hs : ∀ j W, I j W → Sl W W.heap.size A n (zs.map iv))
    (hq : ∀ j z W, zs[j]? = some z → I j W → Calls Tryz.prog 109 #[.int .i64 z, .pointer (some ⟨t, 0, none⟩)] W fun e w' => e = .returned (.bool (p j)) ∧ I (j + 1) w') (hn : n ≤ 131072) :
    Calls Tryz.prog 155 #[.slice A n c, .func (.func 109) #[] #[.pointer (some ⟨t, 0, none⟩)]] w fun e w' => (∃ r : Int, e = .returned (.int .i64 r) ∧ -1 ≤ r ∧ r ≤ 9223372036854775807 ∧ decide (0 ≤ r) = (List.range n).any p) ∧ ∃ j, j ≤ n ∧ I j w' := by
  have HL : Hid (zs.length = n) := hidb (by have := (hs 0 w hI).1; simpa using this)
  have HI := hidb hI
  have HS := hidb hs
  have HQ := hidb hq
  clear hI hs hq
  go_enter Tryz.func155, Tryz.ntmps155
  go_wp2
  go_loopw [8] (fun k wr => ∃ j : Nat, j ≤ n ∧ Hid (∀ i, i < j → p i = false) ∧ k = .int .i64 j ∧ Hid (I j wr)) (fun k _ => (n - intOf k).toNat)
  case atStart => exact ⟨0, by omega, hidb (fun i h => absurd h (Nat.not_lt_zero _)), rfl, HI⟩
  case round =>
    obtain ⟨j, hj, HA, rfl, HJ⟩ := hrel
    by_cases hlt : j < n
    · obtain ⟨b, off, z, rfl, hx, hc⟩ := (HS.out j wr HJ.out).int_ hlt
      have c1 := HQ.out j z wr hx HJ.out
      have hj0 : (0 : Int) ≤ (j : Int) := by omega
      have hj1 : (j : Int) < (n : Int) := by omega
      clear hx
      cases hT : p j with
      | false =>
        rw [hT] at c1
        have HA2 : Hid (∀ i, i < j + 1 → p i = false) := hidb (fun i hi => by
          by_cases h : i = j
          · subst h; exact hT
          · exact HA.out i (by omega))
        clear hT
        go_wp2_with (first | (go_at_call 109; (with_reducible refine c1.mono ?_); rintro e w1 ⟨rfl, hi1⟩))
        go_roundw
        case rel => exact ⟨j + 1, by omega, HA2, by go_num, hidb hi1⟩
        case measure => simp [intOf]; omega
      | true =>
        rw [hT] at c1
        have HF : Hid ((List.range n).any p = true) := hidb (by
          rw [List.any_eq_true]
          exact ⟨j, List.mem_range.2 hlt, hT⟩)
        clear hT
        go_wp2_with (first | (go_at_call 109; (with_reducible refine c1.mono ?_); rintro e w1 ⟨rfl, hi1⟩))
        go_ret
        exact ⟨⟨j, rfl, by omega, by omega, by rw [HF.out]; exact decide_eq_true (by omega)⟩, j + 1, by omega, hi1⟩
    · have HF : Hid ((List.range n).any p = false) := hidb (by
        rw [List.any_eq_false]
        intro i hi
        have := HA.out i (by have := List.mem_range.1 hi; omega)
        simp [this])
      go_wp2
      go_ret
      exact ⟨⟨-1, rfl, by omega, by omega, by rw [HF.out]; rfl⟩, j, hj, HJ.out⟩
theorem code_cf_has {t : Nat} (p : Nat → Bool) (I : Nat → World → Prop) (A : Option Addr) (n c : Nat) (zs : List Int) (w : World) (hI : I 0 w) (hs : ∀ j W, I j W → Sl W W.heap.size A n (zs.map iv))
    (hq : ∀ j z W, zs[j]? = some z → I j W → Calls Tryz.prog 109 #[.int .i64 z, .pointer (some ⟨t, 0, none⟩)] W fun e w' => e = .returned (.bool (p j)) ∧ I (j + 1) w') (hn : n ≤ 131072) :
    Calls Tryz.prog 103 #[.slice A n c, .func (.func 109) #[] #[.pointer (some ⟨t, 0, none⟩)]] w fun e w' => e = .returned (.bool ((List.range n).any p)) ∧ ∃ j, j ≤ n ∧ I j w' := by
  have c1 := code_cf_idx p I A n c zs w hI hs hq hn
  clear hI hs hq
  go_enter Tryz.func103, Tryz.ntmps103
  go_wp2_with (go_at_call 155; (with_reducible refine c1.mono ?_); rintro e w1 ⟨⟨r, rfl, h1, h2, h3⟩, hj1⟩)
  go_ret
  exact ⟨rfl, hj1⟩


/-- slices.IndexFunc at numbers, with that closure: what it asks of each one may turn the world. -/
theorem code_cg1_idx {s t : Nat} (p : Nat → Bool) (I : Nat → World → Prop) (A : Option Addr) (n c : Nat) (zs : List Int) (w : World) (hI : I 0 w) (hs : ∀ j W, I j W → Sl W W.heap.size A n (zs.map iv))
    (hq : ∀ j z W, zs[j]? = some z → I j W → Calls Tryz.prog 104 #[.int .i64 z, .pointer (some ⟨s, 0, none⟩), .pointer (some ⟨t, 0, none⟩)] W fun e w' => e = .returned (.bool (p j)) ∧ I (j + 1) w') (hn : n ≤ 131072) :
    Calls Tryz.prog 155 #[.slice A n c, .func (.func 104) #[] #[.pointer (some ⟨s, 0, none⟩), .pointer (some ⟨t, 0, none⟩)]] w fun e w' => (∃ r : Int, e = .returned (.int .i64 r) ∧ -1 ≤ r ∧ r ≤ 9223372036854775807 ∧ decide (0 ≤ r) = (List.range n).any p) ∧ ∃ j, j ≤ n ∧ I j w' := by
  have HL : Hid (zs.length = n) := hidb (by have := (hs 0 w hI).1; simpa using this)
  have HI := hidb hI
  have HS := hidb hs
  have HQ := hidb hq
  clear hI hs hq
  go_enter Tryz.func155, Tryz.ntmps155
  go_wp2
  go_loopw [8] (fun k wr => ∃ j : Nat, j ≤ n ∧ Hid (∀ i, i < j → p i = false) ∧ k = .int .i64 j ∧ Hid (I j wr)) (fun k _ => (n - intOf k).toNat)
  case atStart => exact ⟨0, by omega, hidb (fun i h => absurd h (Nat.not_lt_zero _)), rfl, HI⟩
  case round =>
    obtain ⟨j, hj, HA, rfl, HJ⟩ := hrel
    by_cases hlt : j < n
    · obtain ⟨b, off, z, rfl, hx, hc⟩ := (HS.out j wr HJ.out).int_ hlt
      have c1 := HQ.out j z wr hx HJ.out
      have hj0 : (0 : Int) ≤ (j : Int) := by omega
      have hj1 : (j : Int) < (n : Int) := by omega
      clear hx
      cases hT : p j with
      | false =>
        rw [hT] at c1
        have HA2 : Hid (∀ i, i < j + 1 → p i = false) := hidb (fun i hi => by
          by_cases h : i = j
          · subst h; exact hT
          · exact HA.out i (by omega))
        clear hT
        go_wp2_with (first | (go_at_call 104; (with_reducible refine c1.mono ?_); rintro e w1 ⟨rfl, hi1⟩))
        go_roundw
        case rel => exact ⟨j + 1, by omega, HA2, by go_num, hidb hi1⟩
        case measure => simp [intOf]; omega
      | true =>
        rw [hT] at c1
        have HF : Hid ((List.range n).any p = true) := hidb (by
          rw [List.any_eq_true]
          exact ⟨j, List.mem_range.2 hlt, hT⟩)
        clear hT
        go_wp2_with (first | (go_at_call 104; (with_reducible refine c1.mono ?_); rintro e w1 ⟨rfl, hi1⟩))
        go_ret
        exact ⟨⟨j, rfl, by omega, by omega, by rw [HF.out]; exact decide_eq_true (by omega)⟩, j + 1, by omega, hi1⟩
    · have HF : Hid ((List.range n).any p = false) := hidb (by
        rw [List.any_eq_false]
        intro i hi
        have := HA.out i (by have := List.mem_range.1 hi; omega)
        simp [this])
      go_wp2
      go_ret
      exact ⟨⟨-1, rfl, by omega, by omega, by rw [HF.out]; rfl⟩, j, hj, HJ.out⟩
theorem code_cg1_has {s t : Nat} (p : Nat → Bool) (I : Nat → World → Prop) (A : Option Addr) (n c : Nat) (zs : List Int) (w : World) (hI : I 0 w) (hs : ∀ j W, I j W → Sl W W.heap.size A n (zs.map iv))
    (hq : ∀ j z W, zs[j]? = some z → I j W → Calls Tryz.prog 104 #[.int .i64 z, .pointer (some ⟨s, 0, none⟩), .pointer (some ⟨t, 0, none⟩)] W fun e w' => e = .returned (.bool (p j)) ∧ I (j + 1) w') (hn : n ≤ 131072) :
    Calls Tryz.prog 103 #[.slice A n c, .func (.func 104) #[] #[.pointer (some ⟨s, 0, none⟩), .pointer (some ⟨t, 0, none⟩)]] w fun e w' => e = .returned (.bool ((List.range n).any p)) ∧ ∃ j, j ≤ n ∧ I j w' := by
  have c1 := code_cg1_idx p I A n c zs w hI hs hq hn
  clear hI hs hq
  go_enter Tryz.func103, Tryz.ntmps103
  go_wp2_with (go_at_call 155; (with_reducible refine c1.mono ?_); rintro e w1 ⟨⟨r, rfl, h1, h2, h3⟩, hj1⟩)
  go_ret
  exact ⟨rfl, hj1⟩

/-- slices.IndexFunc at numbers, with that closure: what it asks of each one may turn the world. -/
theorem code_cg2_idx {t : Nat} (p : Nat → Bool) (I : Nat → World → Prop) (A : Option Addr) (n c : Nat) (zs : List Int) (w : World) (hI : I 0 w) (hs : ∀ j W, I j W → Sl W W.heap.size A n (zs.map iv))
    (hq : ∀ j z W, zs[j]? = some z → I j W → Calls Tryz.prog 105 #[.int .i64 z, .pointer (some ⟨t, 0, none⟩)] W fun e w' => e = .returned (.bool (p j)) ∧ I (j + 1) w') (hn : n ≤ 131072) :
    Calls Tryz.prog 155 #[.slice A n c, .func (.func 105) #[] #[.pointer (some ⟨t, 0, none⟩)]] w fun e w' => (∃ r : Int, e = .returned (.int .i64 r) ∧ -1 ≤ r ∧ r ≤ 9223372036854775807 ∧ decide (0 ≤ r) = (List.range n).any p) ∧ ∃ j, j ≤ n ∧ I j w' := by
  have HL : Hid (zs.length = n) := hidb (by have := (hs 0 w hI).1; simpa using this)
  have HI := hidb hI
  have HS := hidb hs
  have HQ := hidb hq
  clear hI hs hq
  go_enter Tryz.func155, Tryz.ntmps155
  go_wp2
  go_loopw [8] (fun k wr => ∃ j : Nat, j ≤ n ∧ Hid (∀ i, i < j → p i = false) ∧ k = .int .i64 j ∧ Hid (I j wr)) (fun k _ => (n - intOf k).toNat)
  case atStart => exact ⟨0, by omega, hidb (fun i h => absurd h (Nat.not_lt_zero _)), rfl, HI⟩
  case round =>
    obtain ⟨j, hj, HA, rfl, HJ⟩ := hrel
    by_cases hlt : j < n
    · obtain ⟨b, off, z, rfl, hx, hc⟩ := (HS.out j wr HJ.out).int_ hlt
      have c1 := HQ.out j z wr hx HJ.out
      have hj0 : (0 : Int) ≤ (j : Int) := by omega
      have hj1 : (j : Int) < (n : Int) := by omega
      clear hx
      cases hT : p j with
      | false =>
        rw [hT] at c1
        have HA2 : Hid (∀ i, i < j + 1 → p i = false) := hidb (fun i hi => by
          by_cases h : i = j
          · subst h; exact hT
          · exact HA.out i (by omega))
        clear hT
        go_wp2_with (first | (go_at_call 105; (with_reducible refine c1.mono ?_); rintro e w1 ⟨rfl, hi1⟩))
        go_roundw
        case rel => exact ⟨j + 1, by omega, HA2, by go_num, hidb hi1⟩
        case measure => simp [intOf]; omega
      | true =>
        rw [hT] at c1
        have HF : Hid ((List.range n).any p = true) := hidb (by
          rw [List.any_eq_true]
          exact ⟨j, List.mem_range.2 hlt, hT⟩)
        clear hT
        go_wp2_with (first | (go_at_call 105; (with_reducible refine c1.mono ?_); rintro e w1 ⟨rfl, hi1⟩))
        go_ret
        exact ⟨⟨j, rfl, by omega, by omega, by rw [HF.out]; exact decide_eq_true (by omega)⟩, j + 1, by omega, hi1⟩
    · have HF : Hid ((List.range n).any p = false) := hidb (by
        rw [List.any_eq_false]
        intro i hi
        have := HA.out i (by have := List.mem_range.1 hi; omega)
        simp [this])
      go_wp2
      go_ret
      exact ⟨⟨-1, rfl, by omega, by omega, by rw [HF.out]; rfl⟩, j, hj, HJ.out⟩
theorem code_cg2_has {t : Nat} (p : Nat → Bool) (I : Nat → World → Prop) (A : Option Addr) (n c : Nat) (zs : List Int) (w : World) (hI : I 0 w) (hs : ∀ j W, I j W → Sl W W.heap.size A n (zs.map iv))
    (hq : ∀ j z W, zs[j]? = some z → I j W → Calls Tryz.prog 105 #[.int .i64 z, .pointer (some ⟨t, 0, none⟩)] W fun e w' => e = .returned (.bool (p j)) ∧ I (j + 1) w') (hn : n ≤ 131072) :
    Calls Tryz.prog 103 #[.slice A n c, .func (.func 105) #[] #[.pointer (some ⟨t, 0, none⟩)]] w fun e w' => e = .returned (.bool ((List.range n).any p)) ∧ ∃ j, j ≤ n ∧ I j w' := by
  have c1 := code_cg2_idx p I A n c zs w hI hs hq hn
  clear hI hs hq
  go_enter Tryz.func103, Tryz.ntmps103
  go_wp2_with (go_at_call 155; (with_reducible refine c1.mono ?_); rintro e w1 ⟨⟨r, rfl, h1, h2, h3⟩, hj1⟩)
  go_ret
  exact ⟨rfl, hj1⟩


end Go.Proofs.YtlcdgmjinhbncaaGreat
/- What the closures of Give ask. -/
namespace Go.Proofs.YtlcdgmjinhbncaaGreat
open Go.RowKit Go.Maps
set_option linter.unusedVariables false

section
variable {F : CaF} {w W : World} {S : Nat → Prop} {v : PoolW} {cs : List CL} {k : Nat} {pages : Int}
/-- Give$1: is it no block of that order that is out? -/
theorem c_give1 (s : CaSt F w W S v cs k pages) (tc t : Nat) (order z : Int) (h1 : W.cell? ⟨tc, 0, none⟩ = some (.pointer (some ⟨F.q, 0, none⟩))) (h2 : W.cell? ⟨t, 0, none⟩ = some (.int .i64 order)) (hz : in64 z) :
    Calls Tryz.prog 104 #[.int .i64 z, .pointer (some ⟨tc, 0, none⟩), .pointer (some ⟨t, 0, none⟩)] W fun e w' => e = .returned (.bool (orderP v.ks z != order)) ∧ Below W.heap.size W w' := by
  have co := t_porder (s.pool.below (Below.refl _ _).drew) z hz (orderP v.ks z) rfl
  have c0 := s.c0
  have hl2 := lt_of_cell h2
  obtain ⟨r, hr⟩ : ∃ r, orderP v.ks z = r := ⟨_, rfl⟩
  rw [hr] at co ⊢
  clear s hr
  go_enter Tryz.func104, Tryz.ntmps104
  go_wp2
  go_region_law (first | (go_simp; go_at_call 20; (with_reducible refine co.mono ?_); rintro e w1 ⟨rfl, hb⟩; have h3 := (hb.cell (p := ⟨t, 0, none⟩) hl2).trans h2; have HB : Below W.heap.size W w1 := ⟨hb.os, hb.tape, hb.output, hb.size, hb.block⟩; clear hb))
  all_goals go_wp2
  all_goals go_ret
  all_goals exact ⟨rfl, HB⟩
/-- Give$2's own variable: the blocks that were met. -/
structure MetSt (W0 W : World) (t : Nat) (M : List Int) (A : Option Addr) (m c : Nat) : Prop where
  box : Boxed W t 38 (.slice A m c)
  row : W.ownsRow W0.heap.size 3 1 (.slice A m c) m (M.map iv)
  len : M.length = m
  bel : Below W0.heap.size W0 W
  low : W0.heap.size ≤ t
theorem int_intsC : 38 ≠ 3 := by decide
theorem MetSt.below {W0 W W' : World} {t : Nat} {M : List Int} {A : Option Addr} {m c : Nat} (s : MetSt W0 W t M A m c) (hb : Below W.heap.size W W') : MetSt W0 W' t M A m c :=
  ⟨(hb.block t s.box.lt).trans s.box, own_below s.row hb, s.len, s.bel.trans (hb.mono s.bel.size), s.low⟩
theorem c_give2 {W0 : World} {t : Nat} {M : List Int} {A : Option Addr} {m c : Nat} (s : MetSt W0 W t M A m c) (hm : m ≤ 100000) (z : Int) :
    Calls Tryz.prog 105 #[.int .i64 z, .pointer (some ⟨t, 0, none⟩)] W fun e w' => e = .returned (.bool (decide (z ∈ M))) ∧ ∃ A' c', MetSt W0 w' t (M ++ [z]) A' (m + 1) c' := by
  have hsl : Sl W W.heap.size A m (M.map iv) := Sl.of_own s.row
  have cc := code_pcontains A m c M z W hsl (by omega)
  obtain ⟨i0, hi, hz0, hz1, hz2⟩ := info_parts info_int
  have y0 := s.box.cell
  have y1 := alloc_old (.cells #[.int .i64 z] 3) y0
  have htl : t < W.heap.size := s.box.lt
  have hzz := s.bel.size
  have HS := hidb s
  have HFIN : Hid (∀ w3 A3 c3, w3.ownsRow W0.heap.size 3 1 (.slice A3 (m + 1) c3) (m + 1) (M.map iv ++ [iv z]) → (W.alloc (.cells #[.int .i64 z] 3)).grownBy w3 (Value.slice A m c).ownBlock → (w3.cell? ⟨t, 0, none⟩ = some (.slice A m c) ∧ w3.frozen? ⟨t, 0, none⟩ = false) ∧ MetSt W0 (w3.setCell ⟨t, 0, none⟩ (.slice A3 (m + 1) c3)) t (M ++ [z]) A3 (m + 1) c3) := hidb (fun w3 A3 c3 hr hg => by
    have hb3 : Below W.heap.size W (W.alloc (.cells #[.int .i64 z] 3)) := (Below.refl _ _).alloc (Nat.le_refl _) _
    have b3 : Boxed w3 t 38 (.slice A m c) := (HS.out.box.alloc (.cells #[.int .i64 z] 3)).kept hg (HS.out.box.not_row int_intsC HS.out.row)
    have h1 : Below W0.heap.size W0 (W.alloc (.cells #[.int .i64 z] 3)) := HS.out.bel.trans (hb3.mono hzz)
    refine ⟨⟨b3.cell, b3.frozen⟩, b3.set _, ?_, by simp [HS.out.len], ?_, HS.out.low⟩
    · rw [List.map_append]
      exact own_kept hr ((Kept.refl (fun b => b = t) w3).set (a := ⟨t, 0, none⟩) (Or.inl rfl) _) (fun b hb e => b3.not_row int_intsC hr (by rw [hb, e]))
    · exact (h1.grown hg h1.size (fun b hb => (HS.out.row.lt b hb).1)).setCell (p := ⟨t, 0, none⟩) HS.out.low _)
  clear s hsl
  go_enter Tryz.func105, Tryz.ntmps105
  go_wp2_with (first
    | (go_at_call 79; (with_reducible refine cc.mono ?_); rintro e w1 ⟨rfl, rfl⟩)
    | (at_builtin; refine wpList_append_own _ rfl _ _ 38 rfl W0.heap.size 3 i0 (.int .i64 0) 1 8 Tryz.underlying38 hi hz0 hz1 hz2 rfl (by decide) _ _ _ rfl (HS.out.row.alloc _) ⟨W.heap.size, 0, none⟩ 1 1 [iv z] rfl rfl (cells_new W [iv z] _ _ rfl) (fun u hu => by obtain rfl := List.mem_singleton.1 hu; rfl) (by unfold maxLen; omega) (by omega) (by simp; omega) ?_; intro v3 w3 hown3 hgrow _; obtain ⟨A3, c3, rfl⟩ := own_form hown3; obtain ⟨⟨z0, z1⟩, P⟩ := HFIN.out w3 A3 c3 hown3 hgrow; have HP := hidb P; clear P hown3 hgrow))
  go_ret
  exact ⟨rfl, A3, c3, HP.out⟩
end

end Go.Proofs.YtlcdgmjinhbncaaGreat
