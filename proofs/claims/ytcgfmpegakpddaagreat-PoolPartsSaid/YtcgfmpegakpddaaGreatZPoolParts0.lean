/- Both sides in a round of layer 9's laws on acts. -/
import Derived.Test.YtcgfmpegakpddaaGreatZPoolDoes3
import Derived.Test.YtcgfmpegakpddaaGreatZPoolDoes3
import Derived.Test.YtcgfmpegakpddaaGreatZPoolDoes3
namespace Go.Proofs.YtcgfmpegakpddaaGreat
open Go.RowKit Go.Maps
set_option linter.unusedVariables false

/-- The law's own block mb holds the document's pool. -/
structure L9 (w W : World) (p hp mb : Nat) (S : Nat → Prop) (v : PoolW) (k : Nat) (pages : Int) (A : Option Addr) (n c : Nat) (A2 : Option Addr) (n2 c2 : Nat) (A3 : Option Addr) (n3 c3 : Nat) : Prop where
  st : PoolSt w W p hp S v k pages
  cm : Calm v.plain
  po : PoIs W (fun b => ¬ S b ∧ mb ≠ b) v.plain (pval v.h.pages A n c A2 n2 c2 v.h.last A3 n3 c3 v.held)
  f6 : F6 W mb (.int .i64 v.h.pages) (.slice A n c) (.slice A2 n2 c2) (.int .i64 v.h.last) (.slice A3 n3 c3) (.bool v.held)
  hm : ¬ S mb
  le : w.heap.size ≤ mb
section
variable {w W W' : World} {p hp mb : Nat} {S : Nat → Prop} {v : PoolW} {k : Nat} {pages : Int} {A A2 A3 : Option Addr} {n c n2 c2 n3 c3 : Nat}
theorem L9.below (s : L9 w W p hp mb S v k pages A n c A2 n2 c2 A3 n3 c3) (hb : Below W.heap.size W W') : L9 w W' p hp mb S v k pages A n c A2 n2 c2 A3 n3 c3 := ⟨s.st.below hb, s.cm, s.po.below hb, s.f6.below hb, s.hm, s.le⟩
theorem L9.start {w2 w3 : World} {h : HeapV} {ws : List Nat} {t : TypeId} (s : PoolSt w w2 p hp S ⟨h, ws, false, []⟩ k pages) (hb : Below (w2.alloc (.cells #[.int .i64 0, .slice none 0 0, .slice none 0 0, .int .i64 0, .slice none 0 0, .bool false] t)).heap.size (w2.alloc (.cells #[.int .i64 0, .slice none 0 0, .slice none 0 0, .int .i64 0, .slice none 0 0, .bool false] t)) w3)
    (hh : HIs w3 (fun b => ¬ S b ∧ w2.heap.size ≠ b) h (hval h.pages A n c A2 n2 c2 h.last)) : L9 w (setG4 w3 w2.heap.size (.int .i64 h.pages) (.slice A n c) (.slice A2 n2 c2) (.int .i64 h.last)) p hp w2.heap.size S ⟨h, ws, false, []⟩ k pages A n c A2 n2 c2 none 0 0 := by
  have hz := s.bel.size
  have hb2 := (Below.refl w2.heap.size w2).alloc (Nat.le_refl _) (.cells #[.int .i64 0, .slice none 0 0, .slice none 0 0, .int .i64 0, .slice none 0 0, .bool false] t)
  have hb3 := hb2.trans (hb.mono hb2.size)
  have hK : Kept (fun b => w2.heap.size = b) w3 (setG4 w3 w2.heap.size (.int .i64 h.pages) (.slice A n c) (.slice A2 n2 c2) (.int .i64 h.last)) := kept_setG4 (Kept.refl _ _) (Or.inl rfl) _ _ _ _
  have hS : ¬ S w2.heap.size := fun c => by have := s.lt _ c; omega
  have hp : PoIs w3 (fun b => ¬ S b ∧ w2.heap.size ≠ b) ⟨h, [], false⟩ (pval h.pages A n c A2 n2 c2 h.last none 0 0 false) :=
    ⟨A, n, c, A2, n2, c2, none, 0, 0, [], rfl, hh, ⟨⟨rfl, fun h => absurd h (Nat.lt_irrefl _)⟩, fun y hy => (by cases hy), InP.none_, fun y hy => (by cases hy)⟩, rfl, ⟨Nat.le_refl _, by omega, fun _ => rfl⟩, InP.none_, fun y hy => (by cases hy)⟩
  exact ⟨(s.below hb3).kept hK (fun b hb e => hS (e ▸ hb)) (fun b e => by omega), fun _ c hc => (by cases hc), hp.kept hK (fun b hb => hb.2), ((F6.made w2 _ _ _ _ _ _ t).below hb).setG4_ _ _ _ _, hS, hz⟩
/-- An act, of any kind. -/
theorem t_does9 {D : Nat → Prop} {mv : Value} (hD : ∀ b, W.heap.size ≤ b → D b) (s : PoolSt w W p hp S v k pages) (cm : Calm v.plain) (hk : k + 1 ≤ 60000) (d : PoIs W (fun b => ¬ S b ∧ D b) v.plain mv) (a : Act9) (hor : in64 a.order) (hs : Sl w w.heap.size a.A a.len (a.at'.map iv)) (hN : a.len ≤ 60000) (hid : ∀ i ∈ a.at', in64 i) :
    Calls Tryz.prog 13 #[.pointer (some ⟨hp, 0, none⟩), .pointer (some ⟨p, 0, none⟩), mv, .agg #[.int .i64 a.kind, .int .i64 a.order, .bool a.on, .slice a.A a.len a.cap]] W (DoesTo9 w W p hp S D (qStep v.plain a) (k + 1) pages) := by
  by_cases h0 : a.kind = 0
  · exact does_take9 hD s hk d a h0 hor
  by_cases h1 : a.kind = 1
  · exact does_give9 hD s cm hk d a h1 hs hN hid
  by_cases h2 : a.kind = 2
  · exact does_hold9 hD s hk d a h2
  exact does_make9 hD s hk d a h0 h1 h2 hor
/-- An act in a round. -/
theorem L9.does (s : L9 w W p hp mb S v k pages A n c A2 n2 c2 A3 n3 c3) (hk : k + 1 ≤ 60000) (a : Act9) (hor : in64 a.order) (hs : Sl w w.heap.size a.A a.len (a.at'.map iv)) (hN : a.len ≤ 60000) (hid : ∀ i ∈ a.at', in64 i) (la la' : Int) (hd hd' : Bool) (e1 : v.h.last = la) (e2 : v.held = hd) (e3 : (qStep v.plain a).heap.last = la') (e4 : (qStep v.plain a).held = hd') :
    Calls Tryz.prog 13 #[.pointer (some ⟨hp, 0, none⟩), .pointer (some ⟨p, 0, none⟩), .agg #[.int .i64 pages, .slice A n c, .slice A2 n2 c2, .int .i64 la, .slice A3 n3 c3, .bool hd], .agg #[.int .i64 a.kind, .int .i64 a.order, .bool a.on, .slice a.A a.len a.cap]] W fun e w3 => ∃ B j1 d1 B2 j2 d2 B3 j3 d3, e = .returned (.tuple #[.bool true, .agg #[.int .i64 pages, .slice B j1 d1, .slice B2 j2 d2, .int .i64 la', .slice B3 j3 d3, .bool hd']]) ∧
      F6 w3 mb (.int .i64 pages) (.slice A n c) (.slice A2 n2 c2) (.int .i64 la) (.slice A3 n3 c3) (.bool hd) ∧ W.heap.size ≤ w3.heap.size ∧
      Hid (∀ W4, Below w3.heap.size w3 W4 → ∃ S' u, u.plain = qStep v.plain a ∧ L9 w (set6 W4 mb (.int .i64 pages) (.slice B j1 d1) (.slice B2 j2 d2) (.int .i64 la') (.slice B3 j3 d3) (.bool hd')) p hp mb S' u (k + 1) pages B j1 d1 B2 j2 d2 B3 j3 d3) := by
  have hlt := s.f6.lt
  have := t_does9 (D := fun b => mb ≠ b) (fun b hb => by omega) s.st s.cm hk s.po a hor hs hN hid
  unfold pval at this
  rw [s.st.pg, e1, e2] at this
  refine this.mono ?_
  rintro e w3 ⟨mv, rfl, S', u, s', hu, d, hs'⟩
  obtain ⟨B, j1, d1, B2, j2, d2, B3, j3, d3, ys, hmv, _⟩ := id d
  have hpg' : (qStep v.plain a).heap.pages = pages := by rw [← hu]; exact s'.pg
  unfold pval at hmv
  rw [e3, e4, hpg'] at hmv
  subst hmv
  have hf := hs'.f6 s.f6 s.hm
  have hS' : ¬ S' mb := hs'.not hlt s.hm
  rw [s.st.pg, e1, e2] at hf
  have hu1 : u.h.last = la' := by rw [← e3, ← hu]; rfl
  have hu2 : u.held = hd' := by rw [← e4, ← hu]; rfl
  refine ⟨B, j1, d1, B2, j2, d2, B3, j3, d3, rfl, hf, hs'.1.size, hidb (fun W4 hb4 => ⟨S', u, hu, ?_⟩)⟩
  have hK : Kept (fun b => mb = b) W4 (set6 W4 mb (.int .i64 pages) (.slice B j1 d1) (.slice B2 j2 d2) (.int .i64 la') (.slice B3 j3 d3) (.bool hd')) := kept_set6 (Kept.refl _ _) (Or.inl rfl) _ _ _ _ _ _
  have hle := s.le
  exact ⟨(s'.below hb4).kept hK (fun b hb e => hS' (e ▸ hb)) (fun b e => by omega), by rw [hu]; exact s.cm.step s.st.pok a, by rw [hu, s'.pg, hu1, hu2]; exact (d.below hb4).kept hK (fun b hb => hb.2), by rw [s'.pg, hu1, hu2]; exact (hf.below hb4).put _ _ _ _ _ _, hS', hle⟩
end

end Go.Proofs.YtcgfmpegakpddaaGreat
/- Plain facts for layer 9's statement on blocks: what List and Out tell of a span's blocks. -/
namespace Go.Proofs.YtcgfmpegakpddaaGreat
open Go.RowKit
set_option linter.unusedVariables false

/-- What is asked of an order's spans ts, whose lists are F; O are all that are out. -/
structure PartF (o : Int) (ts : List CutV) (F O : List Int) : Prop where
  ord : ∀ c ∈ ts, c.s.2.2.2 = o ∧ c.s.2.2.1 = 4 ∧ 0 ≤ c.s.2.1 ∧ c.s.2.1 + 4 ≤ 1024
  own : ∀ c ∈ ts, c.l.Nodup ∧ ∀ x ∈ c.l, x ∈ pBlocks c.s
  ins : ∀ c ∈ ts, ∀ x ∈ pBlocks c.s, (x ∈ F ↔ x ∈ c.l) ∧ (x ∈ O ↔ x ∉ c.l)
  len : (ts.map (·.l.length)).sum = F.length
  few : F.length ≤ 65536 ∧ O.length ≤ 65536
  fewT : ts.length ≤ 65536
  fewB : ∀ c ∈ ts, (pBlocks c.s).length ≤ 16
theorem inOrder_perm {ks ds : List CutV} (hk : (ks.map (·.s.1)).Nodup) (h : InOrderP ks ds) : ds.Perm ks := (List.perm_ext_iff_of_nodup (nodup_of_mapK h.1) (nodup_of_mapK hk)).2 h.2.1
theorem sum_le_of_le {l : List Nat} {m : Nat} (h : ∀ x ∈ l, x ≤ m) : l.sum ≤ l.length * m := by
  induction l with
  | nil => simp
  | cons a l ih =>
    have h1 := h a (List.mem_cons_self ..)
    have h2 := ih fun x hx => h x (List.mem_cons_of_mem _ hx)
    simp only [List.sum_cons, List.length_cons, Nat.add_mul, Nat.one_mul]
    omega
theorem PoolSt.parts {w W : World} {p hp : Nat} {S : Nat → Prop} {v : PoolW} {k : Nat} {pages : Int} (s : PoolSt w W p hp S v k pages) (hk : k ≤ 1000) {d1 d2 d3 : List CutV} (h1 : InOrderP v.ks d1) (h2 : InOrderP v.ks d2) (h3 : InOrderP v.ks d3) (o : Int) :
    PartF o (d3.filter fun k => k.s.2.2.2 == o) ((d2.filter fun k => k.s.2.2.2 == o).flatMap (·.l)) ((d1.filter fun _ => true).flatMap outK) := by
  obtain ⟨Sh, ap, g, mb, n, m, D, q1, q2, q3⟩ := s.pl
  have hn : v.ws.length ≤ 65536 := by rw [q1.ar.hlen]; exact q1.ar.small
  have hok := q1.hp_.ok
  have hks : v.ks.length ≤ 1000 := by
    have h1 := spans_lenP hok (n := k) s.la
    have h2 := sub_lenP (l := v.ks.map (·.s)) (m := v.h.l) ?_ fun x hx => ?_
    · rw [List.length_map] at h2; omega
    · exact List.pairwise_map.2 ((List.pairwise_map.1 q2.ids).imp fun {a b} hab e => hab (by rw [e]))
    · obtain ⟨c, hc, rfl⟩ := List.mem_map.1 hx
      exact q2.mem c hc
  have hlen : ∀ c ∈ v.ks, c.l.length ≤ 16 ∧ (outK c).length ≤ 16 := fun c hc => by
    obtain ⟨f1, f2, f3⟩ := q2.four c hc
    have hb := pBlocks_length c.s
    rw [f1] at hb
    have h16 := (pMany_16 c.s.2.2.2 f2 f3).2.1
    have h1 := sub_lenP ((cList_len (q2.lst c hc) hn).2.2.2.2.1) (q2.sub c hc)
    have h2 : (outK c).length ≤ (pBlocks c.s).length := List.length_filter_le _ _
    omega
  have hp1 := inOrder_perm q2.ids h1
  have hp2 := inOrder_perm q2.ids h2
  have hp3 := inOrder_perm q2.ids h3
  have hlist : ∀ x, x ∈ (d2.filter fun k => k.s.2.2.2 == o).flatMap (·.l) ↔ ∃ c ∈ v.ks, c.s.2.2.2 = o ∧ x ∈ c.l := fun x => by
    rw [List.mem_flatMap]
    constructor
    · rintro ⟨c, hc, hx⟩
      obtain ⟨hc1, hc2⟩ := List.mem_filter.1 hc
      exact ⟨c, (h2.2.1 c).1 hc1, by simpa using hc2, hx⟩
    · rintro ⟨c, hc, e, hx⟩
      exact ⟨c, List.mem_filter.2 ⟨(h2.2.1 c).2 hc, by simpa using e⟩, hx⟩
  have hout : ∀ x, x ∈ (d1.filter fun _ => true).flatMap outK ↔ ∃ c ∈ v.ks, x ∈ pBlocks c.s ∧ x ∉ c.l := fun x => by
    rw [List.mem_flatMap]
    constructor
    · rintro ⟨c, hc, hx⟩
      obtain ⟨hc1, _⟩ := List.mem_filter.1 hc
      obtain ⟨hx1, hx2⟩ := List.mem_filter.1 hx
      exact ⟨c, (h1.2.1 c).1 hc1, hx1, by simpa using hx2⟩
    · rintro ⟨c, hc, hx1, hx2⟩
      exact ⟨c, List.mem_filter.2 ⟨(h1.2.1 c).2 hc, rfl⟩, List.mem_filter.2 ⟨hx1, by simpa using hx2⟩⟩
  have hm : ∀ c ∈ d3.filter fun k => k.s.2.2.2 == o, c ∈ v.ks ∧ c.s.2.2.2 = o := fun c hc => by
    obtain ⟨hc1, hc2⟩ := List.mem_filter.1 hc
    exact ⟨(h3.2.1 c).1 hc1, by simpa using hc2⟩
  have hflen : ∀ (d : List CutV), d.Perm v.ks → ∀ (q : CutV → Bool) (f : CutV → List Int), (∀ c ∈ v.ks, (f c).length ≤ 16) → ((d.filter q).flatMap f).length ≤ 65536 := fun d hd q f hf => by
    rw [List.length_flatMap]
    have h5 := sum_le_of_le (l := (d.filter q).map fun c => (f c).length) (m := 16) fun x hx => by
      obtain ⟨c, hc, rfl⟩ := List.mem_map.1 hx
      exact hf c (hd.mem_iff.1 (List.mem_filter.1 hc).1)
    rw [List.length_map] at h5
    have h6 : (d.filter q).length ≤ d.length := List.length_filter_le _ _
    have h7 := hd.length_eq
    have h8 : ((d.filter q).map fun c => (f c).length).sum = ((d.filter q).map fun c => (f c).length).sum := rfl
    omega
  refine ⟨fun c hc => ?_, fun c hc => ?_, fun c hc x hx => ?_, ?_, ⟨hflen d2 hp2 _ _ fun c hc => (hlen c hc).1, hflen d1 hp1 _ _ fun c hc => (hlen c hc).2⟩, ?_, fun c hc => ?_⟩
  · obtain ⟨hc1, hc2⟩ := hm c hc
    have := hok.start (q2.mem c hc1)
    have h4 := (q2.four c hc1).1
    have hp := hok.p1
    exact ⟨hc2, h4, by omega, by omega⟩
  · obtain ⟨hc1, hc2⟩ := hm c hc
    exact ⟨(cList_len (q2.lst c hc1) hn).2.2.2.2.1, q2.sub c hc1⟩
  · obtain ⟨hc1, hc2⟩ := hm c hc
    constructor
    · rw [hlist]
      constructor
      · rintro ⟨d, hd, _, hxd⟩
        rw [q2.blocks_apart hok hc1 hd hx (q2.sub d hd x hxd)]
        exact hxd
      · exact fun h => ⟨c, hc1, hc2, h⟩
    · rw [hout]
      constructor
      · rintro ⟨d, hd, hb, hxd⟩
        rw [q2.blocks_apart hok hc1 hd hx hb]
        exact hxd
      · exact fun h => ⟨c, hc1, hx, h⟩
  · rw [List.length_flatMap]
    exact (((hp3.trans hp2.symm).filter _).map _).sum_nat
  · have h6 : (d3.filter fun k => k.s.2.2.2 == o).length ≤ d3.length := List.length_filter_le _ _
    have h7 := hp3.length_eq
    omega
  · obtain ⟨f1, f2, f3⟩ := q2.four c (hm c hc).1
    have hb := pBlocks_length c.s
    rw [f1] at hb
    have h16 := (pMany_16 c.s.2.2.2 f2 f3).2.1
    omega
/-- How many of the first k blocks are in the list. -/
def cntP (c : CutV) (k : Nat) : Nat := (((pBlocks c.s).take k).filter fun x => decide (x ∈ c.l)).length
theorem cntP_step {c : CutV} {k : Nat} {x : Int} (h : (pBlocks c.s)[k]? = some x) : cntP c (k + 1) = cntP c k + if x ∈ c.l then 1 else 0 := by
  have hk := (List.getElem?_eq_some_iff.1 h)
  unfold cntP
  rw [List.take_add_one, h]
  simp only [Option.toList_some, List.filter_append, List.length_append]
  by_cases hx : x ∈ c.l
  · simp [hx]
  · simp [hx]
theorem cntP_all {o : Int} {ts : List CutV} {F O : List Int} (h : PartF o ts F O) {c : CutV} (hc : c ∈ ts) : cntP c (pBlocks c.s).length = c.l.length := by
  obtain ⟨h1, h2⟩ := h.own c hc
  unfold cntP
  rw [List.take_length]
  exact count_list (pBlocks_nodup c.s) h1 h2
theorem cntP_le (c : CutV) (k : Nat) : cntP c k ≤ (pBlocks c.s).length := by
  unfold cntP
  have h1 := List.length_filter_le (fun x => decide (x ∈ c.l)) ((pBlocks c.s).take k)
  have h2 := List.length_take_le k (pBlocks c.s)
  have h3 : ((pBlocks c.s).take k).length ≤ (pBlocks c.s).length := by rw [List.length_take]; omega
  omega
/-- How many are in the first i spans' lists. -/
def sumP (ts : List CutV) (i : Nat) : Nat := ((ts.take i).map (·.l.length)).sum
theorem sumP_step {ts : List CutV} {i : Nat} {c : CutV} (h : ts[i]? = some c) : sumP ts (i + 1) = sumP ts i + c.l.length := by
  unfold sumP
  rw [List.take_add_one, h]
  simp
theorem sumP_all (ts : List CutV) : sumP ts ts.length = (ts.map (·.l.length)).sum := by unfold sumP; rw [List.take_length]
theorem sumP_le {o : Int} {ts : List CutV} {F O : List Int} (h : PartF o ts F O) (i : Nat) : sumP ts i ≤ 65536 := by
  have h1 := h.len
  have h2 := h.few.1
  unfold sumP
  have h3 : (ts.map (·.l.length)).sum = ((ts.take i).map (·.l.length)).sum + ((ts.drop i).map (·.l.length)).sum := by
    rw [← List.sum_append, ← List.map_append, List.take_append_drop]
  omega

end Go.Proofs.YtcgfmpegakpddaaGreat
