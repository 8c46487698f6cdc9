/- Reading the acts that layer 11's statements take. -/
import Derived.Test.YtcgfmpegakpddaaGreatRows7
import Derived.Test.YtcgfmpegakpddaaGreatYCacheGive
import Derived.Test.YtcgfmpegakpddaaGreatYCacheLaws0
namespace Go.Proofs.YtcgfmpegakpddaaGreat
open Go.RowKit
set_option linter.unusedVariables false

structure Act11 where
  kind : Int
  proc : Int
  order : Int
  A : Option Addr
  len : Nat
  cap : Nat
  at' : List Int
theorem four11 {cs : List Value} (hl : cs.length = 4) {a b c d : Value} (h0 : cs[0]? = some a) (h1 : cs[1]? = some b) (h2 : cs[2]? = some c) (h3 : cs[3]? = some d) : cs = [a, b, c, d] := by
  match cs, hl with
  | [a0, a1, a2, a3], _ => simp_all
def Act11Is (W : World) (cs : List Value) (a : Act11) : Prop :=
  cs = [iv a.kind, iv a.proc, iv a.order, .slice a.A a.len a.cap] ∧ in64 a.kind ∧ in64 a.proc ∧ in64 a.order ∧ a.len ≤ maxLen ∧ Sl W W.heap.size a.A a.len (a.at'.map iv) ∧ ∀ x ∈ a.at', in64 x
section
variable {H : Type} {enc : TypeId × Value → H} {W : World} {sp : Nat → Bool} {hd : Bool}
theorem a11_cells : Tryz.prog.cellsOf 72 = 4 := by kernel_rfl
theorem a11_int : Tryz.prog.cellsOf 3 = 1 := by kernel_rfl
theorem a11_ints : Tryz.prog.cellsOf 38 = 1 := by kernel_rfl
theorem read_act11 (fuel : Nat) (cs : List Value) (x : DataW H × List MemPlace) (h : DataW.trod enc Tryz.prog W 0 sp hd fuel 72 cs = some x) : ∃ a, Act11Is W cs a := by
  obtain ⟨hl, hf⟩ := read_field Tryz.underlying72 h
  rw [a11_cells] at hl
  obtain ⟨c0, n0, y0, g0, t0⟩ := hf 0 _ rfl a11_int (by rw [hl]; decide)
  obtain ⟨c1, n1, y1, g1, t1⟩ := hf 1 _ rfl a11_int (by rw [hl]; decide)
  obtain ⟨c2, n2, y2, g2, t2⟩ := hf 2 _ rfl a11_int (by rw [hl]; decide)
  obtain ⟨c3, n3, y3, g3, t3⟩ := hf 3 _ rfl a11_ints (by rw [hl]; decide)
  obtain ⟨z0, e0, _, w0⟩ := DataW.trod_int Tryz.underlying3 t0
  obtain ⟨z1, e1, _, w1⟩ := DataW.trod_int Tryz.underlying3 t1
  obtain ⟨z2, e2, _, w2⟩ := DataW.trod_int Tryz.underlying3 t2
  obtain ⟨A, len, cap, zs, e3, hlen, hsl, hwf⟩ := read_ints Tryz.underlying38 Tryz.underlying3 a11_int t3
  simp only [List.cons.injEq, and_true] at e0 e1 e2 e3
  subst e0 e1 e2 e3
  exact ⟨⟨z0, z1, z2, A, len, cap, zs⟩, four11 hl g0 g1 g2 g3, wf_in64 w0, wf_in64 w1, wf_in64 w2, hlen, hsl, fun x hx => wf_in64 (hwf x hx)⟩
theorem read_acts11 {v : Value} {d : DataW H} {ps : List MemPlace} (h : DataW.Trod enc Tryz.prog W 0 sp hd 63 v d ps) :
    ∃ (A : Option Addr) (len cap : Nat) (l : List Act11), v.cells.toList = [.slice A len cap] ∧ len ≤ maxLen ∧ RowOf (Act11Is W) 4 W W.heap.size A len l := by
  obtain ⟨fuel, hf⟩ := h
  exact read_row (Act11Is W) 4 Tryz.underlying63 a11_cells (by decide) (fun fuel cs x h => read_act11 fuel cs x h) hf
end

end Go.Proofs.YtcgfmpegakpddaaGreat
/- Layer 11's statement on the block that was given back last. -/
namespace Go.Proofs.YtcgfmpegakpddaaGreat
open Go.RowKit
set_option linter.unusedVariables false

/-- What rises is unique. -/
theorem sorted_uniq {α : Type} (f : α → Int) : ∀ {l m : List α}, l.Pairwise (fun a b => f a < f b) → m.Pairwise (fun a b => f a < f b) → (∀ x, x ∈ l ↔ x ∈ m) → l = m
  | [], [], _, _, _ => rfl
  | [], b :: m, _, _, h => absurd ((h b).2 (List.mem_cons_self ..)) (by simp)
  | a :: l, [], _, _, h => absurd ((h a).1 (List.mem_cons_self ..)) (by simp)
  | a :: l, b :: m, h1, h2, h => by
    obtain ⟨p1, p2⟩ := List.pairwise_cons.1 h1
    obtain ⟨q1, q2⟩ := List.pairwise_cons.1 h2
    have e : a = b := by
      rcases List.mem_cons.1 ((h a).1 (List.mem_cons_self ..)) with e | e
      · exact e
      · rcases List.mem_cons.1 ((h b).2 (List.mem_cons_self ..)) with e' | e'
        · exact e'.symm
        · have := p1 b e'
          have := q1 a e
          omega
    subst e
    rw [sorted_uniq f p2 q2 fun x => ⟨fun hx => ?_, fun hx => ?_⟩]
    · rcases List.mem_cons.1 ((h x).1 (List.mem_cons_of_mem _ hx)) with e | e
      · subst e; have := p1 x hx; omega
      · exact e
    · rcases List.mem_cons.1 ((h x).2 (List.mem_cons_of_mem _ hx)) with e | e
      · subst e; have := q1 x hx; omega
      · exact e
section
variable {w W W' : World} {p hp : Nat} {S S' : Nat → Prop} {v v' : PoolW} {k k' : Nat} {pages : Int}
theorem PoolSt.strict (s : PoolSt w W p hp S v k pages) {ds : List CutV} (h : InOrderP v.ks ds) : (ds.map CutV.plain).Pairwise (fun a b => a.1.2.1 < b.1.2.1) := by
  obtain ⟨Sh, ap, g, mb, n, m, D, q1, q2, q3⟩ := s.pl
  refine List.pairwise_map.2 (List.pairwise_iff_getElem.2 fun i j hi hj hij => ?_)
  have h1 := List.pairwise_iff_getElem.1 h.2.2 i j hi hj hij
  have h2 := List.pairwise_iff_getElem.1 (List.pairwise_map.1 h.1) i j hi hj hij
  have h3 : ds[i].s.2.1 ≠ ds[j].s.2.1 := fun e => h2 (by rw [starts_inj q2 q1.hp_.ok ((h.2.1 _).1 (List.getElem_mem hi)) ((h.2.1 _).1 (List.getElem_mem hj)) e])
  show ds[i].s.2.1 < ds[j].s.2.1
  omega
/-- Pools that tell the same, told in order. -/
theorem same_order (s : PoolSt w W p hp S v k pages) (s' : PoolSt w W' p hp S' v' k' pages) (e : v.plain = v'.plain) {ds ds' : List CutV} (h : InOrderP v.ks ds) (h' : InOrderP v'.ks ds') : ds.map CutV.plain = ds'.map CutV.plain := by
  have hl : v.ks.map CutV.plain = v'.ks.map CutV.plain := congrArg PoolV.l e
  refine sorted_uniq (fun c => c.1.2.1) (s.strict h) (s'.strict h') fun x => ?_
  have q : ∀ {ks d : List CutV}, (∀ c, c ∈ d ↔ c ∈ ks) → (x ∈ d.map CutV.plain ↔ x ∈ ks.map CutV.plain) := fun hm => by
    rw [List.mem_map, List.mem_map]
    exact ⟨fun ⟨c, a, b⟩ => ⟨c, (hm c).1 a, b⟩, fun ⟨c, a, b⟩ => ⟨c, (hm c).2 a, b⟩⟩
  rw [q h.2.1, q h'.2.1, hl]
theorem same_list (s : PoolSt w W p hp S v k pages) (s' : PoolSt w W' p hp S' v' k' pages) (e : v.plain = v'.plain) {ds ds' : List CutV} (h : InOrderP v.ks ds) (h' : InOrderP v'.ks ds') (o : Int) : (ds.filter (fun k => k.s.2.2.2 == o)).flatMap (·.l) = (ds'.filter (fun k => k.s.2.2.2 == o)).flatMap (·.l) := by
  have q : ∀ d : List CutV, (d.filter (fun k => k.s.2.2.2 == o)).flatMap (·.l) = ((d.map CutV.plain).filter (fun c => c.1.2.2.2 == o)).flatMap (·.2) := fun d => by
    rw [List.filter_map, List.flatMap_map]
    rfl
  rw [q ds, q ds', same_order s s' e h h']
end
theorem sum_leC {l : List Nat} {m : Nat} (h : ∀ x ∈ l, x ≤ m) : l.sum ≤ l.length * m := by
  induction l with
  | nil => simp
  | cons a l ih =>
    have h1 := h a (List.mem_cons_self ..)
    have h2 := ih fun x hx => h x (List.mem_cons_of_mem _ hx)
    simp only [List.sum_cons, List.length_cons, Nat.add_mul, Nat.one_mul]
    omega
theorem list_few {w W : World} {p hp : Nat} {S : Nat → Prop} {v : PoolW} {k : Nat} {pages : Int} (s : PoolSt w W p hp S v k pages) {ds : List CutV} (h : InOrderP v.ks ds) (o : Int) : ((ds.filter (fun k => k.s.2.2.2 == o)).flatMap (·.l)).length ≤ 9223372036854775806 := by
  obtain ⟨Sh, ap, g, mb, n, m, D, q1, q2, q3⟩ := s.pl
  obtain ⟨_, hks⟩ := q2.starts q1.hp_.ok
  have hp1 : ds.Perm v.ks := (List.perm_ext_iff_of_nodup (nodup_of_mapK h.1) (nodup_of_mapK q2.ids)).2 h.2.1
  have hl : (ds.filter (fun k => k.s.2.2.2 == o)).length ≤ ds.length := List.length_filter_le _ _
  have he := hp1.length_eq
  rw [List.length_flatMap]
  have h5 := sum_leC (l := (ds.filter (fun k => k.s.2.2.2 == o)).map fun c => c.l.length) (m := 65536) fun x hx => by
    obtain ⟨c, hc, rfl⟩ := List.mem_map.1 hx
    exact (cList_len (q2.lst c ((h.2.1 c).1 (List.mem_filter.1 hc).1)) (by rw [q1.ar.hlen]; exact q1.ar.small)).1
  rw [List.length_map] at h5
  have h6 : (ds.filter (fun k => k.s.2.2.2 == o)).length * 65536 ≤ 1024 * 65536 := Nat.mul_le_mul_right _ (by omega)
  omega
/-- No list has more words than it may. -/
def Room (cs : List CL) : Prop := ∀ (i : Nat) d, cs[i]? = some d → d.2.length * pSize ((i % 4 : Nat) : Int) ≤ 256
section
variable {F : CaF} {w W : World} {S : Nat → Prop} {v : PoolW} {cs : List CL} {k : Nat} {pages : Int}
theorem Room.set_ {i : Nat} {d : CL} (h : Room cs) (hd : d.2.length * pSize ((i % 4 : Nat) : Int) ≤ 256) : Room (cs.set i d) := fun j e hj => by
  by_cases he : i = j
  · subst he
    by_cases hi : i < cs.length
    · rw [List.getElem?_set_self hi] at hj
      obtain rfl := Option.some.inj hj
      exact hd
    · rw [List.getElem?_eq_none (by rw [List.length_set]; omega)] at hj
      cases hj
  · rw [List.getElem?_set_ne he] at hj
    exact h j e hj
theorem caTake_room {p : PoolV} {l : List Int} {o : Int} (ho : 0 ≤ o ∧ o ≤ 3) (h : l.length * pSize o ≤ 256) : (caTake p l o).2.1.length * pSize o ≤ 256 ∧ ((caTake p l o).2.2.2 = 0 → (caTake p l o).2.1.length * pSize o < 256) := by
  have hs := pSize_16 o
  have hcons : ∀ (a : Int) (r : List Int), (a :: r).length * pSize o ≤ 256 → r.length * pSize o < 256 := fun a r h => by
    rw [List.length_cons, Nat.add_mul] at h
    omega
  unfold caTake
  cases l with
  | cons a r => exact ⟨Nat.le_of_lt (hcons a r h), fun _ => hcons a r h⟩
  | nil =>
    have hf := caFill_room 8 (p := p) (l := []) ho (by simp)
    have hn := @caFill_some p o
    simp only
    split
    · exact ⟨by simp, fun _ => by simp⟩
    · rename_i a r e
      rw [e] at hf
      exact ⟨Nat.le_of_lt (hcons a r hf), fun _ => hcons a r hf⟩
/-- Take, whatever is asked. -/
theorem t_ctake (s : CaSt F w W S v cs k pages) (hr : Room cs) (hk : k + 8 ≤ 1000000000) (proc order : Int) :
    Calls Tryz.prog 40 #[.pointer (some ⟨F.q, 0, none⟩), .int .i64 proc, .int .i64 order] W fun e w' => (∃ at' no, e = .returned (.tuple #[.int .i64 at', .int .i64 no])) ∧ ∃ S' v' cs', CaSt F w w' S' v' cs' (k + 8) pages ∧ Room cs' := by
  by_cases h : proc < 0 ∨ (F.N : Int) ≤ proc ∨ order < 0 ∨ 4 ≤ order
  · refine (c_take_no s proc order h).mono ?_
    rintro e w' ⟨rfl, hb⟩
    exact ⟨⟨_, _, rfl⟩, S, v, cs, (s.below hb).later (by omega), hr⟩
  · obtain ⟨pn, rfl⟩ : ∃ n : Nat, proc = n := ⟨proc.toNat, by omega⟩
    obtain ⟨on, rfl⟩ : ∃ n : Nat, order = n := ⟨order.toNat, by omega⟩
    have hi : 4 * pn + on < cs.length := by rw [s.len]; omega
    obtain ⟨⟨c, l⟩, hd⟩ : ∃ d, cs[4 * pn + on]? = some d := ⟨_, List.getElem?_eq_getElem hi⟩
    refine (c_take s hk pn on (by omega) (by omega) hd).mono ?_
    rintro e w' ⟨rfl, S', v', c', k1, _⟩
    have hm : (4 * pn + on) % 4 = on := by omega
    have h2 := hr _ _ hd
    rw [hm] at h2
    exact ⟨⟨_, _, rfl⟩, S', v', _, k1, hr.set_ (by rw [hm]; exact (caTake_room ⟨by omega, by omega⟩ h2).1)⟩
/-- A row that lies in none of these blocks. -/
def RowK (W : World) (S : Nat → Prop) (A : Option Addr) (n : Nat) (xs : List Value) : Prop := Sl W W.heap.size A n xs ∧ (0 < n → ∀ a, A = some a → ¬ S a.block ∧ a.block < W.heap.size)
theorem RowK.side {W' : World} {S' : Nat → Prop} {A : Option Addr} {n : Nat} {xs : List Value} (h : RowK W S A n xs) (hs : SideP S W S' W') : RowK W' S' A n xs := by
  rcases Nat.eq_zero_or_pos n with h0 | h0
  · subst h0
    exact ⟨⟨h.1.1, fun h => absurd h (Nat.lt_irrefl _)⟩, fun h => absurd h (Nat.lt_irrefl _)⟩
  · exact ⟨hs.sl h.1 (fun a e => (h.2 h0 a e).1), fun _ a e => ⟨hs.not (h.2 h0 a e).2 (h.2 h0 a e).1, Nat.lt_of_lt_of_le (h.2 h0 a e).2 hs.1.size⟩⟩
theorem RowK.new {W1 : World} {A : Option Addr} {n : Nat} {xs : List Value} (h : Sl W1 W1.heap.size A n xs) (hb : ∀ a, A = some a → W.heap.size ≤ a.block) (lt : ∀ b, S b → b < W.heap.size) : RowK W1 S A n xs :=
  ⟨h, fun h0 a e => ⟨fun c => by have := lt _ c; have := hb a e; omega, by obtain ⟨b, off, e2, hbl, _⟩ := h.2 h0; rw [e] at e2; injection e2 with e2; rw [e2]; exact hbl⟩⟩
theorem order_out (s : CaSt F w W S v cs k pages) {x o : Int} (h : OutQ v.plain.l x o) : orderP v.ks x = o := by
  obtain ⟨c, hc, h1, h2, h3⟩ := h
  obtain ⟨i, hi⟩ := List.getElem?_of_mem hc
  obtain ⟨sp, r⟩ := c
  rw [← h3]
  exact orderP_of (s.pool.pok.of_at hi h1) hi h2
theorem give_again (s : CaSt F w W S v cs k pages) {x : Int} {o : Int} {r : List Int} (h1 : OutQ v.plain.l x o) (h2 : ∀ d ∈ cs, x ∉ d.2) (h3 : r.length * pSize o < 256) : caGive v (allOf cs) r o [x] = (v.plain, x :: r, 0) := by
  have e1 : caBad v.ks o [x] = false := by
    unfold caBad
    show (orderP v.ks x != o || false) = false
    rw [order_out s h1]; simp
  have e2 : caClash (allOf cs) [x] = false := by
    unfold caClash
    show (decide (x ∈ allOf cs ++ []) || false) = false
    refine Bool.or_eq_false_iff.2 ⟨decide_eq_false fun h => ?_, rfl⟩
    have h' : x ∈ allOf cs := by rcases List.mem_append.1 h with h | h; exact h; cases h
    obtain ⟨d, hd, hx⟩ := List.mem_flatMap.1 (sortI_mem.1 h')
    exact h2 d hd hx
  unfold caGive
  rw [e1, e2]
  show ((caPut o (v.plain, r) x).1, (caPut o (v.plain, r) x).2, (0 : Int)) = _
  unfold caPut
  rw [if_neg (by show ¬ 256 ≤ r.length * pSize o; omega)]
/-- The calls behind the last Take that asks. -/
theorem last_calls11 (s : CaSt F w W S v cs k pages) (hr : Room cs) (hk : k + 16 ≤ 1000000000) (pn on : Nat) (hp : pn < F.N) (ho : on < 4) :
    Calls Tryz.prog 40 #[.pointer (some ⟨F.q, 0, none⟩), .int .i64 pn, .int .i64 on] W fun e w1 => ∃ at' no, e = .returned (.tuple #[.int .i64 at', .int .i64 no]) ∧ Hid (Below w.heap.size w w1) ∧ (no = 0 →
      Calls Tryz.prog 17 #[.pointer (some ⟨F.p, 0, none⟩), .int .i64 on] w1 fun e w2 => ∃ A n c, e = .returned (.slice A n c) ∧
      Calls Tryz.prog 35 #[.pointer (some ⟨F.q, 0, none⟩), .int .i64 pn, .int .i64 on] w2 fun e w3 => ∃ A2 n2 c2, e = .returned (.slice A2 n2 c2) ∧
      Calls Tryz.prog 41 #[.pointer (some ⟨F.q, 0, none⟩), .int .i64 pn, .int .i64 on, .slice (some ⟨w3.heap.size, 0, none⟩) 1 1] (w3.alloc (.cells #[.int .i64 at'] 3)) fun e w4 => e = .returned (.int .i64 0) ∧
      Calls Tryz.prog 40 #[.pointer (some ⟨F.q, 0, none⟩), .int .i64 pn, .int .i64 on] w4 fun e w5 => e = .returned (.tuple #[.int .i64 at', .int .i64 0]) ∧
      Calls Tryz.prog 17 #[.pointer (some ⟨F.p, 0, none⟩), .int .i64 on] w5 fun e w6 => ∃ A6 n6 c6, e = .returned (.slice A6 n6 c6) ∧
      Calls Tryz.prog 16 #[.slice A6 n6 c6, .slice A n c] w6 fun e w7 => e = .returned (.bool true) ∧
      Calls Tryz.prog 35 #[.pointer (some ⟨F.q, 0, none⟩), .int .i64 pn, .int .i64 on] w7 fun e w8 => ∃ A8 n8 c8, e = .returned (.slice A8 n8 c8) ∧
      Calls Tryz.prog 16 #[.slice A8 n8 c8, .slice A2 n2 c2] w8 fun e w9 => e = .returned (.bool true) ∧ Hid (Below w.heap.size w w9)) := by
  have hi : 4 * pn + on < cs.length := by rw [s.len]; omega
  have him : (4 * pn + on) % 4 = on := by omega
  obtain ⟨⟨c, l⟩, hd⟩ : ∃ d, cs[4 * pn + on]? = some d := ⟨_, List.getElem?_eq_getElem hi⟩
  have h2 := hr _ _ hd
  rw [him] at h2
  obtain ⟨⟨p1, r, at', no⟩, hR⟩ : ∃ R, caTake v.plain l on = R := ⟨_, rfl⟩
  have hroom := caTake_room (p := v.plain) (o := (on : Int)) ⟨by omega, by omega⟩ h2
  rw [hR] at hroom
  have ct := c_take s (by omega) pn on hp ho hd
  rw [hR] at ct
  refine ct.mono ?_
  rintro e w1 ⟨rfl, S1, v1, c1, k1, k2, k3, k4⟩
  refine ⟨at', no, rfl, hidb k1.bel, fun hno => ?_⟩
  subst hno
  obtain ⟨o1, o2⟩ := k4 rfl
  rw [him] at o1
  have hrl := hroom.2 rfl
  have hget : ∀ x : CL, (cs.set (4 * pn + on) x)[4 * pn + on]? = some x := fun x => List.getElem?_set_self hi
  refine (t_plist k1.pool (on : Int)).mono ?_
  rintro e w2 ⟨ds, hds, A, cA, rfl, hown, hb2⟩
  obtain ⟨FR, hFR⟩ : ∃ FR, (ds.filter (fun k => k.s.2.2.2 == (on : Int))).flatMap (·.l) = FR := ⟨_, rfl⟩
  rw [hFR] at hown ⊢
  have hFn : FR.length ≤ 9223372036854775806 := by
    rw [← hFR]
    exact list_few k1.pool hds on
  have s2 := k1.below hb2
  have R2 : RowK w2 S1 A FR.length (FR.map iv) := RowK.new (W := w1) (Sl.of_own hown) (fun a e => (hown.lt a.block (by rw [e]; rfl)).1) k1.lt
  refine ⟨A, _, cA, rfl, (c_listat2 s2 pn on hp ho (hget (c1, r))).mono ?_⟩
  rintro e w3 ⟨A2, cA2, rfl, P3⟩
  have s3 := s2.below P3.out.2.1
  have R3 := R2.side (SideP.below P3.out.2.1)
  have L3 : RowK w3 S1 A2 r.length (r.map iv) := RowK.new (W := w2) P3.out.1 P3.out.2.2 s2.lt
  have hrn := (s3.nodup (List.mem_of_getElem? (hget (c1, r)))).1
  simp only at hrn
  have hb4 : Below w3.heap.size w3 (w3.alloc (.cells #[.int .i64 at'] 3)) := (Below.refl _ _).alloc (Nat.le_refl _) _
  have s4 := s3.below hb4
  have hrng := s4.range (x := at') (o := (on : Int)) (by rw [k2]; exact o1)
  have cg := c_give s4 pn on hp ho (hget (c1, r)) (some ⟨w3.heap.size, 0, none⟩) 1 1 [at'] (Sl.oneI w3 at' _) (fun _ a ha hS => by
    injection ha with ha
    rw [← ha] at hS
    have := s3.lt _ hS
    exact absurd this (Nat.lt_irrefl _)) (by omega) (fun y hy => by
    obtain rfl := List.mem_singleton.1 hy
    exact ⟨by omega, by omega⟩)
  rw [give_again s4 (by rw [k2]; exact o1) o2 hrl] at cg
  refine ⟨A2, _, cA2, rfl, cg.mono ?_⟩
  rintro e w4 ⟨rfl, S5, v5, c5, m1, m2, m3⟩
  rw [List.set_set] at m1
  have R5 := (R3.side (SideP.below hb4)).side m3
  have L5 := (L3.side (SideP.below hb4)).side m3
  have ct2 := c_take m1 (by omega) pn on hp ho (hget (c5, at' :: r))
  rw [show caTake v5.plain (at' :: r) on = (v5.plain, r, at', 0) from rfl] at ct2
  refine ⟨rfl, ct2.mono ?_⟩
  rintro e w5 ⟨rfl, S6, v6, c6, n1, n2, n3, _⟩
  rw [List.set_set] at n1
  have R6 := R5.side n3
  have L6 := L5.side n3
  refine ⟨rfl, (t_plist n1.pool (on : Int)).mono ?_⟩
  rintro e w6 ⟨ds6, hds6, A6, cA6, rfl, hown6, hb6⟩
  have hsame := same_list n1.pool k1.pool (n2.trans m2) hds6 hds (on : Int)
  rw [hsame, hFR] at hown6 ⊢
  have s6 := n1.below hb6
  have R7 := R6.side (SideP.below hb6)
  have L7 := L6.side (SideP.below hb6)
  refine ⟨A6, _, cA6, rfl, (ref_bints A6 A FR.length cA6 FR.length cA FR FR w6 _ _ (Sl.of_own hown6) R7.1 hFn hFn).mono ?_⟩
  rintro e w7 ⟨rfl, q7, rfl⟩
  have hb7 : Below w6.heap.size w6 (w6.drewN q7) := belowN (Below.refl _ _) q7
  have s7 := s6.below hb7
  have L8 := L7.side (SideP.below hb7)
  refine ⟨by simp, (c_listat2 s7 pn on hp ho (hget (c6, r))).mono ?_⟩
  rintro e w8 ⟨A8, cA8, rfl, P8⟩
  have s8 := s7.below P8.out.2.1
  have L9' := L8.side (SideP.below P8.out.2.1)
  refine ⟨A8, _, cA8, rfl, (ref_bints A8 A2 r.length cA8 r.length cA2 r r w8 _ _ P8.out.1 L9'.1 (by omega) (by omega)).mono ?_⟩
  rintro e w9 ⟨rfl, q9, rfl⟩
  exact ⟨by simp, hidb (belowN s8.bel q9)⟩
end

theorem bel_tr11b {W X Y : World} (h : Below W.heap.size W X) (k : Below X.heap.size X Y) : Below W.heap.size W Y := h.trans (k.mono h.size)
set_option maxRecDepth 100000 in
set_option maxHeartbeats 4000000 in
theorem cacheLast_any (pages proc order : Int) (A0 : Option Addr) (m c : Nat) (l : List Act11) (w : World) (h0 : in64 pages) (hp : in64 proc) (ho : in64 order) (hm : m ≤ maxLen) (hs : RowOf (Act11Is w) 4 w w.heap.size A0 m l) :
    Calls Tryz.prog 9 #[.int .i64 pages, .slice A0 m c, .int .i64 proc, .int .i64 order] w fun e w' => e = .returned (.bool true) ∧ Below w.heap.size w w' := by
  have cw := fun W => awake11 W
  unfold maxLen at hm
  by_cases g0 : pages < 4
  · clear hs
    --@10
    go_enter Tryz.func9, Tryz.ntmps9
    go_wp2_with (go_at_call 31; (with_reducible refine (cw _).mono ?_); rintro e w1 ⟨rfl, hb⟩)
    go_ret
    exact ⟨rfl, hb⟩
  by_cases g1 : 40 < pages
  · clear hs
    --@11
    go_enter Tryz.func9, Tryz.ntmps9
    go_wp2_with (go_at_call 31; (with_reducible refine (cw _).mono ?_); rintro e w1 ⟨rfl, hb⟩)
    go_ret
    exact ⟨rfl, hb⟩
  by_cases g2 : (60 : Int) < (m : Int)
  · clear hs
    --@12
    go_enter Tryz.func9, Tryz.ntmps9
    go_wp2_with (go_at_call 31; (with_reducible refine (cw _).mono ?_); rintro e w1 ⟨rfl, hb⟩)
    go_ret
    exact ⟨rfl, hb⟩
  obtain ⟨F, ws, _, cn⟩ := code_made11 pages 2 w (by omega) (by omega) (by omega)
  have cn' : Calls Tryz.prog 32 #[.int .i64 pages, .int .i64 2] w _ := cn
  have HR := hidb hs
  clear hs cn
  go_enter Tryz.func9, Tryz.ntmps9
  go_wp2_with (first
    | (go_at_call 32; (with_reducible refine cn'.mono ?_); rintro e w1 ⟨C, S1, rfl, hCN, s1⟩))
  have HCN := hidb hCN
  have H0 : Hid (CaSt C w w1 S1 ⟨⟨pages, F, [], 0⟩, ws, false, []⟩ (List.replicate (4 * 2) ((0, 0), [])) (8 * 0) pages ∧ Room (List.replicate (4 * 2) (((0, 0), []) : CL))) := hidb ⟨s1.out, fun i d hd => by
    rw [List.getElem?_replicate] at hd
    split at hd
    · obtain rfl := Option.some.inj hd
      simp
    · cases hd⟩
  clear cn' hCN s1
  go_loopw [12] (fun x wr => ∃ (j : Nat) (S : Nat → Prop) (u : PoolW) (cs : List CL), j ≤ m ∧ x = .int .i64 j ∧ Hid (CaSt C w wr S u cs (8 * j) pages ∧ Room cs)) (fun x _ => (m - intOf x).toNat)
  case atStart => exact ⟨0, S1, _, _, Nat.zero_le _, rfl, H0⟩
  case round =>
    obtain ⟨j, S, u, cs, hj, rfl, HK⟩ := hrel
    by_cases hlt : j < m
    · obtain ⟨b, off, a, cells, rfl, hbs, hx, hl5, hc, hcs, hkd, hpr, hor, _⟩ := (RowOf.below HR.out HK.out.1.bel).at_ hlt
      subst hcs
      have a1 : wr.cell? ⟨b, off + j * 4 + 1, none⟩ = some (.int .i64 a.proc) := hc 1 (by omega)
      have a2 : wr.cell? ⟨b, off + j * 4 + 2, none⟩ = some (.int .i64 a.order) := hc 2 (by omega)
      have hi0 : (0 : Int) ≤ (j : Int) := by omega
      have hi1 : (j : Int) < (m : Int) := by omega
      have ct : Calls Tryz.prog 40 #[.pointer (some ⟨C.q, 0, none⟩), .int .i64 a.proc, .int .i64 a.order] wr.drew fun e w3 => (∃ at' no, e = .returned (.tuple #[.int .i64 at', .int .i64 no])) ∧ ∃ S3 u3 cs3, Hid (CaSt C w w3 S3 u3 cs3 (8 * (j + 1)) pages ∧ Room cs3) := (t_ctake (HK.out.1.below (Below.refl _ _).drew) HK.out.2 (by omega) a.proc a.order).mono fun e w3 ⟨h1, S3, u3, cs3, h2, h3⟩ => ⟨h1, S3, u3, cs3, hidb ⟨h2, h3⟩⟩
      clear hc hl5 hx HK HR
      --@1
      go_wp2
      go_region_law (first | (go_simp; go_at_call 40; (with_reducible refine ct.mono ?_); rintro e w3 ⟨⟨at', no, rfl⟩, S3, u3, cs3, HK3⟩))
      all_goals go_wp2
      all_goals go_roundw
      all_goals first
        | exact ⟨j + 1, S3, u3, cs3, by omega, by go_num, HK3⟩
        | (simp [intOf]; omega)
    · obtain rfl : j = m := by omega
      by_cases hbad : proc < 0 ∨ (C.N : Int) ≤ proc ∨ order < 0 ∨ 4 ≤ order
      · have ct : Calls Tryz.prog 40 #[.pointer (some ⟨C.q, 0, none⟩), .int .i64 proc, .int .i64 order] wr fun e w3 => e = .returned (.tuple #[.int .i64 0, .int .i64 1]) ∧ Hid (Below w.heap.size w w3) := (c_take_no HK.out.1 proc order hbad).mono fun e w3 ⟨h1, h2⟩ => ⟨h1, hidb (bel_tr11b HK.out.1.bel h2)⟩
        clear hbad HK HR
        --@2
        go_wp2_with (first
          | (go_at_call 40; (with_reducible refine ct.mono ?_); rintro e w3 ⟨rfl, HB3⟩)
          | (go_at_call 31; (with_reducible refine (cw _).mono ?_); rintro e w9 ⟨rfl, hb9⟩))
        go_ret
        exact ⟨rfl, bel_tr11b HB3.out hb9⟩
      · obtain ⟨pn, rfl⟩ : ∃ n : Nat, proc = n := ⟨proc.toNat, by omega⟩
        obtain ⟨on, rfl⟩ : ∃ n : Nat, order = n := ⟨order.toNat, by omega⟩
        have c1 := last_calls11 HK.out.1 HK.out.2 (by omega) pn on (by omega) (by omega)
        clear hbad HK HR hp ho
        --@3
        go_wp2_with (first
          | (go_at_call 40; (with_reducible refine c1.mono ?_); rintro e w3 ⟨at', no, rfl, HB3, hno⟩))
        all_goals first
          | (have h00 : no ≠ 0 := (by simpa using ‹(no != 0) = true›)
             clear hno c1
             go_wp2_with (first
               | (go_at_call 31; (with_reducible refine (cw _).mono ?_); rintro e w12 ⟨rfl, hb12⟩))
             go_ret
             exact ⟨rfl, bel_tr11b HB3.out hb12⟩)
          | (obtain rfl : no = 0 := (by simpa using ‹(no != 0) = false›)
             have c2 := hno rfl
             clear hno c1
             go_wp2_with (first
               | (go_at_call 17; (with_reducible refine c2.mono ?_); rintro e w4 ⟨A4, n4, d4, rfl, c3⟩)
               | (go_at_call 35; (with_reducible refine c3.mono ?_); rintro e w5 ⟨A5, n5, d5, rfl, c4⟩)
               | (go_at_call 41; (with_reducible refine c4.mono ?_); rintro e w6 ⟨rfl, c5⟩)
               | (go_at_call 40; (with_reducible refine c5.mono ?_); rintro e w7 ⟨rfl, c6⟩)
               | (go_at_call 17; (with_reducible refine c6.mono ?_); rintro e w8 ⟨A8, n8, d8, rfl, c7⟩)
               | (go_at_call 16; (with_reducible refine c7.mono ?_); rintro e w9 ⟨rfl, c8⟩)
               | (go_at_call 35; (with_reducible refine c8.mono ?_); rintro e w10 ⟨A10, n10, d10, rfl, c9⟩)
               | (go_at_call 16; (with_reducible refine c9.mono ?_); rintro e w11 ⟨rfl, HB11⟩)
               | (go_at_call 31; (with_reducible refine (cw _).mono ?_); rintro e w12 ⟨rfl, hb12⟩))
             go_ret
             exact ⟨rfl, bel_tr11b HB11.out hb12⟩)
end Go.Proofs.YtcgfmpegakpddaaGreat
