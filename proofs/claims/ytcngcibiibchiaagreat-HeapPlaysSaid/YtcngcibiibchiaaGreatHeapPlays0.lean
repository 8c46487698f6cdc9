/- What each call of layer 7's acts does to the two sides: the heap, and the document's own, which lies in a block of the law's. -/
import Derived.Test.YtcngcibiibchiaaGreatHeapBack
import Derived.Test.YtcngcibiibchiaaGreatHeapMake2
import Derived.Test.YtcngcibiibchiaaGreatHeapDrop
namespace Go.Proofs.YtcngcibiibchiaaGreat
open Go.RowKit
set_option linter.unusedVariables false

/-- The document's heap: its rows lie in no block of S, and not in q. -/
structure Rh (S : Nat → Prop) (q : Nat) (W : World) (h : HeapV) (pg : Int) (A : Option Addr) (c : Nat) (A2 : Option Addr) (n2 c2 : Nat) (la : Int) : Prop where
  ep : h.pages = pg
  el : h.last = la
  l1 : h.free.length = 1024
  l2 : h.l.length = n2
  k1 : 1024 ≤ c
  k2 : c ≤ 9223372036854775807
  k3 : A = none → c = 0
  s1 : Sl W W.heap.size A 1024 (h.free.map bv)
  k5 : n2 ≤ c2
  k6 : c2 ≤ 9223372036854775807
  k7 : A2 = none → c2 = 0
  s2 : Sn W W.heap.size A2 n2 h.l
  p1 : InP (fun b => ¬ S b ∧ b ≠ q) A
  p2 : InP (fun b => ¬ S b ∧ b ≠ q) A2
  q2 : InP (· < W.heap.size) A2
section
variable {S S' T : Nat → Prop} {q : Nat} {W W' : World} {h : HeapV} {pg : Int} {A : Option Addr} {c : Nat} {A2 : Option Addr} {n2 c2 : Nat} {la : Int}
theorem Rh.q1 (k : Rh S q W h pg A c A2 n2 c2 la) : InP (· < W.heap.size) A := fun a e => by
  obtain ⟨b, off, e2, hb, _⟩ := k.s1.2 (by decide)
  rw [e] at e2
  obtain rfl := Option.some.inj e2
  exact hb
theorem Rh.his (k : Rh S q W h pg A c A2 n2 c2 la) {P : Nat → Prop} (hP : ∀ b, b < W.heap.size → ¬ S b → b ≠ q → P b) : HIs W P h (.agg #[.int .i64 pg, .slice A 1024 c, .slice A2 n2 c2, .int .i64 la]) := by
  have q1 := k.q1
  obtain ⟨e1, e2, e3, e4, k1, k2, k3, s1, k5, k6, k7, s2, p1, p2, q2⟩ := k
  refine ⟨A, c, A2, c2, by rw [e1, e2, e3, e4], by omega, k2, k3, by rw [e3]; exact s1, by omega, k6, k7, by rw [e4]; exact s2, fun a e => hP _ (q1 a e) (p1 a e).1 (p1 a e).2, fun a e => hP _ (q2 a e) (p2 a e).1 (p2 a e).2, q2⟩
theorem Rh.of_his {P : Nat → Prop} {v : Value} (k : HIs W P h v) (hl : h.free.length = 1024) (hP : ∀ b, P b → b < W.heap.size → ¬ S b ∧ b ≠ q) :
    ∃ A c A2 n2 c2 la, v = .agg #[.int .i64 h.pages, .slice A 1024 c, .slice A2 n2 c2, .int .i64 la] ∧ Rh S q W h h.pages A c A2 n2 c2 la ∧ InP P A ∧ InP P A2 := by
  obtain ⟨A, c, A2, c2, e, h1, h2, h3, h4, h5, h6, h7, h8, h9, h10, h11⟩ := k
  rw [hl] at e h1 h4
  refine ⟨A, c, A2, h.l.length, c2, h.last, e, ⟨rfl, rfl, hl, rfl, h1, h2, h3, h4, h5, h6, h7, h8, fun a ha => ?_, fun a ha => hP _ (h10 a ha) (h11 a ha), h11⟩, h9, h10⟩
  obtain ⟨b, off, e2, hb, _⟩ := h4.2 (by decide)
  have h12 := h9 a ha
  rw [ha] at e2
  obtain rfl := Option.some.inj e2
  exact hP _ h12 hb
theorem Rh.kept (k : Rh S q W h pg A c A2 n2 c2 la) (hK : Kept T W W') (hA : ∀ a, A = some a → ¬ T a.block) (hA2 : ∀ a, A2 = some a → ¬ T a.block) : Rh S q W' h pg A c A2 n2 c2 la :=
  ⟨k.ep, k.el, k.l1, k.l2, k.k1, k.k2, k.k3, Sl.kept (B := 0) k.s1 hK hA, k.k5, k.k6, k.k7, ⟨k.s2.1, fun hn => by
    obtain ⟨b, off, e, hb, hc⟩ := k.s2.2 hn
    refine ⟨b, off, e, Nat.lt_of_lt_of_le hb hK.size, fun j y hj => ?_⟩
    obtain ⟨cs, h1, h2, h3⟩ := hc j y hj
    exact ⟨cs, h1, fun i hi => (hK.cell (a := ⟨b, off + j * 4 + i, none⟩) hb (show ¬ T b from hA2 ⟨b, off, none⟩ e)).trans (h2 i hi), h3⟩⟩, k.p1, k.p2, fun a e => Nat.lt_of_lt_of_le (k.q2 a e) hK.size⟩
theorem Rh.below (k : Rh S q W h pg A c A2 n2 c2 la) (hb : Below W.heap.size W W') : Rh S q W' h pg A c A2 n2 c2 la := k.kept (Kept.of_below hb (fun _ => False)) (fun _ _ => id) (fun _ _ => id)
theorem Rh.did (k : Rh S q W h pg A c A2 n2 c2 la) (hK : Kept S W W') : Rh (more S W W') q W' h pg A c A2 n2 c2 la := by
  have k2 := k.kept hK (fun a e => (k.p1 a e).1) (fun a e => (k.p2 a e).1)
  exact ⟨k2.ep, k2.el, k2.l1, k2.l2, k2.k1, k2.k2, k2.k3, k2.s1, k2.k5, k2.k6, k2.k7, k2.s2, fun a e => ⟨fun c => (k.p1 a e).1 (more_old (k.q1 a e) c), (k.p1 a e).2⟩, fun a e => ⟨fun c => (k.p2 a e).1 (more_old (k.q2 a e) c), (k.p2 a e).2⟩, k2.q2⟩
end

/-- A block that holds these cells, and is none of S. -/
def Keeps (S : Nat → Prop) (W : World) (q : Nat) (cs : List Value) : Prop := q < W.heap.size ∧ ¬ S q ∧ (∀ j v, cs[j]? = some v → W.cell? ⟨q, j, none⟩ = some v) ∧ ∀ j, W.frozen? ⟨q, j, none⟩ = false
section
variable {S S' : Nat → Prop} {W W' : World} {q : Nat} {cs : List Value}
theorem Keeps.kept (h : Keeps S W q cs) (hK : Kept S' W W') (hn : ¬ S' q) : Keeps S W' q cs :=
  ⟨Nat.lt_of_lt_of_le h.1 hK.size, h.2.1, fun j v hj => (hK.cell (a := ⟨q, j, none⟩) h.1 hn).trans (h.2.2.1 j v hj), fun j => (World.frozen?_of_block (w := W) (a := ⟨q, j, none⟩) (hK.block q h.1 hn)).trans (h.2.2.2 j)⟩
theorem Keeps.below (h : Keeps S W q cs) (hb : Below W.heap.size W W') : Keeps S W' q cs := h.kept (Kept.of_below hb (fun _ => False)) id
theorem Keeps.did (h : Keeps S W q cs) (hK : Kept S W W') : Keeps (more S W W') W' q cs :=
  ⟨Nat.lt_of_lt_of_le h.1 hK.size, fun c => h.2.1 (more_old h.1 c), (h.kept hK h.2.1).2.2⟩
theorem Keeps.four {a b c d : Value} (h : Keeps S W q [a, b, c, d]) : W.cell? ⟨q, 0, none⟩ = some a ∧ W.cell? ⟨q, 1, none⟩ = some b ∧ W.cell? ⟨q, 2, none⟩ = some c ∧ W.cell? ⟨q, 3, none⟩ = some d :=
  ⟨h.2.2.1 0 _ rfl, h.2.2.1 1 _ rfl, h.2.2.1 2 _ rfl, h.2.2.1 3 _ rfl⟩
/-- Its four cells are written. -/
theorem Keeps.put {a b c d u0 u1 u2 u3 : Value} (h : Keeps S W q [a, b, c, d]) : Keeps S ((((W.setCell ⟨q, 0, none⟩ u0).setCell ⟨q, 1, none⟩ u1).setCell ⟨q, 2, none⟩ u2).setCell ⟨q, 3, none⟩ u3) q [u0, u1, u2, u3] ∧ Kept (fun b => b = q) W ((((W.setCell ⟨q, 0, none⟩ u0).setCell ⟨q, 1, none⟩ u1).setCell ⟨q, 2, none⟩ u2).setCell ⟨q, 3, none⟩ u3) := by
  obtain ⟨h0, h1, h2, h3⟩ := h.four
  obtain ⟨c0, c1, c2, c3⟩ := four_cells W q u0 u1 u2 u3 _ _ _ _ h0 h1 h2 h3
  have hK : Kept (fun b => b = q) W ((((W.setCell ⟨q, 0, none⟩ u0).setCell ⟨q, 1, none⟩ u1).setCell ⟨q, 2, none⟩ u2).setCell ⟨q, 3, none⟩ u3) :=
    ((((Kept.refl (fun b => b = q) W).set (a := ⟨q, 0, none⟩) (Or.inl rfl) u0).set (a := ⟨q, 1, none⟩) (Or.inl rfl) u1).set (a := ⟨q, 2, none⟩) (Or.inl rfl) u2).set (a := ⟨q, 3, none⟩) (Or.inl rfl) u3
  refine ⟨⟨Nat.lt_of_lt_of_le h.1 hK.size, h.2.1, fun j v hj => ?_, fun j => ?_⟩, hK⟩
  · match j, hj with
    | 0, hj => obtain rfl : u0 = v := by simpa using hj
               exact c0
    | 1, hj => obtain rfl : u1 = v := by simpa using hj
               exact c1
    | 2, hj => obtain rfl : u2 = v := by simpa using hj
               exact c2
    | 3, hj => obtain rfl : u3 = v := by simpa using hj
               exact c3
    | j + 4, hj => simp at hj
  · rw [World.frozen?_setCell, World.frozen?_setCell, World.frozen?_setCell, World.frozen?_setCell]; exact h.2.2.2 j
theorem Keeps.made (W : World) (hS : ∀ b, S b → b < W.heap.size) (cs : List Value) (t : TypeId) : Keeps S (W.alloc (.cells cs.toArray t)) W.heap.size cs :=
  ⟨by simp, fun c => by have := hS _ c; omega, fun j v hj => (World.cell?_alloc_at _ _ _ _ rfl).trans (by simpa using hj), fun j => World.frozen?_alloc_at _ _ _ _ rfl⟩
end

theorem spans_len3 {h : HeapV} (k : HOk h) {n : Nat} (hlb : h.last ≤ n) : h.l.length ≤ n := by
  have h1 := nodup_bound n (h.l.map (·.1)) k.ids fun x hx => by
    obtain ⟨s, hs, rfl⟩ := List.mem_map.1 hx
    have := k.idr s hs
    omega
  rwa [List.length_map] at h1
theorem HOk.span_in {h : HeapV} (k : HOk h) {y : Int × Int × Int × Int} (hy : y ∈ h.l) : 0 ≤ y.2.1 ∧ y.2.1 ≤ 1024 ∧ 1 ≤ y.2.2.1 ∧ y.2.2.1 ≤ 1024 := by
  have h1 := (k.parts.2.1 _ (List.mem_append.2 (Or.inr (List.mem_map.2 ⟨y, hy, rfl⟩))))
  have h2 := k.p1
  unfold rnOf at h1
  simp only at h1
  omega
/-- Both sides. -/
structure St7 (w W : World) (p q : Nat) (S : Nat → Prop) (h : HeapV) (k : Nat) (pg : Int) (A : Option Addr) (c : Nat) (A2 : Option Addr) (n2 c2 : Nat) (la : Int) : Prop where
  st : HeapSt w W p S h k pg
  kq : Keeps S W q [.int .i64 pg, .slice A 1024 c, .slice A2 n2 c2, .int .i64 la]
  rh : Rh S q W h pg A c A2 n2 c2 la
  ql : w.heap.size ≤ q
section
variable {w W W' : World} {p q k : Nat} {S : Nat → Prop} {h : HeapV} {pg : Int} {A : Option Addr} {c : Nat} {A2 : Option Addr} {n2 c2 : Nat} {la : Int}
theorem St7.below (s : St7 w W p q S h k pg A c A2 n2 c2 la) (hb : Below W.heap.size W W') : St7 w W' p q S h k pg A c A2 n2 c2 la := ⟨s.st.below hb, s.kq.below hb, s.rh.below hb, s.ql⟩
/-- Rows that are old, or came since. -/
def OldNew (S : Nat → Prop) (q a x : Nat) (b : Nat) : Prop := (b < a ∧ ¬ S b ∧ b ≠ q) ∨ x ≤ b
/-- What a call of the document's heap answers: its new value, that lies nowhere yet. -/
structure Ans (S : Nat → Prop) (q : Nat) (W X w' : World) (h' : HeapV) (pg : Int) (A : Option Addr) (c : Nat) (A2 : Option Addr) (n2 c2 : Nat) (la : Int) : Prop where
  rh : Rh S q w' h' pg A c A2 n2 c2 la
  o1 : InP (OldNew S q W.heap.size X.heap.size) A
  o2 : InP (OldNew S q W.heap.size X.heap.size) A2
  bel : Below X.heap.size X w'
/-- In any world that comes up. -/
theorem t_rdrop (s : St7 w W p q S h k pg A c A2 n2 c2 la) (AI : Option Addr) (m cI : Nat) (ids : List Int) (hs : Sl W W.heap.size AI m (ids.map iv)) (hm : m ≤ 60000) (hid : ∀ i ∈ ids, in64 i) (hk : k ≤ 60000) (h' : HeapV) (no : Int) (e : hDrop h ids = (h', no)) {X : World} (hX : Below W.heap.size W X) :
    Calls Tryz.prog 8 #[.agg #[.int .i64 pg, .slice A 1024 c, .slice A2 n2 c2, .int .i64 la], .slice AI m cI] X fun e w' => ∃ A' c' A2' n2' c2' la', e = .returned (.tuple #[.agg #[.int .i64 pg, .slice A' 1024 c', .slice A2' n2' c2', .int .i64 la'], .int .i64 no]) ∧ Ans S q W X w' h' pg A' c' A2' n2' c2' la' := by
  have hXs := hX.size
  have hd := hDrop_ok s.st.hp.ok ids
  rw [e] at hd
  simp only at hd
  have hll := spans_len3 s.st.hp.ok (n := k) s.st.la
  have hq := s.kq.1
  have hS := s.st.hp.lt
  refine (ref_hdrop (OldNew S q W.heap.size X.heap.size) h _ AI m cI ids X (fun b hb => Or.inr hb) ((s.rh.his (P := OldNew S q W.heap.size X.heap.size) fun b h1 h2 h3 => Or.inl ⟨h1, h2, h3⟩).below hX) ((hs.below hX).more hXs) (by omega) hid s.rh.l1 (by omega) ?_).mono ?_
  · intro y hy
    have h1 := s.st.hp.ok.span_in hy
    exact ⟨⟨by omega, by omega⟩, ⟨by omega, by omega⟩⟩
  · rw [e]
    rintro e w' ⟨⟨v, rfl, hv⟩, hb⟩
    obtain ⟨A', c', A2', n2', c2', la', rfl, k1, k2, k3⟩ := Rh.of_his (S := S) (q := q) hv hd.1.fl (fun b hP hb2 => by
      rcases hP with h1 | h1
      · exact h1.2
      · exact ⟨fun c => by have := hS b c; omega, by omega⟩)
    have hpg : h'.pages = pg := by rw [hd.2.1]; exact s.st.pg
    simp only at k1
    rw [hpg] at k1 ⊢
    exact ⟨A', c', A2', n2', c2', la', rfl, k1, k2, k3, hb⟩
theorem t_rmake (s : St7 w W p q S h k pg A c A2 n2 c2 la) (kn o : Int) (h0 : in64 kn) (h1 : in64 o) (hk : k ≤ 60000) (h' : HeapV) (s1 s2 s3 s4 no : Int) (e : hMake h kn o = (h', (s1, s2, s3, s4), no)) {X : World} (hX : Below W.heap.size W X) :
    Calls Tryz.prog 10 #[.agg #[.int .i64 pg, .slice A 1024 c, .slice A2 n2 c2, .int .i64 la], .int .i64 kn, .int .i64 o] X fun e w' => ∃ A' c' A2' n2' c2' la', e = .returned (.tuple #[.agg #[.int .i64 pg, .slice A' 1024 c', .slice A2' n2' c2', .int .i64 la'], .agg #[.int .i64 s1, .int .i64 s2, .int .i64 s3, .int .i64 s4], .int .i64 no]) ∧ Ans S q W X w' h' pg A' c' A2' n2' c2' la' := by
  have hXs := hX.size
  have hd := hMake_ok s.st.hp.ok kn o
  rw [e] at hd
  simp only at hd
  have hll := spans_len3 s.st.hp.ok (n := k) s.st.la
  have hq := s.kq.1
  have hS := s.st.hp.lt
  have hla := s.st.la
  have hl0 := s.st.hp.ok.la
  refine (ref_hmake (OldNew S q W.heap.size X.heap.size) h _ kn o X (fun b hb => Or.inr hb) ((s.rh.his (P := OldNew S q W.heap.size X.heap.size) fun b h1 h2 h3 => Or.inl ⟨h1, h2, h3⟩).below hX) h0 h1 s.rh.l1 (by omega) ⟨hl0, by omega⟩).mono ?_
  rw [e]
  rintro e w' ⟨⟨v, rfl, hv⟩, hb⟩
  obtain ⟨A', c', A2', n2', c2', la', rfl, k1, k2, k3⟩ := Rh.of_his (S := S) (q := q) hv hd.1.fl (fun b hP hb2 => by
    rcases hP with h1 | h1
    · exact h1.2
    · exact ⟨fun c => by have := hS b c; omega, by omega⟩)
  have hpg : h'.pages = pg := by rw [hd.2.1]; exact s.st.pg
  simp only at k1
  rw [hpg] at k1 ⊢
  exact ⟨A', c', A2', n2', c2', la', rfl, k1, k2, k3, hb⟩
end
/-- Both sides as New leaves them. -/
theorem t_rnew {w w1 : World} {p : Nat} {S : Nat → Prop} {h : HeapV} {pg : Int} (s : HeapSt w w1 p S h 0 pg) (h0 : in64 pg) (e : hNew pg = (h, 0)) (hp : h.pages = pg) (hl : h.free.length = 1024) :
    Calls Tryz.prog 6 #[.int .i64 pg] w1 fun e w' => ∃ A c A2 n2 c2 la, e = .returned (.tuple #[.agg #[.int .i64 pg, .slice A 1024 c, .slice A2 n2 c2, .int .i64 la], .int .i64 0]) ∧ St7 w (w'.alloc (.cells #[.int .i64 pg, .slice A 1024 c, .slice A2 n2 c2, .int .i64 la] 31)) p w'.heap.size S h 0 pg A c A2 n2 c2 la := by
  refine (ref_hnew (fun b => w1.heap.size ≤ b) pg w1 (fun b hb => hb) h0.1 h0.2).mono ?_
  rw [e]
  rintro e w' ⟨⟨v, rfl, hv⟩, hb⟩
  obtain ⟨A, c, A2, n2, c2, la, rfl, k1, k2, k3⟩ := Rh.of_his (S := S) (q := w'.heap.size) hv hl (fun b hP hb2 => ⟨fun hc => by have := s.hp.lt b hc; omega, by omega⟩)
  simp only at k1
  rw [hp] at k1 ⊢
  have ha : Below w'.heap.size w' (w'.alloc (.cells #[.int .i64 pg, .slice A 1024 c, .slice A2 n2 c2, .int .i64 la] 31)) := (Below.refl _ w').alloc (Nat.le_refl _) _
  have hsz := hb.size
  exact ⟨A, c, A2, n2, c2, la, rfl, (s.below hb).below ha, Keeps.made w' (fun b hc => by have := s.hp.lt b hc; omega) [.int .i64 pg, .slice A 1024 c, .slice A2 n2 c2, .int .i64 la] _, k1.below ha, Nat.le_trans s.bel.size hsz⟩
/-- The code's heap is behind: the document's is one call ahead, and its value lies in q. -/
structure Half (w W : World) (p q : Nat) (S : Nat → Prop) (h : HeapV) (k : Nat) (h' : HeapV) (pg : Int) (A : Option Addr) (c : Nat) (A2 : Option Addr) (n2 c2 : Nat) (la : Int) : Prop where
  st : HeapSt w W p S h k pg
  kq : Keeps S W q [.int .i64 pg, .slice A 1024 c, .slice A2 n2 c2, .int .i64 la]
  rh : Rh S q W h' pg A c A2 n2 c2 la
  ql : w.heap.size ≤ q
/-- The new value lies in r yet. -/
structure Mid (w W : World) (p q r : Nat) (S : Nat → Prop) (h : HeapV) (k : Nat) (h' : HeapV) (pg : Int) (A : Option Addr) (c : Nat) (A2 : Option Addr) (n2 c2 : Nat) (la : Int) (x0 x1 x2 x3 : Value) : Prop where
  st : HeapSt w W p S h k pg
  kq : Keeps S W q [x0, x1, x2, x3]
  kr : Keeps S W r [.int .i64 pg, .slice A 1024 c, .slice A2 n2 c2, .int .i64 la]
  rh : Rh S q W h' pg A c A2 n2 c2 la
  ql : w.heap.size ≤ q
  ne : r ≠ q
section
variable {w W W' X w' : World} {p q r k : Nat} {S : Nat → Prop} {h h' : HeapV} {pg : Int} {A : Option Addr} {c : Nat} {A2 : Option Addr} {n2 c2 : Nat} {la : Int} {x0 x1 x2 x3 : Value}
theorem HeapSt.kept {T : Nat → Prop} (s : HeapSt w W p S h k pg) (hK : Kept T W W') (hT : ∀ b, T b → ¬ S b ∧ w.heap.size ≤ b) : HeapSt w W' p S h k pg :=
  ⟨s.hp.keep hK (fun b hb hc => (hT b hc).1 hb), s.low, s.bel.trans (hK.below s.bel.size (fun b hb => (hT b hb).2)), s.la, s.pg⟩
theorem Mid.swap (m : Mid w W p q r S h k h' pg A c A2 n2 c2 la x0 x1 x2 x3) :
    Half w ((((W.setCell ⟨q, 0, none⟩ (.int .i64 pg)).setCell ⟨q, 1, none⟩ (.slice A 1024 c)).setCell ⟨q, 2, none⟩ (.slice A2 n2 c2)).setCell ⟨q, 3, none⟩ (.int .i64 la)) p q S h k h' pg A c A2 n2 c2 la := by
  obtain ⟨k1, hK⟩ := m.kq.put (u0 := .int .i64 pg) (u1 := .slice A 1024 c) (u2 := .slice A2 n2 c2) (u3 := .int .i64 la)
  exact ⟨m.st.kept hK (fun b hb => by subst hb; exact ⟨m.kq.2.1, m.ql⟩), k1, m.rh.kept hK (fun a e => (m.rh.p1 a e).2) (fun a e => (m.rh.p2 a e).2), m.ql⟩
theorem t_hfree7 (s : Half w W p q S h k h' pg A c A2 n2 c2 la) (AI : Option Addr) (m cI : Nat) (ids : List Int) (hs : Sl W W.heap.size AI m (ids.map iv)) (hm : m ≤ 60000) (hid : ∀ i ∈ ids, in64 i) (no : Int) (e : hDrop h ids = (h', no)) :
    Calls Tryz.prog 9 #[.pointer (some ⟨p, 0, none⟩), .slice AI m cI] W fun e w' => e = .returned (.int .i64 no) ∧ ∃ S', St7 w w' p q S' h' k pg A c A2 n2 c2 la := by
  have hd := hDrop_ok s.st.hp.ok ids
  have hl := s.st.la
  rw [e] at hd
  simp only at hd
  refine (code_hfree s.st.hp AI m cI ids hs hm hid).mono ?_
  rw [e]
  rintro e w' ⟨rfl, hp, hK⟩
  exact ⟨rfl, _, s.st.did hp hK (by omega) hd.2.1, s.kq.did hK, s.rh.did hK, s.ql⟩
theorem t_hmake7 (s : Half w W p q S h k h' pg A c A2 n2 c2 la) (kn o : Int) (h0 : in64 kn) (h1 : in64 o) (hk : k ≤ 60000) (s1 s2 s3 s4 no : Int) (e : hMake h kn o = (h', (s1, s2, s3, s4), no)) :
    Calls Tryz.prog 11 #[.pointer (some ⟨p, 0, none⟩), .int .i64 kn, .int .i64 o] W fun e w' => e = .returned (.tuple #[.agg #[.int .i64 s1, .int .i64 s2, .int .i64 s3, .int .i64 s4], .int .i64 no]) ∧ ∃ S', St7 w w' p q S' h' (k + 1) pg A c A2 n2 c2 la ∧ ∀ r cs, Keeps S W r cs → Keeps S' w' r cs := by
  have hm := hMake_ok s.st.hp.ok kn o
  have hl := s.st.la
  rw [e] at hm
  simp only at hm
  refine (code_hmake s.st.hp kn o h0 h1 (by omega)).mono ?_
  rw [e]
  rintro e w' ⟨rfl, hp, hK⟩
  exact ⟨rfl, _, ⟨s.st.did hp hK (by omega) hm.2.1, s.kq.did hK, s.rh.did hK, s.ql⟩, fun r cs hr => hr.did hK⟩
theorem Half.below {wa : World} (s : Half w W p q S h k h' pg A c A2 n2 c2 la) (hb : Below W.heap.size W wa) : Half w wa p q S h k h' pg A c A2 n2 c2 la := ⟨s.st.below hb, s.kq.below hb, s.rh.below hb, s.ql⟩
end

end Go.Proofs.YtcngcibiibchiaaGreat
