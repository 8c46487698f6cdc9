/- What is asked of both sides behind the acts of layer 7: places, spans, rows. -/
import Derived.Test.YtcngcibiibchiaaGreatHeapPlays1
import Derived.Test.YtcngcibiibchiaaGreatHeapRef2
namespace Go.Proofs.YtcngcibiibchiaaGreat
open Go.RowKit
set_option linter.unusedVariables false

theorem find_at {α : Type} (f : α → Bool) : ∀ l : List α, (idxInt (l.findIdx? f) = -1 ∧ l.find? f = none ∧ l.any f = false) ∨ ∃ (k : Nat) (s : α), idxInt (l.findIdx? f) = (k : Int) ∧ l[k]? = some s ∧ l.find? f = some s ∧ l.any f = true
  | [] => Or.inl ⟨rfl, rfl, rfl⟩
  | x :: l => by
    cases hx : f x with
    | true => exact Or.inr ⟨0, x, by rw [List.findIdx?_cons, hx]; rfl, rfl, by rw [List.find?_cons, hx], by rw [List.any_cons, hx]; rfl⟩
    | false =>
      rcases find_at f l with ⟨h1, h2, h3⟩ | ⟨k, s, h1, h2, h3, h4⟩
      · refine Or.inl ⟨?_, by rw [List.find?_cons, hx]; exact h2, by rw [List.any_cons, hx]; exact h3⟩
        rw [List.findIdx?_cons, hx]
        cases e : l.findIdx? f with
        | none => rfl
        | some k =>
          rw [e] at h1
          have : (k : Int) = -1 := h1
          omega
      · refine Or.inr ⟨k + 1, s, ?_, by simpa using h2, by rw [List.find?_cons, hx]; exact h3, by rw [List.any_cons, hx]; exact h4⟩
        rw [List.findIdx?_cons, hx]
        cases e : l.findIdx? f with
        | none =>
          rw [e] at h1
          have : (-1 : Int) = (k : Int) := h1
          omega
        | some q =>
          rw [e] at h1
          have : (q : Int) = (k : Int) := h1
          show ((q + 1 : Nat) : Int) = ((k + 1 : Nat) : Int)
          omega
theorem span_two (h : HeapV) (id : Int) : (hFind h.l id = -1 ∧ spanOf h.l id = (0, 0, 0, 0) ∧ (h.l.any fun s => s.1 == id) = false) ∨ ∃ (k : Nat) (a b c d : Int), hFind h.l id = (k : Int) ∧ h.l[k]? = some (a, b, c, d) ∧ spanOf h.l id = (a, b, c, d) ∧ (h.l.any fun s => s.1 == id) = true := by
  rcases find_at (fun s : Int × Int × Int × Int => s.1 == id) h.l with ⟨h1, h2, h3⟩ | ⟨k, ⟨a, b, c, d⟩, h1, h2, h3, h4⟩
  · exact Or.inl ⟨h1, by unfold spanOf; rw [h2]; rfl, h3⟩
  · exact Or.inr ⟨k, a, b, c, d, h1, h2, by unfold spanOf; rw [h3]; rfl, h4⟩
theorem at_two (h : HeapV) (x : Int) : (hAt h.l x = -1 ∧ (atOf h.l x).getD spanNone = (0, 0, 0, 0) ∧ (atOf h.l x).isSome = false) ∨ ∃ (k : Nat) (a b c d : Int), hAt h.l x = (k : Int) ∧ h.l[k]? = some (a, b, c, d) ∧ (atOf h.l x).getD spanNone = (a, b, c, d) ∧ (atOf h.l x).isSome = true := by
  unfold hAt atOf
  by_cases hx : x < 0
  · rw [if_pos hx, if_pos hx]
    exact Or.inl ⟨rfl, rfl, rfl⟩
  · rw [if_neg hx, if_neg hx]
    rcases find_at (inSpan x) h.l with ⟨h1, h2, h3⟩ | ⟨k, ⟨a, b, c, d⟩, h1, h2, h3, h4⟩
    · exact Or.inl ⟨h1, by rw [h2]; rfl, by rw [h2]; rfl⟩
    · exact Or.inr ⟨k, a, b, c, d, h1, h2, by rw [h3]; rfl, by rw [h3]; rfl⟩
theorem F4.below {W W' : World} {r : Nat} {a b c d : Value} (h : F4 W r a b c d) (hb : Below W.heap.size W W') : F4 W' r a b c d := by
  obtain ⟨h0, h1, h2, h3, hf⟩ := h
  have hh : W'.heap[r]? = W.heap[r]? := hb.block r (lt_of_cell h0)
  exact ⟨(World.cell?_of_block (w := W) (a := ⟨r, 0, none⟩) hh).trans h0, (World.cell?_of_block (w := W) (a := ⟨r, 1, none⟩) hh).trans h1, (World.cell?_of_block (w := W) (a := ⟨r, 2, none⟩) hh).trans h2, (World.cell?_of_block (w := W) (a := ⟨r, 3, none⟩) hh).trans h3, fun j => (World.frozen?_of_block (w := W) (a := ⟨r, j, none⟩) hh).trans (hf j)⟩
section
variable {w W X : World} {p q k : Nat} {S : Nat → Prop} {h : HeapV} {pg : Int} {A : Option Addr} {c : Nat} {A2 : Option Addr} {n2 c2 : Nat} {la : Int}
theorem St7.few (s : St7 w W p q S h k pg A c A2 n2 c2 la) (hk : k ≤ 60000) : n2 ≤ 60000 := by
  have h1 := spans_len3 s.st.hp.ok (n := k) s.st.la
  have h2 := s.rh.l2
  omega
theorem t_span7 (s : St7 w W p q S h k pg A c A2 n2 c2 la) (id : Int) (hid : in64 id) (s1 s2 s3 s4 : Int) (ok : Bool) (e1 : spanOf h.l id = (s1, s2, s3, s4)) (e2 : (h.l.any fun s => s.1 == id) = ok) :
    Calls Tryz.prog 12 #[.pointer (some ⟨p, 0, none⟩), .int .i64 id] W fun e w' => e = .returned (.tuple #[.agg #[.int .i64 s1, .int .i64 s2, .int .i64 s3, .int .i64 s4], .bool ok]) ∧ Below W.heap.size W w' := by
  have := code_hspan s.st.hp id hid
  rw [e1, e2] at this
  exact this
theorem t_at7 (s : St7 w W p q S h k pg A c A2 n2 c2 la) (x : Int) (hx : in64 x) (s1 s2 s3 s4 : Int) (ok : Bool) (e1 : (atOf h.l x).getD spanNone = (s1, s2, s3, s4)) (e2 : (atOf h.l x).isSome = ok) :
    Calls Tryz.prog 14 #[.pointer (some ⟨p, 0, none⟩), .int .i64 x] W fun e w' => e = .returned (.tuple #[.agg #[.int .i64 s1, .int .i64 s2, .int .i64 s3, .int .i64 s4], .bool ok]) ∧ Below W.heap.size W w' := by
  have := code_hat s.st.hp x hx
  rw [e1, e2] at this
  exact this
theorem t_find7 (s : St7 w W p q S h k pg A c A2 n2 c2 la) (hk : k ≤ 60000) (id : Int) (r : Int) (e : hFind h.l id = r) :
    Calls Tryz.prog 13 #[.agg #[.int .i64 pg, .slice A 1024 c, .slice A2 n2 c2, .int .i64 la], .int .i64 id] W fun e w' => e = .returned (.int .i64 r) ∧ Below W.heap.size W w' := by
  have := ref_hfind pg la A A2 1024 c n2 c2 h.l id W s.rh.s2 (by have := s.few hk; omega)
  rw [e] at this
  exact this
theorem t_rat7 (s : St7 w W p q S h k pg A c A2 n2 c2 la) (hk : k ≤ 60000) (x : Int) (hx : in64 x) (r : Int) (e : hAt h.l x = r) :
    Calls Tryz.prog 15 #[.agg #[.int .i64 pg, .slice A 1024 c, .slice A2 n2 c2, .int .i64 la], .int .i64 x] W fun e w' => e = .returned (.int .i64 r) ∧ Below W.heap.size W w' := by
  have := ref_hat pg la A A2 1024 c n2 c2 h.l x W s.rh.s2 (by have := s.few hk; omega) hx.1 hx.2 (fun y hy => by have := s.st.hp.ok.span_in hy; omega)
  rw [e] at this
  exact this
/-- In any world that comes up: the rows that both sides tell. -/
theorem t_cspans7 (s : St7 w W p q S h k pg A c A2 n2 c2 la) (hX : Below W.heap.size W X) : Calls Tryz.prog 17 #[.pointer (some ⟨p, 0, none⟩)] X fun e w' => ∃ A c, e = .returned (.slice A (hSpans h).length c) ∧ Sn w' w'.heap.size A (hSpans h).length (hSpans h) ∧ Below X.heap.size X w' :=
  (t_hspans (s.st.below hX) (hSpans h) rfl).mono fun e w' ⟨A, c, e1, e2, e3⟩ => ⟨A, c, e1, Sn.of_own_ e2, e3⟩
theorem t_rspans7 (s : St7 w W p q S h k pg A c A2 n2 c2 la) (hk : k ≤ 60000) (hX : Below W.heap.size W X) : Calls Tryz.prog 18 #[.agg #[.int .i64 pg, .slice A 1024 c, .slice A2 n2 c2, .int .i64 la]] X fun e w' => ∃ A c, e = .returned (.slice A (hSpans h).length c) ∧ Sn w' w'.heap.size A (hSpans h).length (hSpans h) ∧ Below X.heap.size X w' := by
  have s2 := s.below hX
  have h1 := s.st.hp.ok.p1
  have h0 := s.st.hp.ok.p0
  have h2 := s.rh.ep
  have h3 := s.rh.el
  obtain ⟨P, hP⟩ : ∃ P : Nat, pg = (P : Int) := ⟨pg.toNat, by omega⟩
  have := ref_hspans P la A A2 1024 c n2 c2 h.free h.l X s2.rh.s2 (by have := s.few hk; omega) (by omega)
  rw [show (⟨(P : Int), h.free, h.l, la⟩ : HeapV) = h by rw [← hP, ← h2, ← h3], ← hP] at this
  exact this.mono fun e w' ⟨A, c, e1, e2, e3⟩ => ⟨A, c, e1, Sn.of_own_ e2, e3⟩
theorem t_cruns7 (s : St7 w W p q S h k pg A c A2 n2 c2 la) (hX : Below W.heap.size W X) : Calls Tryz.prog 20 #[.pointer (some ⟨p, 0, none⟩)] X fun e w' => ∃ A c, e = .returned (.slice A (fList h.free).length c) ∧ Rn w' w'.heap.size A (fList h.free).length (fList h.free) ∧ Below X.heap.size X w' :=
  (t_hruns (s.st.below hX) (fList h.free) rfl).mono fun e w' ⟨A, c, e1, e2, e3⟩ => ⟨A, c, e1, Rn.of_own e2 rfl, e3⟩
theorem t_rlist7 (s : St7 w W p q S h k pg A c A2 n2 c2 la) (hX : Below W.heap.size W X) : Calls Tryz.prog 21 #[.slice A 1024 c] X fun e w' => ∃ A c, e = .returned (.slice A (fList h.free).length c) ∧ Rn w' w'.heap.size A (fList h.free).length (fList h.free) ∧ Below X.heap.size X w' :=
  (ref_flist A 1024 c h.free X (s.below hX).rh.s1 (by omega)).mono fun e w' ⟨A, c, e1, e2, e3⟩ => ⟨A, c, e1, Rn.of_own e2 rfl, e3⟩
theorem t_csize7 (s : St7 w W p q S h k pg A c A2 n2 c2 la) (hX : Below W.heap.size W X) : Calls Tryz.prog 7 #[.pointer (some ⟨p, 0, none⟩)] X fun e w' => e = .returned (.int .i64 pg) ∧ Below X.heap.size X w' := t_hsize (s.st.below hX)
end
theorem u_same7 {A A2 : Option Addr} {c c2 : Nat} {xs : List (Int × Int × Int × Int)} {W : World} {B B2 : Nat} (h1 : Sn W B A xs.length xs) (h2 : Sn W B2 A2 xs.length xs) (hn : xs.length ≤ 1000000000) :
    Calls Tryz.prog 16 #[.slice A xs.length c, .slice A2 xs.length c2] W fun e w' => e = .returned (.bool true) ∧ Below W.heap.size W w' :=
  (same_spans h1 h2 hn hn).mono fun e w' ⟨x, y⟩ => ⟨by rw [x]; simp, y⟩
theorem u_same5 {A A2 : Option Addr} {c c2 : Nat} {xs : List (Int × Int)} {W : World} {B B2 : Nat} (h1 : Rn W B A xs.length xs) (h2 : Rn W B2 A2 xs.length xs) (hn : xs.length ≤ 65536) :
    Calls Tryz.prog 19 #[.slice A xs.length c, .slice A2 xs.length c2] W fun e w' => e = .returned (.bool true) ∧ Below W.heap.size W w' :=
  (same_offH h1 h2 hn hn).mono fun e w' ⟨x, y⟩ => ⟨by rw [x]; simp, y⟩

end Go.Proofs.YtcngcibiibchiaaGreat
