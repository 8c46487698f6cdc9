/- What each call of layer 4's acts does to the two sides: the arena's words, and the document's. -/
import Derived.Test.YtpfhmccafcpflaaArenaLaws3
import Derived.Test.YtpfhmccafcpflaaArenaActs
namespace Go.Proofs.Ytpfhmccafcpflaa
open Go.RowKit
set_option linter.unusedVariables false

/-- Both sides, and the act's cells, in the midst of a round. -/
structure St (w W : World) (p g len px : Nat) (kd at' fr n : Int) (A2 : Option Addr) (len2 cap2 : Nat) (xs ms : List Nat) (Am : Option Addr) (cm : Nat) : Prop where
  ar : Ar W w.heap.size p g len xs
  row : W.ownsRow w.heap.size 40 1 (.slice Am len cm) len (ms.map wv)
  apart : (Value.slice Am len cm).ownBlock ≠ some g
  bel : Below w.heap.size w W
  x0 : W.cell? ⟨px, 0, none⟩ = some (.int .i64 kd)
  x1 : W.cell? ⟨px, 1, none⟩ = some (.int .i64 at')
  x2 : W.cell? ⟨px, 2, none⟩ = some (.int .i64 fr)
  x3 : W.cell? ⟨px, 3, none⟩ = some (.int .i64 n)
  x4 : W.cell? ⟨px, 4, none⟩ = some (.slice A2 len2 cap2)
  nx : px ≠ g
  pos : 0 < len
  kept : ∀ (A : Option Addr) (k : Nat) (ys : List Value), Sl w w.heap.size A k ys → Sl W w.heap.size A k ys

section
variable {w W W' : World} {p g len px : Nat} {kd at' fr n : Int} {A2 : Option Addr} {len2 cap2 : Nat} {xs ms xs' ms' : List Nat} {Am : Option Addr} {cm : Nat}

theorem St.below (h : St w W p g len px kd at' fr n A2 len2 cap2 xs ms Am cm) (hb : Below W.heap.size W W') : St w W' p g len px kd at' fr n A2 len2 cap2 xs ms Am cm := by
  have hx : ∀ k u, W.cell? ⟨px, k, none⟩ = some u → W'.cell? ⟨px, k, none⟩ = some u := fun k u hk => by rw [hb.cell (lt_of_cell hk)]; exact hk
  exact ⟨h.ar.below hb (Nat.le_refl _), h.row.kept (below_to_grown hb none) (by cases (Value.slice Am len cm).ownBlock <;> simp), h.apart, h.bel.trans (hb.mono h.bel.size), hx _ _ h.x0, hx _ _ h.x1, hx _ _ h.x2, hx _ _ h.x3, hx _ _ h.x4, h.nx, h.pos,
    fun A k ys hs => (h.kept A k ys hs).below (hb.mono h.bel.size)⟩
theorem St.grown (h : St w W p g len px kd at' fr n A2 len2 cap2 xs ms Am cm) (ha : Ar W' w.heap.size p g len xs') (hg : W.grownBy W' (some g)) : St w W' p g len px kd at' fr n A2 len2 cap2 xs' ms Am cm := by
  have hx : ∀ k u, W.cell? ⟨px, k, none⟩ = some u → W'.cell? ⟨px, k, none⟩ = some u := fun k u hk => hg.cell hk (fun e => h.nx (by injection e))
  have hb : Below w.heap.size W W' := (Below.refl _ _).grown hg h.bel.size (fun k hk => by cases hk; exact h.ar.geg)
  exact ⟨ha, h.row.kept hg (Or.inr h.apart), h.apart, h.bel.trans hb, hx _ _ h.x0, hx _ _ h.x1, hx _ _ h.x2, hx _ _ h.x3, hx _ _ h.x4, h.nx, h.pos, fun A k ys hs => (h.kept A k ys hs).below hb⟩
theorem St.model {A' : Option Addr} {c' : Nat} (h : St w W p g len px kd at' fr n A2 len2 cap2 xs ms Am cm) (hb : Below W.heap.size W W') (hr : W'.ownsRow W.heap.size 40 1 (.slice A' len c') len (ms'.map wv)) :
    St w W' p g len px kd at' fr n A2 len2 cap2 xs ms' A' c' := by
  have h1 := h.below hb
  have hg := h.ar.lt
  refine ⟨h1.ar, ⟨hr.1, ?_⟩, ?_, h1.bel, h1.x0, h1.x1, h1.x2, h1.x3, h1.x4, h.nx, h.pos, h1.kept⟩
  · rcases hr.2 with hn | ⟨g', cap, cur, h1, h2, h3⟩
    · exact Or.inl hn
    · exact Or.inr ⟨g', cap, cur, h1, by have := h.bel.size; omega, h3⟩
  · intro e
    have := (hr.lt _ e).1
    omega
theorem St.sl (h : St w W p g len px kd at' fr n A2 len2 cap2 xs ms Am cm) : Sl W W.heap.size Am len (ms.map wv) := Sl.of_own h.row
theorem St.hlen (h : St w W p g len px kd at' fr n A2 len2 cap2 xs ms Am cm) : ms.length = len := by have := h.row.1; simpa using this

theorem in_nat {k : Int} (h : aIn len at' k = true) : at' = (at'.toNat : Int) ∧ k = (k.toNat : Int) ∧ at'.toNat + k.toNat ≤ len := by
  have := of_decide_eq_true h; omega

theorem t_refIn (h : St w W p g len px kd at' fr n A2 len2 cap2 xs ms Am cm) (a k : Int) (h0 : in64 a) (h1 : in64 k) :
    Calls Try.prog 16 #[.slice Am len cm, .int .i64 a, .int .i64 k] W fun e w' => e = .returned (.bool (aIn len a k)) ∧ W = w' :=
  ref_ain Am len cm a k W (by have := h.ar.small; omega) h0.1 h0.2 h1.1 h1.2
theorem t_in (h : St w W p g len px kd at' fr n A2 len2 cap2 xs ms Am cm) (a k : Int) (h0 : in64 a) (h1 : in64 k) :
    Calls Try.prog 21 #[.pointer (some ⟨p, 0, none⟩), .int .i64 a, .int .i64 k] W fun e w' => e = .returned (.bool (aIn len a k)) ∧ W = w' := code_ain h.ar a k h0 h1

theorem t_refStore (h : St w W p g len px kd at' fr n A2 len2 cap2 xs ms Am cm) (a : Int) (B : Option Addr) (k c : Nat) (ys : List Nat) (hs : Sl W W.heap.size B k (ys.map wv)) (hin : aIn len a (k : Int) = true) :
    Calls Try.prog 12 #[.slice Am len cm, .int .i64 a, .slice B k c] W fun e w' => ∃ A' c', e = .returned (.tuple #[.slice A' len c', .int .i64 0]) ∧ St w w' p g len px kd at' fr n A2 len2 cap2 xs (aStore ms a.toNat ys) A' c' := by
  obtain ⟨h1, h2, h3⟩ := in_nat hin
  have hl : ys.length = k := by have := hs.1; simpa using this
  have e := aStore_length ms a.toNat ys (by rw [h.hlen]; omega)
  rw [h.hlen] at e
  have := ref_astore Am B len cm k c ms ys a.toNat W h.sl hs h.pos h.ar.small (by omega)
  rw [← h1] at this
  refine this.mono ?_
  rintro r w' ⟨A', c', rfl, hown, hb⟩
  rw [e] at hown ⊢
  exact ⟨A', c', rfl, h.model hb hown⟩
theorem t_refStore_no (h : St w W p g len px kd at' fr n A2 len2 cap2 xs ms Am cm) (a : Int) (B : Option Addr) (k c : Nat) (hk : k ≤ 4611686018427387904) (h0 : in64 a) (hin : aIn len a (k : Int) = false) :
    Calls Try.prog 12 #[.slice Am len cm, .int .i64 a, .slice B k c] W fun e w' => e = .returned (.tuple #[.slice Am len cm, .int .i64 2]) ∧ W = w' :=
  ref_astore_no Am B len cm k c a W (by have := h.ar.small; omega) hk h0.1 h0.2 hin
theorem t_refRow (h : St w W p g len px kd at' fr n A2 len2 cap2 xs ms Am cm) (a k : Int) (hin : aIn len a k = true) :
    Calls Try.prog 14 #[.slice Am len cm, .int .i64 a, .int .i64 k] W fun e w' => ∃ A' c', e = .returned (.tuple #[.slice A' k.toNat c', .int .i64 0]) ∧ Sl w' w'.heap.size A' k.toNat ((aRow ms a.toNat k.toNat).map wv) ∧ St w w' p g len px kd at' fr n A2 len2 cap2 xs ms Am cm := by
  obtain ⟨h1, h2, h3⟩ := in_nat hin
  have e := aRow_length ms a.toNat k.toNat (by rw [h.hlen]; omega)
  have := ref_arow Am len cm ms a.toNat k.toNat W h.sl h.ar.small h3
  rw [← h1, ← h2] at this
  refine this.mono ?_
  rintro r w' ⟨A', c', rfl, hown, hb⟩
  rw [e] at hown ⊢
  exact ⟨A', c', rfl, Sl.of_own hown, h.below hb⟩
theorem t_refRow_no (h : St w W p g len px kd at' fr n A2 len2 cap2 xs ms Am cm) (a k : Int) (h0 : in64 a) (h1 : in64 k) (hin : aIn len a k = false) :
    Calls Try.prog 14 #[.slice Am len cm, .int .i64 a, .int .i64 k] W fun e w' => ∃ A' c', e = .returned (.tuple #[.slice A' 0 c', .int .i64 2]) ∧ Sl w' w'.heap.size A' 0 (([] : List Nat).map wv) ∧ St w w' p g len px kd at' fr n A2 len2 cap2 xs ms Am cm := by
  refine (ref_arow_no Am len cm a k W (by have := h.ar.small; omega) h0.1 h0.2 h1.1 h1.2 hin).mono ?_
  rintro r w' ⟨A', c', rfl, hown, hb⟩
  exact ⟨A', c', rfl, Sl.of_own hown, h.below hb⟩
theorem t_store (h : St w W p g len px kd at' fr n A2 len2 cap2 xs ms Am cm) (a : Int) (B : Option Addr) (k c : Nat) (ys : List Nat) (hs : Sl W W.heap.size B k (ys.map wv)) (hin : aIn len a (k : Int) = true) :
    Calls Try.prog 13 #[.pointer (some ⟨p, 0, none⟩), .int .i64 a, .slice B k c] W fun e w' => e = .returned (.int .i64 0) ∧ St w w' p g len px kd at' fr n A2 len2 cap2 (aStore xs a.toNat ys) ms Am cm := by
  obtain ⟨h1, h2, h3⟩ := in_nat hin
  have := code_astore a.toNat B k c h.ar hs (by omega)
  rw [← h1] at this
  refine this.mono ?_
  rintro r w' ⟨rfl, ha, hg⟩
  exact ⟨rfl, h.grown ha hg⟩
theorem t_words (h : St w W p g len px kd at' fr n A2 len2 cap2 xs ms Am cm) : Calls Try.prog 11 #[.pointer (some ⟨p, 0, none⟩)] (eCell W) fun e w' => e = .returned (.int .i64 (len : Int)) ∧ eCell W = w' :=
  code_awords p _ _ _ _ (h.ar.alloc _).cell
theorem t_store_no (h : St w W p g len px kd at' fr n A2 len2 cap2 xs ms Am cm) (a : Int) (B : Option Addr) (k c : Nat) (hk : k ≤ 9223372036854775807) (h0 : in64 a) (hin : aIn len a (k : Int) = false) :
    Calls Try.prog 13 #[.pointer (some ⟨p, 0, none⟩), .int .i64 a, .slice B k c] W fun e w' => e = .returned (.int .i64 2) ∧ St w w' p g len px kd at' fr n A2 len2 cap2 xs ms Am cm := by
  refine (code_astore_no _ len a B k c W h.ar.small hk (t_words h) h0 hin).mono ?_
  rintro r w' ⟨rfl, hb⟩
  exact ⟨rfl, h.below hb⟩
theorem t_zero (h : St w W p g len px kd at' fr n A2 len2 cap2 xs ms Am cm) (a k : Int) (hin : aIn len a k = true) :
    Calls Try.prog 17 #[.pointer (some ⟨p, 0, none⟩), .int .i64 a, .int .i64 k] W fun e w' => e = .returned (.int .i64 0) ∧ St w w' p g len px kd at' fr n A2 len2 cap2 (aStore xs a.toNat (List.replicate k.toNat 0)) ms Am cm := by
  obtain ⟨h1, h2, h3⟩ := in_nat hin
  have := code_azero a.toNat k.toNat h.ar (by omega)
  rw [← h1, ← h2] at this
  refine this.mono ?_
  rintro r w' ⟨rfl, ha, hg⟩
  exact ⟨rfl, h.grown ha hg⟩
theorem t_zero_no (h : St w W p g len px kd at' fr n A2 len2 cap2 xs ms Am cm) (a k : Int) (h0 : in64 a) (h1 : in64 k) (hin : aIn len a k = false) :
    Calls Try.prog 17 #[.pointer (some ⟨p, 0, none⟩), .int .i64 a, .int .i64 k] W fun e w' => e = .returned (.int .i64 2) ∧ St w w' p g len px kd at' fr n A2 len2 cap2 xs ms Am cm := by
  refine (code_azero_no _ len a k W h.ar.small (t_words h) h0 h1 hin).mono ?_
  rintro r w' ⟨rfl, hb⟩
  exact ⟨rfl, h.below hb⟩
theorem t_move (h : St w W p g len px kd at' fr n A2 len2 cap2 xs ms Am cm) (a b k : Int) (hin : aIn len a k = true) (hin2 : aIn len b k = true) :
    Calls Try.prog 15 #[.pointer (some ⟨p, 0, none⟩), .int .i64 a, .int .i64 b, .int .i64 k] W fun e w' => e = .returned (.int .i64 0) ∧ St w w' p g len px kd at' fr n A2 len2 cap2 (aStore xs a.toNat (aRow xs b.toNat k.toNat)) ms Am cm := by
  obtain ⟨h1, h2, h3⟩ := in_nat hin
  obtain ⟨h4, _, h5⟩ := in_nat hin2
  have := code_amove a.toNat b.toNat k.toNat h.ar (by omega) (by omega)
  rw [← h1, ← h2, ← h4] at this
  refine this.mono ?_
  rintro r w' ⟨rfl, ha, hg⟩
  exact ⟨rfl, h.grown ha hg⟩
theorem t_move_no (h : St w W p g len px kd at' fr n A2 len2 cap2 xs ms Am cm) (a b k : Int) (h0 : in64 a) (h1 : in64 b) (h2 : in64 k) (hin : aIn len a k = false ∨ aIn len b k = false) :
    Calls Try.prog 15 #[.pointer (some ⟨p, 0, none⟩), .int .i64 a, .int .i64 b, .int .i64 k] W fun e w' => e = .returned (.int .i64 2) ∧ St w w' p g len px kd at' fr n A2 len2 cap2 xs ms Am cm := by
  cases hi : aIn len a k with
  | false =>
    refine (code_amove_no _ len a b k W h.ar.small (t_words h) h0 h2 hi).mono ?_
    rintro r w' ⟨rfl, hb⟩
    exact ⟨rfl, h.below hb⟩
  | true =>
    obtain ⟨h3, h4, h5⟩ := in_nat hi
    have hj : aIn len b k = false := by rcases hin with hin | hin; · rw [hi] at hin; cases hin
                                        · exact hin
    have := code_amove_no2 a.toNat k.toNat b h.ar h5 h1 (by rw [← h4]; exact hj)
    rw [← h3, ← h4] at this
    refine this.mono ?_
    rintro r w' ⟨rfl, hb⟩
    exact ⟨rfl, h.below hb⟩
theorem t_load (h : St w W p g len px kd at' fr n A2 len2 cap2 xs ms Am cm) (a : Int) (hin : aIn len a 1 = true) :
    Calls Try.prog 18 #[.pointer (some ⟨p, 0, none⟩), .int .i64 a] W fun e w' => e = .returned (.tuple #[.int .u64 (xs.getD a.toNat 0 : Int), .int .i64 0]) ∧ St w w' p g len px kd at' fr n A2 len2 cap2 xs ms Am cm ∧ Below W.heap.size W w' := by
  obtain ⟨h1, h2, h3⟩ := in_nat hin
  have hl := h.ar.hlen
  have h4 : a.toNat < xs.length := by omega
  have := code_aload a.toNat xs[a.toNat] h.ar (List.getElem?_eq_getElem h4)
  rw [← h1] at this
  refine this.mono ?_
  rintro r w' ⟨rfl, hb⟩
  refine ⟨?_, h.below hb, hb⟩
  rw [List.getD_eq_getElem?_getD, List.getElem?_eq_getElem h4]; rfl
theorem t_load_no (h : St w W p g len px kd at' fr n A2 len2 cap2 xs ms Am cm) (a : Int) (h0 : in64 a) (hin : aIn len a 1 = false) :
    Calls Try.prog 18 #[.pointer (some ⟨p, 0, none⟩), .int .i64 a] W fun e w' => e = .returned (.tuple #[.int .u64 0, .int .i64 2]) ∧ St w w' p g len px kd at' fr n A2 len2 cap2 xs ms Am cm := by
  refine (code_aload_no _ len a W h.ar.small (t_words h) h0 hin).mono ?_
  rintro r w' ⟨rfl, hb⟩
  exact ⟨rfl, h.below hb⟩
theorem t_row (h : St w W p g len px kd at' fr n A2 len2 cap2 xs ms Am cm) (a k : Int) (hin : aIn len a k = true) :
    Calls Try.prog 19 #[.pointer (some ⟨p, 0, none⟩), .int .i64 a, .int .i64 k] W fun e w' => ∃ A' c', e = .returned (.tuple #[.slice A' k.toNat c', .int .i64 0]) ∧ w'.ownsRow W.heap.size 40 1 (.slice A' k.toNat c') k.toNat ((aRow xs a.toNat k.toNat).map wv) ∧ Below W.heap.size W w' := by
  obtain ⟨h1, h2, h3⟩ := in_nat hin
  have e := aRow_length xs a.toNat k.toNat (by rw [h.ar.hlen]; omega)
  have := code_arow_ok a.toNat k.toNat h.ar h3
  rw [← h1, ← h2] at this
  unfold OwnWNo at this
  rw [e] at this
  exact this
theorem t_row_no (h : St w W p g len px kd at' fr n A2 len2 cap2 xs ms Am cm) (a k : Int) (h0 : in64 a) (h1 : in64 k) (hin : aIn len a k = false) :
    Calls Try.prog 19 #[.pointer (some ⟨p, 0, none⟩), .int .i64 a, .int .i64 k] W fun e w' => ∃ A' c', e = .returned (.tuple #[.slice A' 0 c', .int .i64 2]) ∧ w'.ownsRow W.heap.size 40 1 (.slice A' 0 c') 0 (([] : List Nat).map wv) ∧ Below W.heap.size W w' := by
  refine (code_arow_no _ len a k W h.ar.small (t_words h) h0 h1 hin).mono ?_
  rintro r w' ⟨A', c', rfl, hown, hb⟩
  exact ⟨A', c', rfl, hown, hb⟩
end

end Go.Proofs.Ytpfhmccafcpflaa
