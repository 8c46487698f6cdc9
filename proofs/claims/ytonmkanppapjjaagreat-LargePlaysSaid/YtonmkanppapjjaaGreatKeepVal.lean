/- The value of the document's own keeper of large stacks, and how it stays while other blocks are written. -/
import Derived.Test.YtonmkanppapjjaaGreatLargeFns
namespace Go.Proofs.YtonmkanppapjjaaGreat
open Go.RowKit
set_option linter.unusedVariables false

def kval (pg : Int) (A : Option Addr) (n c : Nat) (A2 : Option Addr) (n2 c2 : Nat) (la : Int) (A3 : Option Addr) (n3 c3 : Nat) (A4 : Option Addr) (n4 c4 : Nat) (held : Bool) : Value :=
  .agg #[.int .i64 pg, .slice A n c, .slice A2 n2 c2, .int .i64 la, .slice A3 n3 c3, .slice A4 n4 c4, .bool held]

/-- A row of spans of the document's own, in blocks of this kind. -/
structure SpRow (w : World) (P : Nat → Prop) (A : Option Addr) (n c : Nat) (l : List Spn) : Prop where
  row : Sn w w.heap.size A n l
  inp : InP P A
  cap : n ≤ c ∧ c ≤ 9223372036854775807 ∧ (A = none → c = 0)
  lt : InP (· < w.heap.size) A
structure Ko (w : World) (P : Nat → Prop) (q : LargeV) (A : Option Addr) (n c : Nat) (A2 : Option Addr) (n2 c2 : Nat) (A3 : Option Addr) (n3 c3 : Nat) (A4 : Option Addr) (n4 c4 : Nat) : Prop where
  hi : HIs w P q.h (hval q.h.pages A n c A2 n2 c2 q.h.last)
  kr : SpRow w P A3 n3 c3 q.kept
  wr : SpRow w P A4 n4 c4 q.waits
/-- The value of a keeper of the document's own. -/
def KoIs (w : World) (P : Nat → Prop) (q : LargeV) (v : Value) : Prop := ∃ A n c A2 n2 c2 A3 n3 c3 A4 n4 c4, v = kval q.h.pages A n c A2 n2 c2 q.h.last A3 n3 c3 A4 n4 c4 q.held ∧ Ko w P q A n c A2 n2 c2 A3 n3 c3 A4 n4 c4

section
variable {w w' : World} {P P' T : Nat → Prop}
theorem Sn.keptT {A : Option Addr} {n : Nat} {l : List Spn} (h : Sn w w.heap.size A n l) (hK : Kept T w w') (hn : ∀ a, A = some a → ¬ T a.block) : Sn w' w'.heap.size A n l := by
  refine ⟨h.1, fun hn' => ?_⟩
  obtain ⟨b, off, e, hb, hc⟩ := h.2 hn'
  refine ⟨b, off, e, Nat.lt_of_lt_of_le hb hK.size, fun j y hj => ?_⟩
  obtain ⟨cs, h1, h2, h3⟩ := hc j y hj
  exact ⟨cs, h1, fun k hk => (hK.cell (a := ⟨b, off + j * 4 + k, none⟩) hb (show ¬ T b from hn ⟨b, off, none⟩ e)).trans (h2 k hk), h3⟩
section
variable {A : Option Addr} {n c : Nat} {l : List Spn}
theorem SpRow.kept (h : SpRow w P A n c l) (hK : Kept T w w') (hn : ∀ b, P b → ¬ T b) : SpRow w' P A n c l :=
  ⟨h.row.keptT hK fun a e => hn _ (h.inp a e), h.inp, h.cap, fun a e => Nat.lt_of_lt_of_le (h.lt a e) hK.size⟩
theorem SpRow.weaken (h : SpRow w P A n c l) (hp : ∀ b, P b → P' b) : SpRow w P' A n c l := ⟨h.row, fun a e => hp _ (h.inp a e), h.cap, h.lt⟩
theorem SpRow.apart (h : SpRow w P A n c l) : SpRow w (fun x => P x ∧ x < w.heap.size) A n c l := ⟨h.row, fun a e => ⟨h.inp a e, h.lt a e⟩, h.cap, h.lt⟩
theorem SpRow.none_ : SpRow w P none 0 0 [] := ⟨RowOf.nil_, InP.none_, ⟨Nat.le_refl _, by omega, fun _ => rfl⟩, InP.none_⟩
theorem SpRow.of_own {base : Nat} (h : w.ownsRow base 50 4 (.slice A n c) n (cellsAll scells l)) (hl : l.length = n) (hP : ∀ b, base ≤ b → b < w.heap.size → P b) : SpRow w P A n c l :=
  ⟨RowOf.of_own scells_len h hl, fun a e => by
    have := h.lt a.block (by rw [e]; rfl)
    exact hP _ this.1 this.2, own_caps4 h, fun a e => (h.lt a.block (by rw [e]; rfl)).2⟩
end
section
variable {h : HeapV} {v : Value}
theorem HIs.keptT (hv : HIs w P h v) (hK : Kept T w w') (hn : ∀ b, P b → ¬ T b) : HIs w' P h v := by
  obtain ⟨A, c, A2, c2, e, h1, h2, h3, h4, h5, h6, h7, h8, h9, h10, h11⟩ := hv
  exact ⟨A, c, A2, c2, e, h1, h2, h3, Sl.kept (B := 0) h4 hK fun a e => hn _ (h9 a e), h5, h6, h7, Sn.keptT h8 hK fun a e => hn _ (h10 a e), h9, h10, fun a ha => Nat.lt_of_lt_of_le (h11 a ha) hK.size⟩
theorem HIs.weak (hv : HIs w P h v) (hp : ∀ b, P b → P' b) : HIs w P' h v := by
  obtain ⟨A, c, A2, c2, e, h1, h2, h3, h4, h5, h6, h7, h8, h9, h10, h11⟩ := hv
  exact ⟨A, c, A2, c2, e, h1, h2, h3, h4, h5, h6, h7, h8, fun a ha => hp _ (h9 a ha), fun a ha => hp _ (h10 a ha), h11⟩
theorem HIs.apart_ (hv : HIs w P h v) (h0 : 0 < h.free.length) : HIs w (fun x => P x ∧ x < w.heap.size) h v := by
  obtain ⟨A, c, A2, c2, e, h1, h2, h3, h4, h5, h6, h7, h8, h9, h10, h11⟩ := hv
  refine ⟨A, c, A2, c2, e, h1, h2, h3, h4, h5, h6, h7, h8, fun a ha => ⟨h9 a ha, ?_⟩, fun a ha => ⟨h10 a ha, h11 a ha⟩, h11⟩
  obtain ⟨b, off, e2, hb, _⟩ := h4.2 h0
  rw [ha] at e2
  injection e2 with e2
  rw [e2]
  exact hb
/-- The cells of its value. -/
theorem HIs.parts_ {pg la : Int} {A A2 : Option Addr} {n c n2 c2 : Nat} (hv : HIs w P h (hval pg A n c A2 n2 c2 la)) :
    (h.pages = pg ∧ h.free.length = n ∧ h.l.length = n2 ∧ h.last = la) ∧ Sl w w.heap.size A n (h.free.map bv) ∧ Sn w w.heap.size A2 n2 h.l := by
  obtain ⟨B, d, B2, d2, e, h1, h2, h3, h4, h5, h6, h7, h8, _⟩ := hv
  unfold hval at e
  simp only [Value.agg.injEq, Array.mk.injEq, List.cons.injEq, Value.int.injEq, Value.slice.injEq, true_and, and_true] at e
  obtain ⟨rfl, ⟨rfl, rfl, rfl⟩, ⟨rfl, rfl, rfl⟩, rfl⟩ := e
  exact ⟨⟨rfl, rfl, rfl, rfl⟩, h4, h8⟩
end
section
variable {q : LargeV} {v : Value} {A A2 A3 A4 : Option Addr} {n c n2 c2 n3 c3 n4 c4 : Nat}
theorem Ko.kept (k : Ko w P q A n c A2 n2 c2 A3 n3 c3 A4 n4 c4) (hK : Kept T w w') (hn : ∀ b, P b → ¬ T b) : Ko w' P q A n c A2 n2 c2 A3 n3 c3 A4 n4 c4 := ⟨k.hi.keptT hK hn, k.kr.kept hK hn, k.wr.kept hK hn⟩
theorem Ko.below (k : Ko w P q A n c A2 n2 c2 A3 n3 c3 A4 n4 c4) (hb : Below w.heap.size w w') : Ko w' P q A n c A2 n2 c2 A3 n3 c3 A4 n4 c4 := k.kept (Kept.of_below hb (fun _ => False)) fun _ _ => id
theorem Ko.weaken (k : Ko w P q A n c A2 n2 c2 A3 n3 c3 A4 n4 c4) (hp : ∀ b, P b → P' b) : Ko w P' q A n c A2 n2 c2 A3 n3 c3 A4 n4 c4 := ⟨k.hi.weak hp, k.kr.weaken hp, k.wr.weaken hp⟩
theorem Ko.apart (k : Ko w P q A n c A2 n2 c2 A3 n3 c3 A4 n4 c4) (h0 : 0 < q.h.free.length) : Ko w (fun x => P x ∧ x < w.heap.size) q A n c A2 n2 c2 A3 n3 c3 A4 n4 c4 := ⟨k.hi.apart_ h0, k.kr.apart, k.wr.apart⟩
theorem Ko.aside (k : Ko w P q A n c A2 n2 c2 A3 n3 c3 A4 n4 c4) {b : Nat} (hb : ¬ P b) (j : Nat) (u : Value) : Ko (w.setCell ⟨b, j, none⟩ u) P q A n c A2 n2 c2 A3 n3 c3 A4 n4 c4 :=
  k.kept ((Kept.refl (fun x => x = b) w).set (a := ⟨b, j, none⟩) (Or.inl rfl) u) fun x hx e => hb (e ▸ hx)
theorem Ko.isv (k : Ko w P q A n c A2 n2 c2 A3 n3 c3 A4 n4 c4) : KoIs w P q (kval q.h.pages A n c A2 n2 c2 q.h.last A3 n3 c3 A4 n4 c4 q.held) := ⟨_, _, _, _, _, _, _, _, _, _, _, _, rfl, k⟩
theorem Ko.l3 (k : Ko w P q A n c A2 n2 c2 A3 n3 c3 A4 n4 c4) : q.kept.length = n3 := k.kr.row.1
theorem Ko.l4 (k : Ko w P q A n c A2 n2 c2 A3 n3 c3 A4 n4 c4) : q.waits.length = n4 := k.wr.row.1
theorem KoIs.kept (k : KoIs w P q v) (hK : Kept T w w') (hn : ∀ b, P b → ¬ T b) : KoIs w' P q v := by
  obtain ⟨A, n, c, A2, n2, c2, A3, n3, c3, A4, n4, c4, e, k⟩ := k
  exact ⟨A, n, c, A2, n2, c2, A3, n3, c3, A4, n4, c4, e, k.kept hK hn⟩
theorem KoIs.below (k : KoIs w P q v) (hb : Below w.heap.size w w') : KoIs w' P q v := k.kept (Kept.of_below hb (fun _ => False)) fun _ _ => id
theorem KoIs.weaken (k : KoIs w P q v) (hp : ∀ b, P b → P' b) : KoIs w P' q v := by
  obtain ⟨A, n, c, A2, n2, c2, A3, n3, c3, A4, n4, c4, e, k⟩ := k
  exact ⟨A, n, c, A2, n2, c2, A3, n3, c3, A4, n4, c4, e, k.weaken hp⟩
theorem KoIs.apart (k : KoIs w P q v) (h0 : 0 < q.h.free.length) : KoIs w (fun x => P x ∧ x < w.heap.size) q v := by
  obtain ⟨A, n, c, A2, n2, c2, A3, n3, c3, A4, n4, c4, e, k⟩ := k
  exact ⟨A, n, c, A2, n2, c2, A3, n3, c3, A4, n4, c4, e, k.apart h0⟩
theorem KoIs.aside (k : KoIs w P q v) {b : Nat} (hb : ¬ P b) (j : Nat) (u : Value) : KoIs (w.setCell ⟨b, j, none⟩ u) P q v :=
  k.kept ((Kept.refl (fun x => x = b) w).set (a := ⟨b, j, none⟩) (Or.inl rfl) u) fun x hx e => hb (e ▸ hx)
end
end
/-- Seven cells of a block are written. -/
def set7 (W : World) (b : Nat) (u0 u1 u2 u3 u4 u5 u6 : Value) : World := ((((((W.setCell ⟨b, 0, none⟩ u0).setCell ⟨b, 1, none⟩ u1).setCell ⟨b, 2, none⟩ u2).setCell ⟨b, 3, none⟩ u3).setCell ⟨b, 4, none⟩ u4).setCell ⟨b, 5, none⟩ u5).setCell ⟨b, 6, none⟩ u6
theorem kept_set7 {T : Nat → Prop} {w W : World} (h : Kept T w W) {b : Nat} (hb : T b ∨ w.heap.size ≤ b) (u0 u1 u2 u3 u4 u5 u6 : Value) : Kept T w (set7 W b u0 u1 u2 u3 u4 u5 u6) :=
  ((((((h.set (a := ⟨b, 0, none⟩) hb u0).set (a := ⟨b, 1, none⟩) hb u1).set (a := ⟨b, 2, none⟩) hb u2).set (a := ⟨b, 3, none⟩) hb u3).set (a := ⟨b, 4, none⟩) hb u4).set (a := ⟨b, 5, none⟩) hb u5).set (a := ⟨b, 6, none⟩) hb u6
theorem below_set7 {B : Nat} {w W : World} (h : Below B w W) {b : Nat} (hb : B ≤ b) (u0 u1 u2 u3 u4 u5 u6 : Value) : Below B w (set7 W b u0 u1 u2 u3 u4 u5 u6) :=
  ((((((h.setCell (p := ⟨b, 0, none⟩) hb _).setCell (p := ⟨b, 1, none⟩) hb _).setCell (p := ⟨b, 2, none⟩) hb _).setCell (p := ⟨b, 3, none⟩) hb _).setCell (p := ⟨b, 4, none⟩) hb _).setCell (p := ⟨b, 5, none⟩) hb _).setCell (p := ⟨b, 6, none⟩) hb _
/-- A block's seven cells, none frozen. -/
def F7 (W : World) (b : Nat) (u0 u1 u2 u3 u4 u5 u6 : Value) : Prop :=
  W.cell? ⟨b, 0, none⟩ = some u0 ∧ W.cell? ⟨b, 1, none⟩ = some u1 ∧ W.cell? ⟨b, 2, none⟩ = some u2 ∧ W.cell? ⟨b, 3, none⟩ = some u3 ∧ W.cell? ⟨b, 4, none⟩ = some u4 ∧ W.cell? ⟨b, 5, none⟩ = some u5 ∧ W.cell? ⟨b, 6, none⟩ = some u6 ∧ ∀ j, W.frozen? ⟨b, j, none⟩ = false
section
variable {W W' : World} {b : Nat} {x0 x1 x2 x3 x4 x5 x6 : Value}
theorem F7.lt (h : F7 W b x0 x1 x2 x3 x4 x5 x6) : b < W.heap.size := lt_of_cell h.1
theorem F7.same (h : F7 W b x0 x1 x2 x3 x4 x5 x6) (hb : W'.heap[b]? = W.heap[b]?) : F7 W' b x0 x1 x2 x3 x4 x5 x6 := by
  obtain ⟨h0, h1, h2, h3, h4, h5, h6, hf⟩ := h
  have q : ∀ j, W'.cell? ⟨b, j, none⟩ = W.cell? ⟨b, j, none⟩ := fun j => World.cell?_of_block (w := W) (a := ⟨b, j, none⟩) hb
  exact ⟨(q 0).trans h0, (q 1).trans h1, (q 2).trans h2, (q 3).trans h3, (q 4).trans h4, (q 5).trans h5, (q 6).trans h6, fun j => (World.frozen?_of_block (w := W) (a := ⟨b, j, none⟩) hb).trans (hf j)⟩
theorem F7.kept {T : Nat → Prop} (h : F7 W b x0 x1 x2 x3 x4 x5 x6) (hK : Kept T W W') (hn : ¬ T b) : F7 W' b x0 x1 x2 x3 x4 x5 x6 := h.same (hK.block b h.lt hn)
theorem F7.below (h : F7 W b x0 x1 x2 x3 x4 x5 x6) (hb : Below W.heap.size W W') : F7 W' b x0 x1 x2 x3 x4 x5 x6 := h.same (hb.block b h.lt)
theorem F7.made (W : World) (u0 u1 u2 u3 u4 u5 u6 : Value) (t : TypeId) : F7 (W.alloc (.cells #[u0, u1, u2, u3, u4, u5, u6] t)) W.heap.size u0 u1 u2 u3 u4 u5 u6 :=
  ⟨World.cell?_alloc_at _ _ _ 0 (by simp), World.cell?_alloc_at _ _ _ 1 (by simp), World.cell?_alloc_at _ _ _ 2 (by simp), World.cell?_alloc_at _ _ _ 3 (by simp), World.cell?_alloc_at _ _ _ 4 (by simp), World.cell?_alloc_at _ _ _ 5 (by simp), World.cell?_alloc_at _ _ _ 6 (by simp), fun j => frozen_new _ _ _ j⟩
theorem F7.put (h : F7 W b x0 x1 x2 x3 x4 x5 x6) (u0 u1 u2 u3 u4 u5 u6 : Value) : F7 (set7 W b u0 u1 u2 u3 u4 u5 u6) b u0 u1 u2 u3 u4 u5 u6 := by
  obtain ⟨h0, h1, h2, h3, h4, h5, h6, hf⟩ := h
  have o : ∀ (X : World) (i j : Nat) (v : Value), i ≠ j → (X.setCell ⟨b, i, none⟩ v).cell? ⟨b, j, none⟩ = X.cell? ⟨b, j, none⟩ := fun X i j v hij => World.cell?_setCell_other X _ _ _ (fun e => hij (by injection e))
  have s : ∀ (X : World) (i : Nat) (u x : Value), X.cell? ⟨b, i, none⟩ = some x → (X.setCell ⟨b, i, none⟩ u).cell? ⟨b, i, none⟩ = some u := fun X i u x h => World.cell?_setCell_same _ _ _ h
  unfold set7
  refine ⟨?_, ?_, ?_, ?_, ?_, ?_, ?_, fun j => ?_⟩
  · rw [o _ _ _ _ (by decide), o _ _ _ _ (by decide), o _ _ _ _ (by decide), o _ _ _ _ (by decide), o _ _ _ _ (by decide), o _ _ _ _ (by decide)]
    exact s _ _ _ _ h0
  · rw [o _ _ _ _ (by decide), o _ _ _ _ (by decide), o _ _ _ _ (by decide), o _ _ _ _ (by decide), o _ _ _ _ (by decide)]
    exact s _ _ _ _ (by rw [o _ _ _ _ (by decide)]; exact h1)
  · rw [o _ _ _ _ (by decide), o _ _ _ _ (by decide), o _ _ _ _ (by decide), o _ _ _ _ (by decide)]
    exact s _ _ _ _ (by rw [o _ _ _ _ (by decide), o _ _ _ _ (by decide)]; exact h2)
  · rw [o _ _ _ _ (by decide), o _ _ _ _ (by decide), o _ _ _ _ (by decide)]
    exact s _ _ _ _ (by rw [o _ _ _ _ (by decide), o _ _ _ _ (by decide), o _ _ _ _ (by decide)]; exact h3)
  · rw [o _ _ _ _ (by decide), o _ _ _ _ (by decide)]
    exact s _ _ _ _ (by rw [o _ _ _ _ (by decide), o _ _ _ _ (by decide), o _ _ _ _ (by decide), o _ _ _ _ (by decide)]; exact h4)
  · rw [o _ _ _ _ (by decide)]
    exact s _ _ _ _ (by rw [o _ _ _ _ (by decide), o _ _ _ _ (by decide), o _ _ _ _ (by decide), o _ _ _ _ (by decide), o _ _ _ _ (by decide)]; exact h5)
  · exact s _ _ _ _ (by rw [o _ _ _ _ (by decide), o _ _ _ _ (by decide), o _ _ _ _ (by decide), o _ _ _ _ (by decide), o _ _ _ _ (by decide), o _ _ _ _ (by decide)]; exact h6)
  · simp only [World.frozen?_setCell]; exact hf j
end

end Go.Proofs.YtonmkanppapjjaaGreat
