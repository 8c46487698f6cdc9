/- Words for rows of structs of any number of one-cell parts, that came in or that a call made. No program is named here. -/
import Derived.Test.YtbihliaeidpfaaaRowInts
import Derived.Test.YtbihliaeidpfaaaReads
import Derived.Laws.AppendOwnNone
namespace Go.Proofs.Ytbihliaeidpfaaa
open Go.RowKit
set_option linter.unusedVariables false

section
variable {E : Type} {R : List Value → E → Prop} {s : Nat} {w w' : World} {B B' n : Nat} {A : Option Addr} {l : List E}
theorem RowOf.nil_ : RowOf R s w B A 0 ([] : List E) := ⟨rfl, fun h => absurd h (by omega)⟩
theorem RowOf.keep (h : RowOf R s w B A n l) (hk : ∀ p : Addr, p.block < B → w'.cell? p = w.cell? p) : RowOf R s w' B A n l :=
  ⟨h.1, fun hn => by
    obtain ⟨b, off, e, hb, hc⟩ := h.2 hn
    refine ⟨b, off, e, hb, fun j y hj => ?_⟩
    obtain ⟨cs, h1, h2, h3⟩ := hc j y hj
    exact ⟨cs, h1, fun k hk2 => (hk ⟨b, _, none⟩ hb).trans (h2 k hk2), h3⟩⟩
theorem RowOf.more (h : RowOf R s w B A n l) (hB : B ≤ B') : RowOf R s w B' A n l :=
  ⟨h.1, fun hn => by
    obtain ⟨b, off, e, hb, hc⟩ := h.2 hn
    exact ⟨b, off, e, by omega, hc⟩⟩
theorem RowOf.below (h : RowOf R s w B A n l) (hb : Below B w w') : RowOf R s w' B A n l := h.keep fun _ hp => hb.cell hp
theorem RowOf.drewN (h : RowOf R s w B A n l) (k : Nat) : RowOf R s (w.drewN k) B A n l := h
theorem RowOf.alloc (h : RowOf R s w B A n l) (hB : B ≤ w.heap.size) (o : Obj) : RowOf R s (w.alloc o) B A n l := h.keep fun p hp => World.cell?_alloc_lt w o p (by omega)
theorem RowOf.setCell (h : RowOf R s w B A n l) {p : Addr} (hB : B ≤ p.block) (u : Value) : RowOf R s (w.setCell p u) B A n l :=
  h.keep fun q hq => World.cell?_setCell_other w p q u (fun e => by subst e; omega)
end

theorem lt_of_cell' {w : World} {p : Addr} {v : Value} (h : w.cell? p = some v) : p.block < w.heap.size := by
  refine Nat.not_le.1 fun c => ?_
  unfold World.cell? at h
  rw [Array.getElem?_eq_none c] at h
  simp at h
/-- The cells of structs, one behind the other. -/
def cellsAll {E : Type} (f : E → List Value) (l : List E) : List Value := l.flatMap f
section
variable {E : Type} {f : E → List Value} {s : Nat}
theorem cellsAll_length (hf : ∀ y, (f y).length = s) : ∀ l : List E, (cellsAll f l).length = l.length * s
  | [] => by simp [cellsAll]
  | y :: l => by
    have ih := cellsAll_length hf l
    have e : cellsAll f (y :: l) = f y ++ cellsAll f l := rfl
    rw [e, List.length_append, ih, hf, List.length_cons, Nat.add_mul]; omega
theorem cellsAll_append (a b : List E) : cellsAll f (a ++ b) = cellsAll f a ++ cellsAll f b := by unfold cellsAll; rw [List.flatMap_append]
theorem cellsAll_one (y : E) : cellsAll f [y] = f y := by simp [cellsAll]
theorem cellsAll_at (hf : ∀ y, (f y).length = s) : ∀ (l : List E) (j : Nat) (y : E), l[j]? = some y → ∀ k, k < s → (cellsAll f l)[j * s + k]? = (f y)[k]?
  | [], j, y, h, _, _ => by simp at h
  | x :: l, 0, y, h, k, hk => by
    obtain rfl : x = y := by simpa using h
    have e : cellsAll f (x :: l) = f x ++ cellsAll f l := rfl
    rw [e, Nat.zero_mul, Nat.zero_add, List.getElem?_append_left (by rw [hf]; exact hk)]
  | x :: l, j + 1, y, h, k, hk => by
    have ih := cellsAll_at hf l j y (by simpa using h) k hk
    have e : cellsAll f (x :: l) = f x ++ cellsAll f l := rfl
    have e2 : (j + 1) * s + k = s + (j * s + k) := by rw [Nat.add_mul]; omega
    rw [e, e2, List.getElem?_append_right (by rw [hf]; omega), hf, show s + (j * s + k) - s = j * s + k by omega]
    exact ih
/-- A row of the call's own. -/
theorem RowOf.of_own {w : World} {base : Nat} {e : TypeId} {A : Option Addr} {n c : Nat} {l : List E} (hf : ∀ y, (f y).length = s) (h : w.ownsRow base e s (.slice A n c) n (cellsAll f l)) (hl : l.length = n) :
    RowOf (fun cs y => cs = f y) s w w.heap.size A n l := by
  refine ⟨hl, fun hn => ?_⟩
  rcases h.2 with ⟨_, h0⟩ | ⟨g, cap, cur, hv, _, hg, hnc, _, hcs, htake⟩
  · omega
  · have hA : A = some ⟨g, 0, none⟩ := by injection hv
    subst hA
    have hglt : g < w.heap.size := (Array.getElem?_eq_some_iff.1 hg).1
    have key : ∀ i u, (cellsAll f l)[i]? = some u → w.cell? ⟨g, i, none⟩ = some u := fun i u hu => by
      rw [cell_of_row w g i cur e (0, 0) hg]
      rw [← htake, List.getElem?_take] at hu
      split at hu
      · simpa using hu
      · cases hu
    refine ⟨g, 0, rfl, hglt, fun j y hj => ⟨f y, hf y, fun k hk => ?_, rfl⟩⟩
    have h1 := cellsAll_at hf l j y hj k hk
    rw [Nat.zero_add]
    obtain ⟨u, hu⟩ : ∃ u, (f y)[k]? = some u := ⟨_, List.getElem?_eq_getElem (by rw [hf]; exact hk)⟩
    rw [hu] at h1 ⊢
    exact key _ _ h1
end

/-- append of one struct, that the call has just laid into a block of its own, onto a row of the call's own. -/
theorem wpList_append_struct {P : Program} (w : World) {ops : Array Oper} {rest : List Oper} {o : Oper} {a : Act} {Q : Exit → Act → World → Prop} (hgd : o.guard = none) (s x : Operand) (t : TypeId)
    (ho : o.op = .call { callee := .builtin .append, args := #[s, x], argTypes := #[t, t] })
    (base : Nat) (e : TypeId) (i : TypeInfo) (z : Value) (size bytes : Nat) (ht : P.underlying t = some (.slice e)) (hi : P.info? e = some i) (hz : i.zero = some z)
    (hsize : i.size = size) (hby : i.bytes = bytes) (hzs : z.cells.size = size) (hsz : 0 < size)
    (v : Value) (n : Nat) (xs : List Value) (hs : a.eval s = v) (hown : w.ownsRow base e size v n xs) (hbase : base ≤ w.heap.size)
    (cs : Array Value) (hcs : cs.size = size) (hone : ∀ u ∈ cs.toList, u.oneCell' = true) (te : TypeId) (hx : a.eval x = .slice (some ⟨w.heap.size, 0, none⟩) 1 1) (h63 : n + 1 ≤ maxLen) (hbytes : (n + 1) * bytes ≤ 140737488355328)
    (h : ∀ v' w', w'.ownsRow base e size v' (n + 1) (xs ++ cs.toList) → Below base w w' → wpList P ops Q rest (a.put o.dst v') w') : wpList P ops Q (o :: rest) a (w.alloc (.cells cs te)) := by
  refine wpList_append_own (w.alloc (.cells cs te)) hgd s x t ho base e i z size bytes ht hi hz hsize hby hzs hsz v n xs hs (hown.alloc _) ⟨w.heap.size, 0, none⟩ 1 1 cs.toList hx (by rw [Array.length_toList, hcs, Nat.one_mul]) ?_ hone h63 hbytes ?_ ?_
  · intro j u hj
    rw [Go.WideShapes.add_plain]
    have hg : (w.alloc (.cells cs te)).heap[w.heap.size]? = some (.cells cs te (0, 0)) := by
      show (w.heap.push _)[w.heap.size]? = _
      simp
    rw [cell_of_row _ _ _ cs te (0, 0) hg]
    simpa using hj
  · simp; omega
  · intro v' w' h1 h2 _
    refine h v' w' h1 ?_
    refine ((Below.refl base w).alloc hbase _).grown h2 (by simp; omega) (fun k hk => (hown.lt k hk).1)

/-- append of a whole row, that came in or that a call made, nil and empty ones too, onto a row of the call's own. -/
theorem wpList_append_row {P : Program} (w : World) {ops : Array Oper} {rest : List Oper} {o : Oper} {a : Act} {Q : Exit → Act → World → Prop} (hgd : o.guard = none) (s x : Operand) (t : TypeId)
    (ho : o.op = .call { callee := .builtin .append, args := #[s, x], argTypes := #[t, t] })
    (base : Nat) (e : TypeId) (i : TypeInfo) (z : Value) (size bytes : Nat) (ht : P.underlying t = some (.slice e)) (hi : P.info? e = some i) (hz : i.zero = some z)
    (hsize : i.size = size) (hby : i.bytes = bytes) (hzs : z.cells.size = size) (hsz : 0 < size)
    (v : Value) (n : Nat) (xs : List Value) (hs : a.eval s = v) (hown : w.ownsRow base e size v n xs) (hbase : base ≤ w.heap.size)
    (A : Option Addr) (m c : Nat) (news : List Value) (hx : a.eval x = .slice A m c) (hl : news.length = m * size) (hA : A = none → m = 0 ∧ c = 0)
    (hnews : ∀ ad, A = some ad → ∀ j u, news[j]? = some u → w.cell? (ad.add j) = some u) (hone : ∀ u ∈ news, u.oneCell' = true) (h63 : n + m ≤ maxLen) (hbytes : (n + m) * bytes ≤ 140737488355328)
    (h : ∀ A' c' w', w'.ownsRow base e size (.slice A' (n + m) c') (n + m) (xs ++ news) → w.grownBy w' v.ownBlock → wpList P ops Q rest (a.put o.dst (.slice A' (n + m) c')) w') : wpList P ops Q (o :: rest) a w := by
  have form : ∀ {w : World} {v : Value} {n : Nat} {xs : List Value}, w.ownsRow base e size v n xs → ∃ A c, v = .slice A n c := fun {w v n xs} h => by
    rcases h.2 with ⟨rfl, h0⟩ | ⟨g, cap, cur, rfl, _⟩
    · exact ⟨none, 0, by rw [h0]⟩
    · exact ⟨_, _, rfl⟩
  cases A with
  | none =>
    obtain ⟨rfl, rfl⟩ := hA rfl
    obtain rfl : news = [] := List.eq_nil_of_length_eq_zero (by rw [hl, Nat.zero_mul])
    refine wpList_append_own_none hgd s x t ho base e i size ht hi _ n xs hs hown hx ?_
    obtain ⟨A', c', rfl⟩ := form hown
    have := h A' c' w (by rw [List.append_nil]; exact hown) ⟨rfl, rfl, rfl, Nat.le_refl _, fun _ _ _ => rfl⟩
    rw [Nat.add_zero] at this
    exact this
  | some ad =>
    refine wpList_append_own w hgd s x t ho base e i z size bytes ht hi hz hsize hby hzs hsz v n xs hs hown ad m c news hx hl (hnews ad rfl) hone h63 hbytes hbase ?_
    intro v' w' h1 h2 _
    obtain ⟨A', c', rfl⟩ := form h1
    exact h A' c' w' h1 h2
theorem own_empty (w : World) (base : Nat) (e : TypeId) (size : Nat) (h : base ≤ w.heap.size) : (w.alloc (.cells #[] e)).ownsRow base e size (.slice (some ⟨w.heap.size, 0, none⟩) 0 0) 0 [] :=
  World.ownsRow_made w #[] 0 h (by unfold maxLen; omega) (by simp)

/-- The cells of a block that was just laid; that were kept; behind a draw. -/
def CellsAt (w : World) (A : Option Addr) (l : List Value) : Prop := ∀ ad, A = some ad → ∀ (j : Nat) (u : Value), l[j]? = some u → w.cell? (ad.add j) = some u
theorem cells_new (w : World) (l : List Value) (t : TypeId) : CellsAt (w.alloc (.cells l.toArray t)) (some ⟨w.heap.size, 0, none⟩) l := fun ad e j u hj => by
  injection e with e
  subst e
  rw [Go.WideShapes.add_plain, World.cell?_alloc_new]
  simpa using hj
theorem add_block (ad : Addr) (j : Nat) : (ad.add j).block = ad.block := by
  unfold Addr.add; split <;> rfl
theorem CellsAt.drew {w : World} {A : Option Addr} {l : List Value} (h : CellsAt w A l) : CellsAt w.drew A l := h
theorem CellsAt.alloc {w : World} {A : Option Addr} {l : List Value} (h : CellsAt w A l) (o : Obj) : CellsAt (w.alloc o) A l := fun ad e j u hj => by
  have := h ad e j u hj
  rw [World.cell?_alloc_lt w o _ (lt_of_cell' this)]; exact this
theorem CellsAt.grown {w w' : World} {A : Option Addr} {l : List Value} {r : Option Nat} (h : CellsAt w A l) (hg : w.grownBy w' r) (hr : ∀ ad, A = some ad → some ad.block ≠ r) : CellsAt w' A l := fun ad e j u hj =>
  hg.cell (h ad e j u hj) (by rw [add_block]; exact hr ad e)
theorem CellsAt.below {w w' : World} {A : Option Addr} {l : List Value} {B : Nat} (h : CellsAt w A l) (hb : Below B w w') (hr : ∀ ad, A = some ad → ad.block < B) : CellsAt w' A l := fun ad e j u hj => by
  rw [hb.cell (by rw [add_block]; exact hr ad e)]; exact h ad e j u hj

end Go.Proofs.Ytbihliaeidpfaaa
