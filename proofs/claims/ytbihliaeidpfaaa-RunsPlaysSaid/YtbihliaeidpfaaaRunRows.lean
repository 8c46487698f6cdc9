/- Words for rows of runs of pages (two numbers each), that came in or that a call made. -/
import Derived.Test.YtbihliaeidpfaaaRowInts
import Derived.Test.YtbihliaeidpfaaaReads
import Derived.Test.YtbihliaeidpfaaaArgs
namespace Go.Proofs.Ytbihliaeidpfaaa
open Go.RowKit
set_option linter.unusedVariables false

/-- The slice value '.slice A n c' has the runs rs. -/
def Rn (w : World) (B : Nat) (A : Option Addr) (n : Nat) (rs : List (Int × Int)) : Prop :=
  rs.length = n ∧ (0 < n → ∃ b off, A = some ⟨b, off, none⟩ ∧ b < B ∧ ∀ j r, rs[j]? = some r → w.cell? ⟨b, off + j * 2, none⟩ = some (iv r.1) ∧ w.cell? ⟨b, off + j * 2 + 1, none⟩ = some (iv r.2))
/-- The cells of runs. -/
def rcells (rs : List (Int × Int)) : List Value := rs.flatMap fun r => [iv r.1, iv r.2]
theorem rcells_length (rs : List (Int × Int)) : (rcells rs).length = rs.length * 2 := by
  unfold rcells
  induction rs with
  | nil => rfl
  | cons r l ih => rw [List.flatMap_cons, List.length_append, ih]; simp; omega
theorem rcells_append (a b : List (Int × Int)) : rcells (a ++ b) = rcells a ++ rcells b := by unfold rcells; rw [List.flatMap_append]
theorem rcells_at : ∀ (rs : List (Int × Int)) (j : Nat) (r : Int × Int), rs[j]? = some r → (rcells rs)[j * 2]? = some (iv r.1) ∧ (rcells rs)[j * 2 + 1]? = some (iv r.2)
  | [], j, r, h => by simp at h
  | x :: l, 0, r, h => by
    obtain rfl : x = r := by simpa using h
    exact ⟨rfl, rfl⟩
  | x :: l, j + 1, r, h => by
    have ih := rcells_at l j r (by simpa using h)
    have e : rcells (x :: l) = [iv x.1, iv x.2] ++ rcells l := rfl
    rw [e, show (j + 1) * 2 = 2 + j * 2 by omega, List.getElem?_append_right (by simp), List.getElem?_append_right (by simp; omega)]
    rw [show 2 + j * 2 - [iv x.1, iv x.2].length = j * 2 by simp, show 2 + j * 2 + 1 - [iv x.1, iv x.2].length = j * 2 + 1 by simp; omega]
    exact ih

section
variable {w w' : World} {B B' n : Nat} {A : Option Addr} {rs : List (Int × Int)}
theorem Rn.nil_ : Rn w B A 0 [] := ⟨rfl, fun h => absurd h (by omega)⟩
theorem Rn.at_ {k : Nat} (h : Rn w B A n rs) (hk : k < n) : ∃ b off s l, A = some ⟨b, off, none⟩ ∧ b < B ∧ rs[k]? = some (s, l) ∧ w.cell? ⟨b, off + k * 2, none⟩ = some (.int .i64 s) ∧ w.cell? ⟨b, off + k * 2 + 1, none⟩ = some (.int .i64 l) := by
  obtain ⟨b, off, e, hb, hc⟩ := h.2 (by omega)
  have hl : k < rs.length := by have := h.1; omega
  obtain ⟨h1, h2⟩ := hc k rs[k] (List.getElem?_eq_getElem hl)
  exact ⟨b, off, rs[k].1, rs[k].2, e, hb, List.getElem?_eq_getElem hl, h1, h2⟩
theorem Rn.keep (h : Rn w B A n rs) (hk : ∀ p : Addr, p.block < B → w'.cell? p = w.cell? p) : Rn w' B A n rs :=
  ⟨h.1, fun hn => by
    obtain ⟨b, off, e, hb, hc⟩ := h.2 hn
    exact ⟨b, off, e, hb, fun j r hj => ⟨(hk ⟨b, _, none⟩ hb).trans (hc j r hj).1, (hk ⟨b, _, none⟩ hb).trans (hc j r hj).2⟩⟩⟩
theorem Rn.more (h : Rn w B A n rs) (hB : B ≤ B') : Rn w B' A n rs :=
  ⟨h.1, fun hn => by
    obtain ⟨b, off, e, hb, hc⟩ := h.2 hn
    exact ⟨b, off, e, by omega, hc⟩⟩
theorem Rn.below (h : Rn w B A n rs) (hb : Below B w w') : Rn w' B A n rs := h.keep fun _ hp => hb.cell hp
theorem Rn.drewN (h : Rn w B A n rs) (k : Nat) : Rn (w.drewN k) B A n rs := h
theorem Rn.alloc (h : Rn w B A n rs) (hB : B ≤ w.heap.size) (o : Obj) : Rn (w.alloc o) B A n rs := h.keep fun p hp => World.cell?_alloc_lt w o p (by omega)
theorem Rn.setCell (h : Rn w B A n rs) {p : Addr} (hB : B ≤ p.block) (u : Value) : Rn (w.setCell p u) B A n rs :=
  h.keep fun q hq => World.cell?_setCell_other w p q u (fun e => by subst e; omega)
/-- A row of the call's own. -/
theorem Rn.of_own {base : Nat} {e : TypeId} {c : Nat} (h : w.ownsRow base e 2 (.slice A n c) n (rcells rs)) (hl : rs.length = n) : Rn w w.heap.size A n rs := by
  refine ⟨hl, fun hn => ?_⟩
  rcases h.2 with ⟨_, h0⟩ | ⟨g, cap, cur, hv, _, hg, hnc, _, hcs, htake⟩
  · omega
  · have hA : A = some ⟨g, 0, none⟩ := by injection hv
    subst hA
    have hglt : g < w.heap.size := (Array.getElem?_eq_some_iff.1 hg).1
    have key : ∀ i u, (rcells rs)[i]? = some u → w.cell? ⟨g, i, none⟩ = some u := fun i u hu => by
      rw [cell_of_row w g i cur e (0, 0) hg]
      rw [← htake, List.getElem?_take] at hu
      split at hu
      · simpa using hu
      · cases hu
    refine ⟨g, 0, rfl, hglt, fun j r hj => ?_⟩
    obtain ⟨h1, h2⟩ := rcells_at rs j r hj
    rw [Nat.zero_add]
    exact ⟨key _ _ h1, key _ _ h2⟩
/-- A row of structs that came in. -/
theorem Rn.of_row {l : List (Int × Int)} (h : RowOf (fun cs r => cs = [iv r.1, iv r.2]) 2 w B A n l) : Rn w B A n l :=
  ⟨h.1, fun hn => by
    obtain ⟨b, off, e, hb, hc⟩ := h.2 hn
    refine ⟨b, off, e, hb, fun j r hj => ?_⟩
    obtain ⟨cs, _, h2, rfl⟩ := hc j r hj
    exact ⟨h2 0 (by omega), h2 1 (by omega)⟩⟩
end

/-- Runs that a call made. -/
def OwnRuns (w : World) (rs : List (Int × Int)) (e : Ending) (w' : World) : Prop := ∃ A c, e = .returned (.slice A rs.length c) ∧ w'.ownsRow w.heap.size 34 2 (.slice A rs.length c) rs.length (rcells rs) ∧ Below w.heap.size w w'

theorem own_form2 {w : World} {base : Nat} {e : TypeId} {s : Nat} {v : Value} {n : Nat} {xs : List Value} (h : w.ownsRow base e s v n xs) : ∃ A c, v = .slice A n c := by
  rcases h.2 with ⟨rfl, h0⟩ | ⟨g, cap, cur, rfl, _⟩
  · exact ⟨none, 0, by rw [h0]⟩
  · exact ⟨_, _, rfl⟩

/-- append of one struct of two cells, that the call has just laid into a block of its own, onto a row of the call's own. -/
theorem wpList_append_two {P : Program} (w : World) {ops : Array Oper} {rest : List Oper} {o : Oper} {a : Act} {Q : Exit → Act → World → Prop} (hgd : o.guard = none) (s x : Operand) (t : TypeId)
    (ho : o.op = .call { callee := .builtin .append, args := #[s, x], argTypes := #[t, t] })
    (base : Nat) (e : TypeId) (i : TypeInfo) (z : Value) (bytes : Nat) (ht : P.underlying t = some (.slice e)) (hi : P.info? e = some i) (hz : i.zero = some z)
    (hsize : i.size = 2) (hby : i.bytes = bytes) (hzs : z.cells.size = 2)
    (v : Value) (n : Nat) (xs : List Value) (hs : a.eval s = v) (hown : w.ownsRow base e 2 v n xs) (hbase : base ≤ w.heap.size)
    (u1 u2 : Value) (hu1 : u1.oneCell' = true) (hu2 : u2.oneCell' = true) (te : TypeId) (hx : a.eval x = .slice (some ⟨w.heap.size, 0, none⟩) 1 1) (h63 : n + 1 ≤ maxLen) (hbytes : (n + 1) * bytes ≤ 140737488355328)
    (h : ∀ v' w', w'.ownsRow base e 2 v' (n + 1) (xs ++ [u1, u2]) → Below base w w' → wpList P ops Q rest (a.put o.dst v') w') : wpList P ops Q (o :: rest) a (w.alloc (.cells #[u1, u2] te)) := by
  refine wpList_append_own (w.alloc (.cells #[u1, u2] te)) hgd s x t ho base e i z 2 bytes ht hi hz hsize hby hzs (by decide) v n xs hs (hown.alloc _) ⟨w.heap.size, 0, none⟩ 1 1 [u1, u2] hx rfl ?_ ?_ h63 hbytes ?_ ?_
  · intro j x hj
    match j, hj with
    | 0, hj =>
      obtain rfl : u1 = x := by simpa using hj
      rw [Go.WideShapes.add_plain]; simp
    | 1, hj =>
      obtain rfl : u2 = x := by simpa using hj
      rw [Go.WideShapes.add_plain]; simp
    | j + 2, hj => simp at hj
  · intro x hx
    rcases List.mem_cons.1 hx with rfl | hx
    · exact hu1
    · rw [List.mem_singleton.1 hx]; exact hu2
  · simp; omega
  · intro v' w' h1 h2 _
    refine h v' w' h1 ?_
    refine ((Below.refl base w).alloc hbase _).grown h2 (by simp; omega) (fun k hk => (hown.lt k hk).1)

theorem info_run : (Try.prog.info? 34).map (fun i => (i.zero, i.size, i.bytes)) = some (some (.agg #[.int .i64 0, .int .i64 0]), 2, 16) := by kernel_rfl

end Go.Proofs.Ytbihliaeidpfaaa
