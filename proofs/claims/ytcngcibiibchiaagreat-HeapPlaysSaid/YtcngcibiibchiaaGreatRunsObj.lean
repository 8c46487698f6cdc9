/- Free runs in memory; what Has, List, Pages and Best return. -/
import Derived.Test.YtcngcibiibchiaaGreatRows7
import Derived.Test.YtcngcibiibchiaaGreatRunsClone
import Derived.Test.YtcngcibiibchiaaGreatRunsRef2
import Derived.Laws.NewBlocks
namespace Go.Proofs.YtcngcibiibchiaaGreat
open Go.RowKit
set_option linter.unusedVariables false

/-- Free runs that have the pages f: their cell, and their row. -/
structure FrAt (w : World) (p : Nat) (A : Option Addr) (n c : Nat) (f : List Bool) : Prop where
  cell : w.cell? ⟨p, 0, none⟩ = some (.slice A n c)
  free : w.frozen? ⟨p, 0, none⟩ = false
  own : w.ownsRow 0 41 2 (.slice A n c) n (rcells (fList f))
  len : (fList f).length = n
  ne : ∀ k, (Value.slice A n c).ownBlock = some k → k ≠ p
  flen : f.length = 1024
/-- .. whose blocks are of S. -/
def Fr (w : World) (S : Nat → Prop) (p : Nat) (f : List Bool) : Prop :=
  ∃ A n c, FrAt w p A n c f ∧ S p ∧ (∀ k, (Value.slice A n c).ownBlock = some k → S k) ∧ ∀ b, S b → b < w.heap.size

section
variable {w w' : World} {S S' : Nat → Prop} {p n c : Nat} {A : Option Addr} {f : List Bool}
theorem FrAt.ltp (h : FrAt w p A n c f) : p < w.heap.size := lt_of_cell h.cell
theorem FrAt.le (h : FrAt w p A n c f) : n ≤ 1024 := by
  have h1 := fList_len f
  have h2 := h.len
  have h3 := h.flen
  omega
theorem FrAt.nil (h : FrAt w p A n c f) : A = none → c = 0 := fun e => by
  exact (own_capsK h.own).2.2 e
theorem FrAt.keep (h : FrAt w p A n c f) (hk : Kept S w w') (hp : ¬ S p) (hr : ∀ k, (Value.slice A n c).ownBlock = some k → ¬ S k) : FrAt w' p A n c f :=
  ⟨(hk.cell (a := ⟨p, 0, none⟩) h.ltp hp).trans h.cell, (World.frozen?_of_block (w := w) (a := ⟨p, 0, none⟩) (hk.block p h.ltp hp)).trans h.free, own_kept h.own hk hr, h.len, h.ne, h.flen⟩
theorem FrAt.below (h : FrAt w p A n c f) (hb : Below w.heap.size w w') : FrAt w' p A n c f := h.keep (Kept.of_below hb (fun _ => False)) id (fun _ _ => id)
theorem FrAt.rn (h : FrAt w p A n c f) : Rn w w.heap.size A n (fList f) := Rn.of_own h.own h.len
theorem Fr.flen (h : Fr w S p f) : f.length = 1024 := by obtain ⟨A, n, c, h, _⟩ := h; exact h.flen
theorem Fr.lt (h : Fr w S p f) : ∀ b, S b → b < w.heap.size := by obtain ⟨A, n, c, _, _, _, h⟩ := h; exact h
theorem Fr.ltp (h : Fr w S p f) : p < w.heap.size := by obtain ⟨A, n, c, h, _⟩ := h; exact h.ltp
theorem Fr.below (h : Fr w S p f) (hb : Below w.heap.size w w') : Fr w' S p f := by
  obtain ⟨A, n, c, h1, h2, h3, h4⟩ := h
  exact ⟨A, n, c, h1.below hb, h2, h3, fun b hb' => Nat.lt_of_lt_of_le (h4 b hb') hb.size⟩
theorem Fr.keep (h : Fr w S p f) (hk : Kept S' w w') (hn : ∀ b, S b → ¬ S' b) : Fr w' S p f := by
  obtain ⟨A, n, c, h1, h2, h3, h4⟩ := h
  exact ⟨A, n, c, h1.keep hk (hn _ h2) (fun k hk' => hn _ (h3 k hk')), h2, h3, fun b hb' => Nat.lt_of_lt_of_le (h4 b hb') hk.size⟩
theorem Fr.more_ {w0 : World} (h : Fr w S p f) (hw : w0.heap.size ≤ w.heap.size) : Fr w (more S w0 w) p f := by
  obtain ⟨A, n, c, h1, h2, h3, h4⟩ := h
  exact ⟨A, n, c, h1, ⟨Or.inl h2, h1.ltp⟩, fun k hk => ⟨Or.inl (h3 k hk), h4 k (h3 k hk)⟩, fun b hb => hb.2⟩
end
theorem fList_in (f : List Bool) (hf : f.length = 1024) : ∀ r ∈ fList f, -9223372036854775808 ≤ r.1 + r.2 ∧ r.1 + r.2 ≤ 9223372036854775807 := fun r hr => by
  have := norm_mem (fList_norm f (by omega)) r hr; omega

/-- List: a copy. -/
theorem code_rlist_of (v : Value) (A : Option Addr) (n c : Nat) (rs : List (Int × Int)) (w : World) (hall : Calls Tryz.prog 64 #[v] w fun e w' => e = .returned (.slice A n c) ∧ w = w')
    (hs : Rn w w.heap.size A n rs) (hn : n ≤ 65536) (hA : A = none → c = 0) : Calls Tryz.prog 40 #[v] w (OwnRuns w rs) := by
  have cc := code_rclone A n c rs w hs hn hA
  clear hs hA
  go_enter Tryz.func40, Tryz.ntmps40
  go_wp2_with (first
    | (go_at_call 64; (with_reducible refine hall.mono ?_); rintro e w' ⟨rfl, rfl⟩)
    | (go_at_call 63; (with_reducible refine cc.mono ?_); rintro e w1 ⟨A1, c1, rfl, h1, h2⟩))
  go_ret
  exact ⟨A1, c1, rfl, h1, h2⟩
theorem code_rlist {w : World} {S : Nat → Prop} {p : Nat} {f : List Bool} (h : Fr w S p f) : Calls Tryz.prog 40 #[.pointer (some ⟨p, 0, none⟩)] w (OwnRuns w (fList f)) := by
  obtain ⟨A, n, c, h1, _⟩ := h
  exact code_rlist_of _ A n c (fList f) w (code_all p A n c w h1.cell) h1.rn (by have := h1.le; omega) h1.nil
theorem code_rlist_nil (w : World) : Calls Tryz.prog 40 #[.pointer none] w (OwnRuns w []) :=
  code_rlist_of _ none 0 0 [] w (code_all_nil w) Rn.nil_ (by omega) (fun _ => rfl)

theorem Fr.all_ {w : World} {S : Nat → Prop} {p : Nat} {f : List Bool} (h : Fr w S p f) : ∃ A n c, FrAt w p A n c f ∧ n ≤ 1024 ∧ ∀ W, Below w.heap.size w W → Calls Tryz.prog 64 #[.pointer (some ⟨p, 0, none⟩)] W fun e w' => e = .returned (.slice A n c) ∧ W = w' := by
  obtain ⟨A, n, c, h1, _⟩ := h
  exact ⟨A, n, c, h1, h1.le, fun W hb => code_all p A n c W (h1.below hb).cell⟩
end Go.Proofs.YtcngcibiibchiaaGreat
