/- What each call of layer 6's acts does to the two sides: the free runs, and the document's row. -/
import Derived.Test.YtbihliaeidpfaaaRunsCuts
import Derived.Test.YtbihliaeidpfaaaRunsTake
import Derived.Test.YtbihliaeidpfaaaRunsActs
namespace Go.Proofs.Ytbihliaeidpfaaa
open Go.RowKit
set_option linter.unusedVariables false

/-- Both sides: the code's pages f, the document's pages g. -/
structure St6 (w W : World) (p n : Nat) (S : Nat → Prop) (f g : List Bool) (Am : Option Addr) (cm : Nat) : Prop where
  fr : Fr W S p f
  sl : Sl W W.heap.size Am n (g.map bv)
  ap : ∀ a, Am = some a → ¬ S a.block
  n0 : 1024 ≤ n
  n1 : n ≤ 1024
  c1 : n ≤ cm
  c2 : cm ≤ 9223372036854775807
  low : ∀ b, S b → w.heap.size ≤ b
  bel : Below w.heap.size w W

section
variable {w W W' : World} {p n : Nat} {S : Nat → Prop} {f g : List Bool} {Am : Option Addr} {cm : Nat}
theorem St6.below (h : St6 w W p n S f g Am cm) (hb : Below W.heap.size W W') : St6 w W' p n S f g Am cm :=
  ⟨h.fr.below hb, (h.sl.below hb).more hb.size, h.ap, h.n0, h.n1, h.c1, h.c2, h.low, h.bel.trans (hb.mono h.bel.size)⟩
theorem St6.glen (h : St6 w W p n S f g Am cm) : g.length = n := by have := h.sl.1; simpa using this
theorem St6.did (h : St6 w W p n S f g Am cm) {f' : List Bool} (hF : Fr W' (more S W W') p f') (hK : Kept S W W') : St6 w W' p n (more S W W') f' g Am cm :=
  ⟨hF, Sl.kept (B := 0) h.sl hK h.ap, fun a e c => by
    obtain ⟨b, off, e2, hb, _⟩ := h.sl.2 (by have := h.n0; omega)
    rw [e] at e2
    obtain rfl := Option.some.inj e2
    exact h.ap _ e (more_old hb c), h.n0, h.n1, h.c1, h.c2, more_low h.bel.size h.low, h.bel.trans (hK.below h.bel.size h.low)⟩

/-- A block that holds these cells, and is none of S. -/
def Keeps (S : Nat → Prop) (W : World) (q : Nat) (cs : List Value) : Prop := q < W.heap.size ∧ ¬ S q ∧ (∀ j v, cs[j]? = some v → W.cell? ⟨q, j, none⟩ = some v) ∧ ∀ j, W.frozen? ⟨q, j, none⟩ = false
/-- What is held so is held later. -/
def To (S : Nat → Prop) (W : World) (S' : Nat → Prop) (W' : World) : Prop := ∀ q cs, Keeps S W q cs → Keeps S' W' q cs
theorem Keeps.kept {S' : Nat → Prop} {q : Nat} {cs : List Value} (h : Keeps S W q cs) (hK : Kept S' W W') (hn : ¬ S' q) : Keeps S W' q cs :=
  ⟨Nat.lt_of_lt_of_le h.1 hK.size, h.2.1, fun j v hj => (hK.cell (a := ⟨q, j, none⟩) h.1 hn).trans (h.2.2.1 j v hj), fun j => (World.frozen?_of_block (w := W) (a := ⟨q, j, none⟩) (hK.block q h.1 hn)).trans (h.2.2.2 j)⟩
theorem Keeps.below {q : Nat} {cs : List Value} (h : Keeps S W q cs) (hb : Below W.heap.size W W') : Keeps S W' q cs := h.kept (Kept.of_below hb (fun _ => False)) id
theorem To.below (S : Nat → Prop) (hb : Below W.heap.size W W') : To S W S W' := fun _ _ h => h.below hb
theorem To.did (hK : Kept S W W') : To S W (more S W W') W' := fun q cs h =>
  ⟨Nat.lt_of_lt_of_le h.1 hK.size, fun c => h.2.1 (more_old h.1 c), (h.kept hK h.2.1).2.2⟩
theorem To.trans {S' S'' : Nat → Prop} {W'' : World} (h : To S W S' W') (h2 : To S' W' S'' W'') : To S W S'' W'' := fun q cs k => h2 q cs (h q cs k)
theorem Keeps.new_ (h : St6 w W p n S f g Am cm) (cs : List Value) (t : TypeId) : Keeps S (W.alloc (.cells cs.toArray t)) W.heap.size cs :=
  ⟨by simp, fun c => by have := h.fr.lt _ c; omega, fun j v hj => (World.cell?_alloc_at _ _ _ _ rfl).trans (by simpa using hj), fun j => World.frozen?_alloc_at _ _ _ _ rfl⟩
theorem St6.alloc (h : St6 w W p n S f g Am cm) (o : Obj) : St6 w (W.alloc o) p n S f g Am cm := h.below ((Below.refl _ _).alloc (Nat.le_refl _) _)
theorem Keeps.alloc {q : Nat} {cs : List Value} (h : Keeps S W q cs) (o : Obj) : Keeps S (W.alloc o) q cs := h.below ((Below.refl _ _).alloc (Nat.le_refl _) _)
theorem Keeps.act {q : Nat} {a b c d e : Value} (h : Keeps S W q [a, b, c, d, e]) : W.cell? ⟨q, 0, none⟩ = some a ∧ W.cell? ⟨q, 1, none⟩ = some b ∧ W.cell? ⟨q, 2, none⟩ = some c ∧ W.cell? ⟨q, 3, none⟩ = some d ∧ W.cell? ⟨q, 4, none⟩ = some e :=
  ⟨h.2.2.1 0 _ rfl, h.2.2.1 1 _ rfl, h.2.2.1 2 _ rfl, h.2.2.1 3 _ rfl, h.2.2.1 4 _ rfl⟩
theorem Keeps.two {q : Nat} {a b : Value} (h : Keeps S W q [a, b]) : W.cell? ⟨q, 0, none⟩ = some a ∧ W.cell? ⟨q, 1, none⟩ = some b := ⟨h.2.2.1 0 _ rfl, h.2.2.1 1 _ rfl⟩
/-- A block that no cell of the row lies in. -/
theorem St6.apLt (h : St6 w W p n S f g Am cm) : ∀ a, Am = some a → a.block < W.heap.size := fun a e => by
  obtain ⟨b, off, e2, hb, _⟩ := h.sl.2 (by have := h.n0; omega)
  rw [e] at e2
  obtain rfl := Option.some.inj e2
  exact hb
/-- The second cell of a pair is written. -/
theorem St6.set_ (h : St6 w W p n S f g Am cm) {q : Nat} {a b : Value} (hK : Keeps S W q [a, b]) (hA : ∀ a, Am = some a → a.block ≠ q) (hq : w.heap.size ≤ q) (v : Value) :
    St6 w (W.setCell ⟨q, 1, none⟩ v) p n S f g Am cm ∧ Keeps S (W.setCell ⟨q, 1, none⟩ v) q [a, v] ∧ ∀ q' cs, q' ≠ q → Keeps S W q' cs → Keeps S (W.setCell ⟨q, 1, none⟩ v) q' cs := by
  have k : Kept (fun b => b = q) W (W.setCell ⟨q, 1, none⟩ v) := Kept.set (S := fun b => b = q) (Kept.refl _ W) (a := ⟨q, 1, none⟩) (Or.inl rfl) v
  obtain ⟨c0, c1⟩ := hK.two
  refine ⟨⟨h.fr.keep k (fun b hb e => hK.2.1 (e ▸ hb)), Sl.kept (B := 0) h.sl k hA, h.ap, h.n0, h.n1, h.c1, h.c2, h.low, h.bel.trans (k.below h.bel.size (fun b e => by subst e; exact hq))⟩, ⟨Nat.lt_of_lt_of_le hK.1 k.size, hK.2.1, fun j x hj => ?_, fun j => ?_⟩, fun q' cs hne hk => hk.kept k hne⟩
  · match j, hj with
    | 0, hj =>
      obtain rfl : a = x := by simpa using hj
      rw [World.cell?_setCell_other _ _ _ _ (by simp)]; exact c0
    | 1, hj =>
      obtain rfl : v = x := by simpa using hj
      exact World.cell?_setCell_same _ _ _ c1
    | j + 2, hj => simp at hj
  · rw [World.frozen?_setCell]; exact hK.2.2.2 j

theorem t_fput (h : St6 w W p n S f g Am cm) (A2 : Option Addr) (m d : Nat) (rs : List (Int × Int)) (free : Bool) (g' : List Bool) (no : Int) (hN : fPut g rs free = (g', no))
    (hs : Rn W W.heap.size A2 m rs) (hm : m ≤ 65536) (hr : ∀ r ∈ rs, in64 r.1 ∧ in64 r.2) :
    Calls Try.prog 9 #[.slice Am n cm, .slice A2 m d, .bool free] W fun e w' => ∃ A' c', e = .returned (.tuple #[.slice A' n c', .int .i64 no]) ∧ St6 w w' p n S f g' A' c' ∧ To S W S w' := by
  have hl := h.glen
  have hl2 := fPut_length g rs free
  rw [hN] at hl2
  refine (ref_fput Am A2 n cm m d g rs free W h.sl hs h.n1 h.n0 hm h.c1 h.c2 hr).mono ?_
  rw [hN]
  rintro e w' ⟨A', c', rfl, k1, k2, k3, k5, hb, k4⟩
  have e : g'.length = n := by simp only at hl2; omega
  simp only [e] at k1 k5 ⊢
  refine ⟨A', c', rfl, ⟨h.fr.below hb, k5, fun a e c => ?_, h.n0, h.n1, k1, k2, h.low, h.bel.trans (hb.mono h.bel.size)⟩, To.below S hb⟩
  rcases k4 with e2 | e2
  · exact h.ap a (by rw [← e2]; exact e) c
  · have := e2 a e
    have := h.fr.lt _ c
    omega

theorem t_radd (h : St6 w W p n S f g Am cm) (A2 : Option Addr) (m d : Nat) (rs : List (Int × Int)) (f' : List Bool) (no : Int) (hN : fPut f rs true = (f', no))
    (hs : Rn W W.heap.size A2 m rs) (hm : m ≤ 60000) (hr : ∀ r ∈ rs, in64 r.1 ∧ in64 r.2) :
    Calls Try.prog 12 #[.pointer (some ⟨p, 0, none⟩), .slice A2 m d] W fun e w' => e = .returned (.int .i64 no) ∧ ∃ S', St6 w w' p n S' f' g Am cm ∧ To S W S' w' := by
  refine (code_radd h.fr A2 m d rs hs hm hr).mono ?_
  rw [hN]
  rintro e w' ⟨rfl, h1, h2⟩
  exact ⟨rfl, _, h.did h1 h2, To.did h2⟩
theorem t_rcut (h : St6 w W p n S f g Am cm) (s l : Int) (f' : List Bool) (no : Int) (hN : fPut f [(s, l)] false = (f', no)) (h1 : in64 s) (h2 : in64 l) :
    Calls Try.prog 13 #[.pointer (some ⟨p, 0, none⟩), .agg #[.int .i64 s, .int .i64 l]] W fun e w' => e = .returned (.int .i64 no) ∧ ∃ S', St6 w w' p n S' f' g Am cm ∧ To S W S' w' := by
  refine (code_rcut h.fr s l h1 h2).mono ?_
  rw [hN]
  rintro e w' ⟨rfl, k1, k2⟩
  exact ⟨rfl, _, h.did k1 k2, To.did k2⟩
theorem t_rtake (h : St6 w W p n S f g Am cm) (k : Int) (hk : in64 k) (ys yl : Int) (ok : Bool) (h1 : (((fBest f k).map fun r => (r.1, k)).getD (0, 0)).1 = ys) (h2 : (((fBest f k).map fun r => (r.1, k)).getD (0, 0)).2 = yl) (h3 : ((fBest f k).map fun r => (r.1, k)).isSome = ok) :
    Calls Try.prog 15 #[.pointer (some ⟨p, 0, none⟩), .int .i64 k] W fun e w' => e = .returned (.tuple #[.agg #[.int .i64 ys, .int .i64 yl], .bool ok]) ∧ ∃ S', St6 w w' p n S' (fTake f k) g Am cm ∧ To S W S' w' := by
  refine (code_rtake h.fr k hk).mono ?_
  unfold TookFr
  rw [h1, h2, h3]
  rintro e w' ⟨rfl, k1, k2⟩
  exact ⟨rfl, _, h.did k1 k2, To.did k2⟩
theorem t_rbest (h : St6 w W p n S f g Am cm) (k : Int) (hk : in64 k) (xs xl : Int) (ok : Bool) (h1 : ((fBest f k).getD (0, 0)).1 = xs) (h2 : ((fBest f k).getD (0, 0)).2 = xl) (h3 : (fBest f k).isSome = ok) :
    Calls Try.prog 16 #[.pointer (some ⟨p, 0, none⟩), .int .i64 k] W fun e w' => e = .returned (.tuple #[.agg #[.int .i64 xs, .int .i64 xl], .bool ok]) ∧ St6 w w' p n S f g Am cm ∧ To S W S w' := by
  refine (code_rbest h.fr k hk).mono ?_
  unfold RunIs
  rw [h1, h2, h3]
  rintro e w' ⟨rfl, hb⟩
  exact ⟨rfl, h.below hb, To.below S hb⟩
theorem t_fbest (h : St6 w W p n S f g Am cm) (k : Int) (hk : in64 k) (xs xl : Int) (ok : Bool) (h1 : ((fBest g k).getD (0, 0)).1 = xs) (h2 : ((fBest g k).getD (0, 0)).2 = xl) (h3 : (fBest g k).isSome = ok) :
    Calls Try.prog 14 #[.slice Am n cm, .int .i64 k] W fun e w' => e = .returned (.tuple #[.agg #[.int .i64 xs, .int .i64 xl], .bool ok]) ∧ St6 w w' p n S f g Am cm ∧ To S W S w' := by
  refine (ref_fbest Am n cm g k W h.sl (by have := h.n1; omega) hk.1 hk.2).mono ?_
  unfold RunIs
  rw [h1, h2, h3]
  rintro e w' ⟨rfl, hb⟩
  exact ⟨rfl, h.below hb, To.below S hb⟩
theorem t_rlist (h : St6 w W p n S f g Am cm) (l : List (Int × Int)) (hl : fList f = l) :
    Calls Try.prog 18 #[.pointer (some ⟨p, 0, none⟩)] W fun e w' => ∃ A c, e = .returned (.slice A l.length c) ∧ Rn w' w'.heap.size A l.length l ∧ St6 w w' p n S f g Am cm ∧ To S W S w' := by
  refine (code_rlist h.fr).mono ?_
  rw [hl]
  rintro e w' ⟨A, c, rfl, ho, hb⟩
  exact ⟨A, c, rfl, Rn.of_own ho rfl, h.below hb, To.below S hb⟩
theorem t_flist (h : St6 w W p n S f g Am cm) (l : List (Int × Int)) (hl : fList g = l) (A1 : Option Addr) (h1 : Rn W W.heap.size A1 l.length l) :
    Calls Try.prog 19 #[.slice Am n cm] W fun e w' => ∃ A c, e = .returned (.slice A l.length c) ∧ Rn w' w'.heap.size A l.length l ∧ Rn w' w'.heap.size A1 l.length l ∧ St6 w w' p n S f g Am cm ∧ To S W S w' := by
  refine (ref_flist Am n cm g W h.sl (by have := h.n1; omega)).mono ?_
  rw [hl]
  rintro e w' ⟨A, c, rfl, ho, hb⟩
  exact ⟨A, c, rfl, Rn.of_own ho rfl, (h1.below hb).more hb.size, h.below hb, To.below S hb⟩
theorem t_fsame (h : St6 w W p n S f g Am cm) {A A2 : Option Addr} {c c2 : Nat} {l : List (Int × Int)} (h1 : Rn W W.heap.size A l.length l) (h2 : Rn W W.heap.size A2 l.length l) (hn : l.length ≤ 65536) :
    Calls Try.prog 17 #[.slice A l.length c, .slice A2 l.length c2] W fun e w' => e = .returned (.bool true) ∧ St6 w w' p n S f g Am cm ∧ To S W S w' :=
  (same_off h1 h2 hn hn).mono fun e w' ⟨x, y⟩ => ⟨by rw [x]; simp, h.below y, To.below S y⟩
theorem t_rhas (h : St6 w W p n S f g Am cm) (s l : Int) (h1 : in64 s) (h2 : in64 l) (b : Bool) (hb : fHas f (s, l) = b) :
    Calls Try.prog 20 #[.pointer (some ⟨p, 0, none⟩), .agg #[.int .i64 s, .int .i64 l]] W fun e w' => e = .returned (.bool b) ∧ St6 w w' p n S f g Am cm ∧ To S W S w' := by
  refine (code_rhas h.fr s l h1 h2).mono ?_
  rw [hb]
  rintro e w' ⟨rfl, hb⟩
  exact ⟨rfl, h.below hb, To.below S hb⟩
theorem t_fhas (h : St6 w W p n S f g Am cm) (s l : Int) (h1 : in64 s) (h2 : in64 l) (b : Bool) (hb : fHas g (s, l) = b) :
    Calls Try.prog 21 #[.slice Am n cm, .agg #[.int .i64 s, .int .i64 l]] W fun e w' => e = .returned (.bool b) ∧ St6 w w' p n S f g Am cm ∧ To S W S w' := by
  refine (ref_fhas Am n cm g (s, l) W h.sl (Nat.le_antisymm h.n1 h.n0) ⟨h1, h2⟩).mono ?_
  rw [hb]
  rintro e w' ⟨rfl, hb⟩
  exact ⟨rfl, h.below hb, To.below S hb⟩
theorem t_rpages (h : St6 w W p n S f g Am cm) (k : Nat) (hk : fPages f = k) :
    Calls Try.prog 22 #[.pointer (some ⟨p, 0, none⟩)] W fun e w' => e = .returned (.int .i64 (k : Int)) ∧ St6 w w' p n S f g Am cm ∧ To S W S w' := by
  refine (code_rpages h.fr).mono ?_
  rw [hk]
  rintro e w' ⟨rfl, hb⟩
  exact ⟨rfl, h.below hb, To.below S hb⟩
theorem t_fpages (h : St6 w W p n S f g Am cm) (k : Nat) (hk : fPages g = k) :
    Calls Try.prog 23 #[.slice Am n cm] W fun e w' => e = .returned (.int .i64 (k : Int)) ∧ W = w' := by
  refine (ref_fpages Am n cm g W W.heap.size h.sl (by have := h.n1; omega)).mono ?_
  rw [hk]
  exact fun _ _ h => h
theorem t_new (A : Option Addr) (m d : Nat) (rs : List (Int × Int)) (hs : Rn W W.heap.size A m rs) (hm : m ≤ 60000) (hr : ∀ r ∈ rs, in64 r.1 ∧ in64 r.2) {F : List Bool} (hP : fPut (List.replicate 1024 false) rs true = (F, 0)) {B n c : Nat} {A1 : Option Addr} (hw : w.heap.size ≤ W.heap.size) (hB : B ≤ W.heap.size)
    (ho : Sl W W.heap.size A1 n (F.map bv)) (h0 : 1024 ≤ n) (h1 : n ≤ 1024) (h2 : n ≤ c) (h3 : c ≤ 9223372036854775807) (hb : Below w.heap.size w W) :
    Calls Try.prog 11 #[.slice A m d] W fun e w' => ∃ p S, e = .returned (.tuple #[.pointer (some ⟨p, 0, none⟩), .int .i64 0]) ∧ St6 w w' p n S F F A1 c := by
  refine (new_yes (d := d) hs hm hr hP).mono ?_
  rintro e w' ⟨p, S, rfl, hF, hlow, hb2⟩
  refine ⟨p, S, rfl, hF, (ho.below hb2).more hb2.size, fun a e c => ?_, h0, h1, h2, h3, fun b hb' => Nat.le_trans hw (hlow b hb'), hb.trans (hb2.mono hw)⟩
  obtain ⟨b, off, e2, hb, _⟩ := ho.2 (by omega)
  rw [e] at e2
  obtain rfl := Option.some.inj e2
  have := hlow _ c
  simp only at this
  omega
end

end Go.Proofs.Ytbihliaeidpfaaa
