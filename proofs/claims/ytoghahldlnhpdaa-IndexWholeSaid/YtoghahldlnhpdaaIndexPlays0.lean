/- What each call of layer 5's acts does to the two sides: the index' numbers, and the document's. -/
import Derived.Test.YtoghahldlnhpdaaIndexLaws
import Derived.Test.YtoghahldlnhpdaaIndexPut
import Derived.Test.YtoghahldlnhpdaaIndexActs
namespace Go.Proofs.Ytoghahldlnhpdaa
open Go.RowKit
set_option linter.unusedVariables false

/-- A row that isn't the one that is written. -/
theorem Sl.grownNe {w w' : World} {g m : Nat} {A : Option Addr} {xs : List Value} (h : Sl w w.heap.size A m xs) (hap : ∀ b off, A = some ⟨b, off, none⟩ → b ≠ g) (hg : w.grownBy w' (some g)) : Sl w' w'.heap.size A m xs :=
  ⟨h.1, fun hn => by
    obtain ⟨b, off, e, hb, hc⟩ := h.2 hn
    have hne := hap b off e
    refine ⟨b, off, e, Nat.lt_of_lt_of_le hb hg.size, fun j hj => ?_⟩
    rw [World.cell?_of_block (w := w) (w' := w') (a := ⟨b, off + j, none⟩) (hg.block b hb (fun e => hne (by injection e)))]
    exact hc j hj⟩

/-- Both sides. -/
structure St5 (w W : World) (p g n : Nat) (ids ms : List Int) (Am : Option Addr) (cm : Nat) : Prop where
  ix : Ix W w.heap.size p g n ids
  sl : Sl W W.heap.size Am n (ms.map iv)
  ap : ∀ b off, Am = some ⟨b, off, none⟩ → b ≠ g
  c1 : n ≤ cm
  c2 : cm ≤ 9223372036854775807
  c3 : Am = none → cm = 0
  bel : Below w.heap.size w W

section
variable {w W W' : World} {p g n : Nat} {ids ms : List Int} {Am : Option Addr} {cm : Nat}
theorem St5.below (h : St5 w W p g n ids ms Am cm) (hb : Below W.heap.size W W') : St5 w W' p g n ids ms Am cm :=
  ⟨h.ix.below hb (Nat.le_refl _), (h.sl.below hb).more hb.size, h.ap, h.c1, h.c2, h.c3, h.bel.trans (hb.mono h.bel.size)⟩
theorem St5.drewN (h : St5 w W p g n ids ms Am cm) (q : Nat) : St5 w (W.drewN q) p g n ids ms Am cm := h.below (belowN (Below.refl _ _) q)

theorem St5.drew (h : St5 w W p g n ids ms Am cm) : St5 w W.drew p g n ids ms Am cm := h.below (Below.refl _ _).drew

theorem t_put (h : St5 w W p g n ids ms Am cm) (id : Int) (A2 : Option Addr) (m d : Nat) (rs : List (Int × Int)) (drop : Bool) (x' : List Int) (no : Int) (hN : xPut ms id rs drop = (x', no))
    (hs : Rn W W.heap.size A2 m rs) (hm : m ≤ 65536) (hr : ∀ r ∈ rs, in64 r.1 ∧ in64 r.2) (h0 : in64 id) :
    Calls Try.prog 10 #[.slice Am n cm, .int .i64 id, .slice A2 m d, .bool drop] W fun e w' => ∃ A' c', e = .returned (.tuple #[.slice A' n c', .int .i64 no]) ∧ St5 w w' p g n ids x' A' c' := by
  have hl : ms.length = n := by have := h.sl.1; simpa using this
  have hl2 := xPut_length ms id rs drop
  rw [hN] at hl2
  refine (ref_xput Am A2 n cm m d ms id rs drop W h.sl hs (by have := h.ix.small; omega) hm h.c1 h.c2 h.c3 hr h0.1 h0.2).mono ?_
  rw [hN]
  rintro e w' ⟨A', c', rfl, k1, k2, k3, k4, k5, hb⟩
  have e : x'.length = n := by simp only at hl2; omega
  simp only [e] at k1 k5 ⊢
  refine ⟨A', c', rfl, h.ix.below hb (Nat.le_refl _), k5, fun b off e => ?_, k1, k2, k3, h.bel.trans (hb.mono h.bel.size)⟩
  rcases k4 b off e with e2 | e2
  · exact h.ap b off (by rw [← e2]; exact e)
  · have := h.ix.lt; omega

theorem St5.write (h : St5 w W p g n ids ms Am cm) {ids' : List Int} (hx : Ix W' w.heap.size p g n ids') (hg : W.grownBy W' (some g)) : St5 w W' p g n ids' ms Am cm :=
  ⟨hx, h.sl.grownNe h.ap hg, h.ap, h.c1, h.c2, h.c3, h.bel.grown hg h.bel.size (fun k hk => by cases hk; exact h.ix.geg)⟩
theorem t_xset (h : St5 w W p g n ids ms Am cm) (id : Int) (A2 : Option Addr) (m d : Nat) (rs : List (Int × Int)) (x' : List Int) (no : Int) (hN : xPut ids id rs false = (x', no))
    (hs : Rn W W.heap.size A2 m rs) (hap : ∀ b off, 0 < m → A2 = some ⟨b, off, none⟩ → b ≠ g) (hm : m ≤ 65536) (hr : ∀ r ∈ rs, in64 r.1 ∧ in64 r.2) (h0 : in64 id) :
    Calls Try.prog 12 #[.pointer (some ⟨p, 0, none⟩), .int .i64 id, .slice A2 m d] W fun e w' => e = .returned (.int .i64 no) ∧ St5 w w' p g n x' ms Am cm := by
  refine (code_xset id A2 m d rs W h.ix hap hs hm hr h0).mono ?_
  rintro e w' ⟨rfl, h1, h2⟩
  rw [hN] at h1 ⊢
  exact ⟨rfl, h.write h1 h2⟩
theorem t_xdrop (h : St5 w W p g n ids ms Am cm) (id : Int) (A2 : Option Addr) (m d : Nat) (rs : List (Int × Int)) (x' : List Int) (no : Int) (hN : xPut ids id rs true = (x', no))
    (hs : Rn W W.heap.size A2 m rs) (hap : ∀ b off, 0 < m → A2 = some ⟨b, off, none⟩ → b ≠ g) (hm : m ≤ 65536) (hr : ∀ r ∈ rs, in64 r.1 ∧ in64 r.2) :
    Calls Try.prog 11 #[.pointer (some ⟨p, 0, none⟩), .slice A2 m d] W fun e w' => e = .returned (.int .i64 no) ∧ St5 w w' p g n x' ms Am cm := by
  refine (code_xdrop id A2 m d rs W h.ix hap hs hm hr).mono ?_
  rintro e w' ⟨rfl, h1, h2⟩
  rw [hN] at h1 ⊢
  exact ⟨rfl, h.write h1 h2⟩
theorem t_xof (h : St5 w W p g n ids ms Am cm) (page : Int) (h0 : in64 page) :
    Calls Try.prog 13 #[.pointer (some ⟨p, 0, none⟩), .int .i64 page] W fun e w' => e = .returned (.int .i64 (xOf ids page)) ∧ W = w' := code_xof h.ix page h0
theorem t_refOf (h : St5 w W p g n ids ms Am cm) (page : Int) (h0 : in64 page) :
    Calls Try.prog 14 #[.slice Am n cm, .int .i64 page] W fun e w' => e = .returned (.int .i64 (xOf ms page)) ∧ W = w' :=
  ref_xof Am n cm ms page W W.heap.size h.sl (by have := h.ix.small; omega) h0.1 h0.2
/-- Runs that a call made. -/
def ResRuns (w : World) (rs : List (Int × Int)) (e : Ending) (w' : World) : Prop := ∃ A c, e = .returned (.slice A rs.length c) ∧ Rn w' w'.heap.size A rs.length rs ∧ Below w.heap.size w w'
theorem ResRuns.of_own {rs : List (Int × Int)} {e : Ending} {w w' : World} (h : OwnRuns w rs e w') : ResRuns w rs e w' := by
  obtain ⟨A, c, rfl, h1, h2⟩ := h
  exact ⟨A, c, rfl, Rn.of_own h1 rfl, h2⟩
theorem t_xruns (h : St5 w W p g n ids ms Am cm) (k : Int) (h0 : in64 k) :
    Calls Try.prog 18 #[.pointer (some ⟨p, 0, none⟩), .int .i64 k] W (ResRuns W (xRuns ids k)) := (code_xruns h.ix k h0).mono fun _ _ h => ResRuns.of_own h
theorem t_refRuns (h : St5 w W p g n ids ms Am cm) (k : Int) (h0 : in64 k) :
    Calls Try.prog 19 #[.slice Am n cm, .int .i64 k] W (ResRuns W (xRuns ms k)) := (ref_xruns Am n cm ms k W h.sl (by have := h.ix.small; omega) h0.1 h0.2).mono fun _ _ h => ResRuns.of_own h
theorem xRuns_le (x : List Int) (id : Int) : (xRuns x id).length ≤ x.length := by have := runsAt_length x id (x.length + 1) 0; exact this
theorem t_same {A A2 : Option Addr} {c c2 : Nat} {rs : List (Int × Int)} {B B2 : Nat} (h1 : Rn W B A rs.length rs) (h2 : Rn W B2 A2 rs.length rs) (hn : rs.length ≤ 65536) :
    Calls Try.prog 17 #[.slice A rs.length c, .slice A2 rs.length c2] W fun e w' => e = .returned (.bool true) ∧ Below W.heap.size W w' :=
  (ref_xsame A A2 _ c _ c2 rs rs W B B2 h1 h2 (by omega) (by omega)).mono fun e w' ⟨x, q, y⟩ => by
    subst y
    exact ⟨by rw [x]; simp, belowN (Below.refl _ _) q⟩
end

end Go.Proofs.Ytoghahldlnhpdaa
