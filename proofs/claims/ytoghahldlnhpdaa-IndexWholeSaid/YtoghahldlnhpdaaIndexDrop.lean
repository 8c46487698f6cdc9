/- What Drop of layer 5 (index) does; and what Set and Drop of a nil index answer. -/
import Derived.Test.YtoghahldlnhpdaaIndexSet
namespace Go.Proofs.Ytoghahldlnhpdaa
open Go.RowKit
set_option linter.unusedVariables false

/-- What holds while Drop asks: the index as it was, and its captured variable. -/
structure DropI (W0 : World) (B p g n : Nat) (ids : List Int) (tx : Nat) (W : World) : Prop where
  ix : Ix W B p g n ids
  cx : W.cell? ⟨tx, 0, none⟩ = some (.pointer (some ⟨p, 0, none⟩))
  bel : Below W0.heap.size W0 W
theorem DropI.keep {W0 W W' : World} {B p g n : Nat} {ids : List Int} {tx : Nat} (h : DropI W0 B p g n ids tx W) (hb : Below W.heap.size W W') : DropI W0 B p g n ids tx W' :=
  ⟨h.ix.below hb (Nat.le_refl _), (hb.cell (lt_of_cell h.cx)).trans h.cx, h.bel.trans (hb.mono h.bel.size)⟩
theorem asks_drop {W0 : World} {B p g n : Nat} {ids : List Int} {tx : Nat} :
    Asks 24 #[.pointer (some ⟨tx, 0, none⟩)] n g (okOne ids true) (fun _ W => DropI W0 B p g n ids tx W) W0 :=
  ⟨fun d pg W h hp => (code_xdrop2 W h.ix h.cx pg hp).mono fun e w' ⟨h1, h2⟩ => by subst h2; exact ⟨by rw [h1]; simp [okOne], grown_refl _, h⟩, fun d W W' h hb => h.keep hb, fun d W h => h.bel⟩

theorem rcell {w w5 : World} {g e : Nat} {u : Value} (hg : w.grownBy w5 (some g)) (he : e ≠ g) (hc : w.cell? ⟨e, 0, none⟩ = some u) (hf : w.frozen? ⟨e, 0, none⟩ = false) : w5.cell? ⟨e, 0, none⟩ = some u ∧ w5.frozen? ⟨e, 0, none⟩ = false := by
  have k3 := hg.block e (lt_of_cell hc) (fun h => he (by injection h))
  exact ⟨(World.cell?_of_block (w := w) (a := ⟨e, 0, none⟩) k3).trans hc, by rw [← hf]; simp [World.frozen?, k3]⟩

set_option maxHeartbeats 2000000 in
theorem code_xdrop {p g n B : Nat} {ids : List Int} (id : Int) (A : Option Addr) (m c : Nat) (rs : List (Int × Int)) (w : World) (hx : Ix w B p g n ids) (hap : ∀ b off, 0 < m → A = some ⟨b, off, none⟩ → b ≠ g)
    (hs : Rn w w.heap.size A m rs) (hm : m ≤ 65536) (hr : ∀ r ∈ rs, in64 r.1 ∧ in64 r.2) :
    Calls Try.prog 11 #[.pointer (some ⟨p, 0, none⟩), .slice A m c] w (PutEnd w B p g n (xPut ids id rs true)) := by
  have hlg := hx.lt
  have hlp := hx.ltp
  have hn := hx.small
  have HX := hidb hx
  have HAP := hidb hap
  have HS := hidb hs
  have HR := hidb hr
  have hid1 : true = false → 1 ≤ id := fun h => by cases h
  obtain ⟨N, hN⟩ : ∃ N, (xPut ids id rs true) = N := ⟨_, rfl⟩
  rw [hN]
  obtain ⟨b1, b2, b3, b4, b5⟩ : Below w.heap.size w ((w.alloc (.cells #[.pointer (some ⟨p, 0, none⟩)] 24)).alloc (.cells #[.int .i64 0] 33)) ∧
      ((w.alloc (.cells #[.pointer (some ⟨p, 0, none⟩)] 24)).alloc (.cells #[.int .i64 0] 33)).heap.size = w.heap.size + 1 + 1 ∧
      ((w.alloc (.cells #[.pointer (some ⟨p, 0, none⟩)] 24)).alloc (.cells #[.int .i64 0] 33)).cell? ⟨w.heap.size, 0, none⟩ = some (.pointer (some ⟨p, 0, none⟩)) ∧
      ((w.alloc (.cells #[.pointer (some ⟨p, 0, none⟩)] 24)).alloc (.cells #[.int .i64 0] 33)).cell? ⟨w.heap.size + 1, 0, none⟩ = some (.int .i64 0) ∧
      ((w.alloc (.cells #[.pointer (some ⟨p, 0, none⟩)] 24)).alloc (.cells #[.int .i64 0] 33)).frozen? ⟨w.heap.size + 1, 0, none⟩ = false :=
    ⟨((Below.refl _ _).alloc (Nat.le_refl _) _).alloc (by simp) _, by simp, by rw [World.cell?_alloc_lt _ _ _ (by simp)]; simp, by simp, by simp [go_sem]⟩
  have I0 : DropI ((w.alloc (.cells #[.pointer (some ⟨p, 0, none⟩)] 24)).alloc (.cells #[.int .i64 0] 33)) B p g n ids w.heap.size ((w.alloc (.cells #[.pointer (some ⟨p, 0, none⟩)] 24)).alloc (.cells #[.int .i64 0] 33)) :=
    ⟨hx.below b1 (Nat.le_refl _), b3, Below.refl _ _⟩
  have hs1 := (hs.below b1).more b1.size
  have HB := hidb b1
  have HB2 := hidb b2
  cases hT : rs.all (xThere n) with
  | false =>
    obtain rfl : N = (ids, 2) := by rw [← hN]; exact xPut_gone ids id rs true hid1 (by rw [hx.hlen]; exact hT)
    have ca := fun f => code_xask_gone (f := f) A m c rs _ I0.ix.pages hn hs1 hm hr hT
    unfold Threw at ca
    have HE : Hid (∀ w4, Below (w.heap.size + 1 + 1) ((w.alloc (.cells #[.pointer (some ⟨p, 0, none⟩)] 24)).alloc (.cells #[.int .i64 0] 33)) w4 → w4.cell? ⟨w.heap.size + 1, 0, none⟩ = some (.int .i64 0) ∧ w4.frozen? ⟨w.heap.size + 1, 0, none⟩ = false ∧ Below w.heap.size w w4) := hidb (fun w4 hb => ⟨by rw [hb.cell (by show w.heap.size + 1 < _; omega)]; exact b4, by rw [hb.frozen (by show w.heap.size + 1 < _; omega)]; exact b5, b1.trans (hb.mono (by omega))⟩)
    clear hx hap hs hr hN hid1 hT I0 hs1 b1 b2 b3 b4 b5
    go_enter_defers Try.func11, Try.ntmps11
    go_wp2_with (first
      | (go_at_call 23; (with_reducible refine (ca _).mono ?_); rintro e w4 ⟨rfl, hb4⟩))
    rw [HB2.out] at hb4
    obtain ⟨hcE, hfE, hbw⟩ := HE.out _ hb4
    refine leaves_cons (f := 21) (args := #[.pointer (some ⟨w.heap.size + 1, 0, none⟩)]) (by simp) (by simp [go_sem]) ?_
    refine (catch_drop 58 2 (fun w => code_told2 w) ⟨w.heap.size + 1, 0, none⟩ 0 _ (lt_of_cell hcE) hcE hfE).mono ?_
    rintro e u' w'' ⟨rfl, rfl, rfl⟩
    have P := putEnd_no (T := 58) HX.out hbw (e := w.heap.size + 1) (by omega) 2 (.int .i64 2)
    have hT := told_cell hcE 58 (.int .i64 2)
    simp [Leaves, settle, results, Try.results11, go_sem, hT]
    exact P
  | true =>
    have E := xPut_there ids id rs true hid1 (by rw [hx.hlen]; exact hT)
    rw [okAll_ask, hN] at E
    have ca := code_xask _ A m c rs _ I0.ix.pages hn hs1 hm hr hT I0 asks_drop (by rw [b2]; omega)
    cases hok : askAll (okOne ids true) [] (pgs rs) with
    | false =>
      rw [hok] at E
      obtain rfl : N = (ids, 9) := by simpa using E
      have cb : Calls Try.prog 23 #[.pointer (some ⟨p, 0, none⟩), .slice A m c, .func (.func 24) #[] #[.pointer (some ⟨w.heap.size, 0, none⟩)]] ((w.alloc (.cells #[.pointer (some ⟨p, 0, none⟩)] 24)).alloc (.cells #[.int .i64 0] 33))
          fun e w' => e = .panicked [thrown 59] ∧ Below (w.heap.size + 1 + 1) ((w.alloc (.cells #[.pointer (some ⟨p, 0, none⟩)] 24)).alloc (.cells #[.int .i64 0] 33)) w' := ca.mono (by
            rintro e w' (⟨h1, _⟩ | ⟨_, h2, h3⟩)
            · rw [hok] at h1; cases h1
            · rw [b2] at h3; exact ⟨h2, h3⟩)
      have HE : Hid (∀ w4, Below (w.heap.size + 1 + 1) ((w.alloc (.cells #[.pointer (some ⟨p, 0, none⟩)] 24)).alloc (.cells #[.int .i64 0] 33)) w4 → w4.cell? ⟨w.heap.size + 1, 0, none⟩ = some (.int .i64 0) ∧ w4.frozen? ⟨w.heap.size + 1, 0, none⟩ = false ∧ Below w.heap.size w w4) := hidb (fun w4 hb => ⟨by rw [hb.cell (by show w.heap.size + 1 < _; omega)]; exact b4, by rw [hb.frozen (by show w.heap.size + 1 < _; omega)]; exact b5, b1.trans (hb.mono (by omega))⟩)
      clear hx hap hs hr hN hid1 hT I0 hs1 b1 b2 b3 b4 b5 E ca hok
      go_enter_defers Try.func11, Try.ntmps11
      go_wp2_with (first
        | (go_at_call 23; (with_reducible refine cb.mono ?_); rintro e w4 ⟨rfl, hb4⟩))
      obtain ⟨hcE, hfE, hbw⟩ := HE.out _ hb4
      refine leaves_cons (f := 21) (args := #[.pointer (some ⟨w.heap.size + 1, 0, none⟩)]) (by simp) (by simp [go_sem]) ?_
      refine (catch_drop 59 9 (fun w => code_told9 w) ⟨w.heap.size + 1, 0, none⟩ 0 _ (lt_of_cell hcE) hcE hfE).mono ?_
      rintro e u' w'' ⟨rfl, rfl, rfl⟩
      have P := putEnd_no (T := 59) HX.out hbw (e := w.heap.size + 1) (by omega) 9 (.int .i64 9)
      have hT := told_cell hcE 59 (.int .i64 9)
      simp [Leaves, settle, results, Try.results11, go_sem, hT]
      exact P
    | true =>
      rw [hok] at E
      obtain rfl : N = (writeAll ids 0 (pgs rs), 0) := by simpa using E
      have cb : Calls Try.prog 23 #[.pointer (some ⟨p, 0, none⟩), .slice A m c, .func (.func 24) #[] #[.pointer (some ⟨w.heap.size, 0, none⟩)]] ((w.alloc (.cells #[.pointer (some ⟨p, 0, none⟩)] 24)).alloc (.cells #[.int .i64 0] 33))
          fun e w' => e = .returned (.tuple #[]) ∧ DropI ((w.alloc (.cells #[.pointer (some ⟨p, 0, none⟩)] 24)).alloc (.cells #[.int .i64 0] 33)) B p g n ids w.heap.size w' := ca.mono (by
            rintro e w' (⟨_, h1⟩ | ⟨h1, _⟩)
            · exact h1
            · rw [hok] at h1; cases h1)
      have HE : Hid (∀ w4, Below (w.heap.size + 1 + 1) ((w.alloc (.cells #[.pointer (some ⟨p, 0, none⟩)] 24)).alloc (.cells #[.int .i64 0] 33)) w4 → w4.cell? ⟨w.heap.size + 1, 0, none⟩ = some (.int .i64 0) ∧ w4.frozen? ⟨w.heap.size + 1, 0, none⟩ = false ∧ Below w.heap.size w w4) := hidb (fun w4 hb => ⟨by rw [hb.cell (by show w.heap.size + 1 < _; omega)]; exact b4, by rw [hb.frozen (by show w.heap.size + 1 < _; omega)]; exact b5, b1.trans (hb.mono (by omega))⟩)
      have CW : Hid (∀ w4, DropI ((w.alloc (.cells #[.pointer (some ⟨p, 0, none⟩)] 24)).alloc (.cells #[.int .i64 0] 33)) B p g n ids w.heap.size w4 →
          Calls Try.prog 25 #[.pointer (some ⟨p, 0, none⟩), .int .i64 0, .slice A m c] w4 fun e w5 => e = .returned (.tuple #[]) ∧ Ix w5 B p g n (writeAll ids 0 (pgs rs)) ∧ w4.grownBy w5 (some g)) := hidb (fun w4 h => by
        have hbw := b1.trans (h.bel.mono b1.size)
        exact code_xwrite 0 A m c rs w4 h.ix hap ((hs.below hbw).more hbw.size) hm hT)
      clear hx hap hs hr hN hid1 hT I0 hs1 b1 b2 b3 b4 b5 E ca hok
      go_enter_defers Try.func11, Try.ntmps11
      go_wp2_with (first
        | (go_at_call 23; (with_reducible refine cb.mono ?_); rintro e w4 ⟨rfl, S4⟩; have hcx4 := S4.cx; have cw := CW.out _ S4; have HS4 := hidb S4; clear S4)
        | (go_at_call 25; (with_reducible refine cw.mono ?_); rintro e w5 ⟨rfl, hx5, hg5⟩; have HE4 := hidb (HE.out w4 (by have := HS4.out.bel; rw [HB2.out] at this; exact this)); have HE5 := hidb (rcell hg5 (by omega) HE4.out.1 HE4.out.2.1); have hcE := HE5.out.1; have hfE := HE5.out.2; have HX5 := hidb hx5; have HG5 := hidb hg5; clear hx5 hg5))
      have hcE2 := World.cell?_setCell_same _ _ (.int .i64 0) hcE
      have hb14 : w.grownBy w4 (some g) := below_to_grown HE4.out.2.2 _
      have P := putEnd_ok HX5.out (grown_trans hb14 HG5.out) (e := w.heap.size + 1) (by omega) hlp hlg 0 (.int .i64 0) (.int .i64 0)
      refine leaves_cons (f := 21) (args := #[.pointer (some ⟨w.heap.size + 1, 0, none⟩)]) (by simp) (by simp [go_sem]) ?_
      refine (idle_drop ⟨w.heap.size + 1, 0, none⟩ 0 _ hcE2 (by simp [hfE])).mono ?_
      rintro e u' w'' ⟨rfl, rfl, rfl⟩
      have hc2 := World.cell?_setCell_same (w5.setCell ⟨w.heap.size + 1, 0, none⟩ (.int .i64 0)) ⟨w.heap.size + 1, 0, none⟩ (.int .i64 0) hcE2
      simp [Leaves, settle, results, Try.results11, go_sem, hc2]
      exact P

end Go.Proofs.Ytoghahldlnhpdaa
