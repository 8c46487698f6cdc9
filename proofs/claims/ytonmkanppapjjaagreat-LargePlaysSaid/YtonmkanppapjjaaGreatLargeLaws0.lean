/- What layer 10's statements have in common: a heap and its keeper, the document's example. -/
import Derived.Test.YtonmkanppapjjaaGreatLargeGive
import Derived.Test.YtonmkanppapjjaaGreatIntsRef
import Derived.Test.YtonmkanppapjjaaGreatRunSame
namespace Go.Proofs.YtonmkanppapjjaaGreat
open Go.RowKit
set_option linter.unusedVariables false

/-- What stands beside a keeper stays. -/
def SideK (S : Nat → Prop) (W : World) (S' : Nat → Prop) (W' : World) : Prop := Kept S W W' ∧ ∀ b, S' b → S b ∨ W.heap.size ≤ b
theorem SideK.not {S S' : Nat → Prop} {W W' : World} (h : SideK S W S' W') {b : Nat} (hb : b < W.heap.size) (hn : ¬ S b) : ¬ S' b := fun c => (h.2 b c).elim hn fun q => by omega
theorem SideK.sp {S S' : Nat → Prop} {W W' : World} (h : SideK S W S' W') {t : Nat} {s : Spn} (hs : SpAt W t s) (hn : ¬ S t) : SpAt W' t s ∧ ¬ S' t := by
  have hb := h.1.block t hs.lt hn
  exact ⟨⟨(World.cell?_of_block (w := W) (a := ⟨t, 0, none⟩) hb).trans hs.1, (World.cell?_of_block (w := W) (a := ⟨t, 1, none⟩) hb).trans hs.2.1, (World.cell?_of_block (w := W) (a := ⟨t, 2, none⟩) hb).trans hs.2.2.1, (World.cell?_of_block (w := W) (a := ⟨t, 3, none⟩) hb).trans hs.2.2.2⟩, h.not hs.lt hn⟩
theorem SideK.sl {S S' : Nat → Prop} {W W' : World} (h : SideK S W S' W') {A : Option Addr} {n : Nat} {xs : List Value} (hs : Sl W W.heap.size A n xs) (hn : ∀ a, A = some a → ¬ S a.block) : Sl W' W'.heap.size A n xs := Sl.kept (B := 0) hs h.1 hn
/-- A keeper that the law has made, behind k spans at most. -/
structure KeepSt (w W : World) (p hp : Nat) (S : Nat → Prop) (v : LargeV) (k : Nat) (pages : Int) : Prop where
  at_ : ∃ Sh K kc V vc, KpAt W Sh p hp K kc V vc v ∧ ∀ b, KpS Sh p K V b → S b
  ok : LOk v
  lt : ∀ b, S b → b < W.heap.size
  low : ∀ b, S b → w.heap.size ≤ b
  bel : Below w.heap.size w W
  la : v.h.last ≤ k
  pg : v.h.pages = pages
section
variable {w W W' : World} {p hp : Nat} {S : Nat → Prop} {v v' : LargeV} {k k' : Nat} {pages : Int}
theorem KeepSt.below (s : KeepSt w W p hp S v k pages) (hb : Below W.heap.size W W') : KeepSt w W' p hp S v k pages := by
  obtain ⟨⟨Sh, K, kc, V, vc, q1, q2⟩, l0, l1, l2, l3, l4, l5⟩ := s
  exact ⟨⟨Sh, K, kc, V, vc, q1.below hb, q2⟩, l0, fun b h => Nat.lt_of_lt_of_le (l1 b h) hb.size, l2, l3.trans (hb.mono l3.size), l4, l5⟩
theorem more_any2 {S : Nat → Prop} {W W' : World} {b : Nat} (h : S b ∨ W.heap.size ≤ b) (hl : b < W'.heap.size) : more S W W' b := ⟨h, hl⟩
theorem KeepSt.did {S0 : Nat → Prop} (s : KeepSt w W p hp S v k pages) (h0 : ∀ b, S0 b → S b) (h : KWent W S0 p hp W' v') (ho : LOk v') (hl : v'.h.last ≤ k') (hg : v'.h.pages = v.h.pages) : KeepSt w W' p hp (more S W W') v' k' pages ∧ Kept S W W' := by
  obtain ⟨Sh, K, kc, V, vc, q1, q2, q3⟩ := h
  have hK : Kept S W W' := ⟨q2.os, q2.tape, q2.output, q2.size, fun b hb hn => q2.block b hb (fun c => hn (h0 b c))⟩
  refine ⟨⟨⟨Sh, K, kc, V, vc, q1, fun b hb => more_any2 ?_ (q1.lt b hb)⟩, ho, fun b hb => hb.2, more_low s.bel.size s.low, s.bel.trans (hK.below s.bel.size s.low), hl, hg.trans s.pg⟩, hK⟩
  rcases q3 b hb with h | h
  · exact Or.inl (h0 b h)
  · exact Or.inr h
theorem KeepSt.new_ {e : TypeId} {t : Nat} {u : Value} {n : Nat} {xs : List Value} (st : KeepSt w W p hp S v k pages) (hr : W'.ownsRow W.heap.size e t u n xs) : OwnAp S W' W.heap.size e t u n xs :=
  ⟨hr, fun q hq c => by have h1 := (hr.lt q hq).1; have h2 := st.lt q c; omega⟩
theorem LOk.take_heap (o : LOk v) (n : Int) : (lTake v n).1.h.pages = v.h.pages ∧ (lTake v n).1.h.last ≤ v.h.last + 1 := by
  have h := hMake_ok o.hok n (-1)
  unfold lTake
  split
  · exact ⟨rfl, by show v.h.last ≤ v.h.last + 1; omega⟩
  · split
    · exact ⟨rfl, by show v.h.last ≤ v.h.last + 1; omega⟩
    · exact ⟨h.2.1, h.2.2.2⟩
theorem LOk.hold_heap (o : LOk v) (on : Bool) : (lHold v on).h.pages = v.h.pages ∧ (lHold v on).h.last = v.h.last := by
  unfold lHold
  split
  · exact ⟨rfl, rfl⟩
  · have := hDrop_ok o.hok (v.waits.map (·.1))
    exact ⟨this.2.1, this.2.2.2⟩
theorem LOk.flush_heap (o : LOk v) : (lFlush v).h.pages = v.h.pages ∧ (lFlush v).h.last = v.h.last := by
  have := hDrop_ok o.hok (v.kept.map (·.1))
  exact ⟨this.2.1, this.2.2.2⟩

theorem t_ktake (s : KeepSt w W p hp S v k pages) (hk : k + 1 ≤ 1000000000) (n : Int) (hn : in64 n) (v' : LargeV) (s1 s2 s3 s4 no : Int) (e : lTake v n = (v', (s1, s2, s3, s4), no)) :
    Calls Tryz.prog 34 #[.pointer (some ⟨p, 0, none⟩), .int .i64 n] W fun e w' => e = .returned (.tuple #[.agg #[.int .i64 s1, .int .i64 s2, .int .i64 s3, .int .i64 s4], .int .i64 no]) ∧ ∃ S', KeepSt w w' p hp S' v' (k + 1) pages ∧ SideK S W S' w' := by
  obtain ⟨Sh, K, kc, V, vc, q1, q2⟩ := s.at_
  have hla := s.la
  have hh := s.ok.take_heap n
  have ho := s.ok.take n
  rw [e] at hh ho
  refine (code_ktake q1 n hn (by omega)).mono ?_
  rw [e]
  rintro e' w' ⟨rfl, hw⟩
  obtain ⟨s2, hK⟩ := s.did (k' := k + 1) q2 hw ho (by have h1 : v'.h.last ≤ v.h.last + 1 := hh.2; omega) hh.1
  exact ⟨rfl, _, s2, ⟨hK, fun b h => h.1⟩⟩
theorem t_kgive (s : KeepSt w W p hp S v k pages) (A : Option Addr) (N c : Nat) (ids : List Int) (hs : Sl W W.heap.size A N (ids.map iv)) (hN : N ≤ 60000) (hid : ∀ i ∈ ids, in64 i) (v' : LargeV) (no : Int) (e : lGive v ids = (v', no)) :
    Calls Tryz.prog 36 #[.pointer (some ⟨p, 0, none⟩), .slice A N c] W fun e w' => e = .returned (.int .i64 no) ∧ ∃ S', KeepSt w w' p hp S' v' k pages ∧ SideK S W S' w' := by
  obtain ⟨Sh, K, kc, V, vc, q1, q2⟩ := s.at_
  have hh := s.ok.give ids
  rw [e] at hh
  refine (code_kgive q1 s.ok A N c ids hs hN hid).mono ?_
  rw [e]
  rintro e' w' ⟨rfl, hw⟩
  obtain ⟨s2, hK⟩ := s.did (k' := k) q2 hw hh.1 (by have h1 : v'.h.last = v.h.last := hh.2.2.2; have := s.la; omega) hh.2.2.1
  exact ⟨rfl, _, s2, ⟨hK, fun b h => h.1⟩⟩
theorem t_khold (s : KeepSt w W p hp S v k pages) (on : Bool) (v' : LargeV) (was : Bool) (e : lHold v on = v') (hwas : v.held = was) :
    Calls Tryz.prog 35 #[.pointer (some ⟨p, 0, none⟩), .bool on] W fun e w' => e = .returned (.bool was) ∧ ∃ S', KeepSt w w' p hp S' v' k pages ∧ SideK S W S' w' := by
  obtain ⟨Sh, K, kc, V, vc, q1, q2⟩ := s.at_
  have hh := s.ok.hold_heap on
  have ho := s.ok.hold on
  rw [e] at hh ho
  refine (code_khold q1 s.ok on).mono ?_
  rw [e, hwas]
  rintro e' w' ⟨rfl, hw⟩
  obtain ⟨s2, hK⟩ := s.did (k' := k) q2 hw ho (by have := s.la; omega) hh.1
  exact ⟨rfl, _, s2, ⟨hK, fun b h => h.1⟩⟩
theorem t_kflush (s : KeepSt w W p hp S v k pages) (v' : LargeV) (n : Nat) (e : lFlush v = v') (hn : v.kept.length = n) :
    Calls Tryz.prog 37 #[.pointer (some ⟨p, 0, none⟩)] W fun e w' => e = .returned (.int .i64 (n : Int)) ∧ ∃ S', KeepSt w w' p hp S' v' k pages ∧ SideK S W S' w' := by
  obtain ⟨Sh, K, kc, V, vc, q1, q2⟩ := s.at_
  have hh := s.ok.flush_heap
  have ho := s.ok.flush
  rw [e] at hh ho
  refine (code_kflush q1 s.ok).mono ?_
  rw [e, hn]
  rintro e' w' ⟨rfl, hw⟩
  obtain ⟨s2, hK⟩ := s.did (k' := k) q2 hw ho (by have := s.la; omega) hh.1
  exact ⟨rfl, _, s2, ⟨hK, fun b h => h.1⟩⟩
/-- The heap makes a span by itself. -/
theorem t_khmake (s : KeepSt w W p hp S v k pages) (hk : k + 1 ≤ 1000000000) (n o : Int) (h0 : in64 n) (h1 : in64 o) (h' : HeapV) (s1 s2 s3 s4 no : Int) (e : hMake v.h n o = (h', (s1, s2, s3, s4), no)) :
    Calls Tryz.prog 55 #[.pointer (some ⟨hp, 0, none⟩), .int .i64 n, .int .i64 o] W fun e w' => e = .returned (.tuple #[.agg #[.int .i64 s1, .int .i64 s2, .int .i64 s3, .int .i64 s4], .int .i64 no]) ∧ ∃ S', KeepSt w w' p hp S' { v with h := h' } (k + 1) pages ∧ SideK S W S' w' := by
  obtain ⟨Sh, K, kc, V, vc, q1, q2⟩ := s.at_
  have hla := s.la
  have hm := hMake_ok s.ok.hok n o
  have ho := s.ok.make n o
  rw [e] at hm ho
  refine (code_hmake q1.hp_ n o h0 h1 (by omega)).mono ?_
  rw [e]
  rintro e' w' ⟨rfl, hh, hK⟩
  obtain ⟨r1, r2⟩ := q1.heap_ hh hK
  obtain ⟨s2, hK2⟩ := s.did (k' := k + 1) q2 (r1.went ((Kept.refl (KpS Sh p K V) W).trans hK fun b _ h => Or.inl h) r2) ho (by have h1 : h'.last ≤ v.h.last + 1 := hm.2.2.2; show h'.last ≤ _; omega) hm.2.1
  exact ⟨rfl, _, s2, ⟨hK2, fun b h => h.1⟩⟩
theorem t_kkept (s : KeepSt w W p hp S v k pages) (n : Int) (l : List Int) (e : (lOf v.kept n).map (·.1) = l) : Calls Tryz.prog 40 #[.pointer (some ⟨p, 0, none⟩), .int .i64 n] W fun e w' => ∃ A c, e = .returned (.slice A l.length c) ∧ w'.ownsRow W.heap.size 3 1 (.slice A l.length c) l.length (l.map iv) ∧ Below W.heap.size W w' := by
  obtain ⟨Sh, K, kc, V, vc, q1, q2⟩ := s.at_
  have := code_kkept q1.parts n
  rw [e] at this
  exact this
theorem t_kwaits (s : KeepSt w W p hp S v k pages) (l : List Int) (e : v.waits.map (·.1) = l) : Calls Tryz.prog 39 #[.pointer (some ⟨p, 0, none⟩)] W fun e w' => ∃ A c, e = .returned (.slice A l.length c) ∧ w'.ownsRow W.heap.size 3 1 (.slice A l.length c) l.length (l.map iv) ∧ Below W.heap.size W w' := by
  obtain ⟨Sh, K, kc, V, vc, q1, q2⟩ := s.at_
  have := code_kwaits q1.parts
  rw [e] at this
  exact this
theorem t_khruns (s : KeepSt w W p hp S v k pages) (l : List (Int × Int)) (e : fList v.h.free = l) : Calls Tryz.prog 29 #[.pointer (some ⟨hp, 0, none⟩)] W fun e w' => ∃ A c, e = .returned (.slice A l.length c) ∧ w'.ownsRow W.heap.size 48 2 (.slice A l.length c) l.length (rcells l) ∧ Below W.heap.size W w' := by
  obtain ⟨Sh, K, kc, V, vc, q1, q2⟩ := s.at_
  have := code_hruns q1.hp_
  rw [e] at this
  exact this
theorem t_khspans (s : KeepSt w W p hp S v k pages) (l : List (Int × Int × Int × Int)) (e : hSpans v.h = l) : Calls Tryz.prog 26 #[.pointer (some ⟨hp, 0, none⟩)] W fun e w' => ∃ A c, e = .returned (.slice A l.length c) ∧ w'.ownsRow W.heap.size 50 4 (.slice A l.length c) l.length (cellsAll scells l) ∧ Below W.heap.size W w' := by
  obtain ⟨Sh, K, kc, V, vc, q1, q2⟩ := s.at_
  have := code_hspans q1.hp_
  rw [e] at this
  exact this
end
/-- New of a heap that the law has made. -/
theorem t_knew {w W : World} {hp : Nat} {Sh : Nat → Prop} {h : HeapV} {k : Nat} {pages : Int} (s : HeapSt w W hp Sh h k pages) :
    Calls Tryz.prog 33 #[.pointer (some ⟨hp, 0, none⟩)] W fun e w' => ∃ p S, e = .returned (.pointer (some ⟨p, 0, none⟩)) ∧ KeepSt w w' p hp S ⟨h, [], [], false⟩ k pages := by
  refine (code_knew s.hp).mono ?_
  rintro e w' ⟨p, rfl, q1, q2, q3⟩
  have hb := s.bel.size
  refine ⟨p, KpS Sh p none none, rfl, ⟨Sh, none, 0, none, 0, q1, fun b h => h⟩, ⟨s.hp.ok, fun x hx => (by cases hx), List.nodup_nil, fun _ => rfl⟩, q1.lt, fun b h => ?_, s.bel.trans (q2.mono hb), s.la, s.pg⟩
  rcases h with h | h | h | h
  · exact s.low b h
  · omega
  · cases h
  · cases h

/-- The document's example. -/
theorem make_at {h : HeapV} (k : HOk h) {n o a l : Int} (c : ¬ (n < 1 ∨ o < -1 ∨ 3 < o)) (hl : fList h.free = [(a, l)]) (hb : n ≤ l) :
    ∃ g, hMake h n o = (⟨h.pages, g, h.l ++ [(h.last + 1, a, n, o)], h.last + 1⟩, (h.last + 1, a, n, o), 0) ∧ HOk ⟨h.pages, g, h.l ++ [(h.last + 1, a, n, o)], h.last + 1⟩ ∧ fList g = leftL (a, l) (a, n) := by
  have hb2 : fBest h.free n = some (a, l) := by
    rw [fBest_is h.free (by rw [k.fl]; exact Nat.le_refl _), hl, if_neg (by omega)]
    unfold bestOf bestStep
    simp [hb]
  obtain ⟨g, e1, e2, e3, e4, e5⟩ := hMake_yes k c hb2
  obtain ⟨g', f1, f2⟩ := cut_yes k.fl e2 (i := 0) (r := (a, l)) (by rw [hl]; rfl) (by unfold inRun; simp; omega)
  rw [e1] at f1
  injection f1 with f1 _
  subst f1
  exact ⟨g, e4, e5, by rw [f2, hl]; simp⟩
theorem aw_chain {F : List Bool} (hN : hNew 12 = (⟨12, F, [], 0⟩, 0)) : ∃ h1 h2 h3 v4, lTake ⟨⟨12, F, [], 0⟩, [], [], false⟩ 4 = (⟨h1, [], [], false⟩, (1, 0, 4, -1), 0) ∧ lTake ⟨h1, [], [], false⟩ 4 = (⟨h2, [], [], false⟩, (2, 4, 4, -1), 0) ∧ lTake ⟨h2, [], [], false⟩ 4 = (⟨h3, [], [], false⟩, (3, 8, 4, -1), 0) ∧
    lGive ⟨h3, [], [], false⟩ [1, 2, 3] = (v4, 0) ∧ (lOf v4.kept 4).map (·.1) = [1, 2] ∧ (hSpans v4.h).length = 2 := by
  obtain ⟨F', e1, _, hk⟩ := hNew_ok (pages := 12) (by omega) (by omega)
  obtain rfl : F' = F := by rw [e1] at hN; injection hN with hN _; injection hN
  have hl := hk.ends rfl
  simp only at hl
  have h4 : lFits 4 = true := by decide +kernel
  have ht : ∀ h, lTake ⟨h, [], [], false⟩ 4 = (⟨(hMake h 4 (-1)).1, [], [], false⟩, (hMake h 4 (-1)).2.1, (hMake h 4 (-1)).2.2) := fun h => by
    unfold lTake
    rw [if_neg (by rw [h4]; simp)]
    rfl
  obtain ⟨g1, m1, k1, l1⟩ := make_at hk (n := 4) (o := -1) (by omega) hl (by omega)
  obtain ⟨g2, m2, k2, l2⟩ := make_at k1 (n := 4) (o := -1) (a := 4) (l := 8) (by omega) (by show fList g1 = _; rw [l1]; decide) (by omega)
  obtain ⟨g3, m3, k3, l3⟩ := make_at k2 (n := 4) (o := -1) (a := 8) (l := 4) (by omega) (by show fList g2 = _; rw [l2]; decide) (by omega)
  have k3' : HOk ⟨12, g3, [(1, 0, 4, -1), (2, 4, 4, -1), (3, 8, 4, -1)], 3⟩ := k3
  refine ⟨⟨12, g1, [(1, 0, 4, -1)], 1⟩, ⟨12, g2, [(1, 0, 4, -1), (2, 4, 4, -1)], 2⟩, ⟨12, g3, [(1, 0, 4, -1), (2, 4, 4, -1), (3, 8, 4, -1)], 3⟩, ⟨(hDrop ⟨12, g3, [(1, 0, 4, -1), (2, 4, 4, -1), (3, 8, 4, -1)], 3⟩ [3]).1, [(1, 0, 4, -1), (2, 4, 4, -1)], [], false⟩, ?_, ?_, ?_, ?_, rfl, ?_⟩
  · rw [ht, m1]; rfl
  · have m2' : hMake ⟨12, g1, [(1, 0, 4, -1)], 1⟩ 4 (-1) = _ := m2
    rw [ht, m2']; rfl
  · have m3' : hMake ⟨12, g2, [(1, 0, 4, -1), (2, 4, 4, -1)], 2⟩ 4 (-1) = _ := m3
    rw [ht, m3']; rfl
  · kernel_rfl
  · have hm : ∀ s ∈ [((3, 8, 4, -1) : Spn)], s ∈ [((1, 0, 4, -1) : Spn), (2, 4, 4, -1), (3, 8, 4, -1)] := by decide
    obtain ⟨g, e, k4⟩ := hDrop_those k3' (l := [(3, 8, 4, -1)]) hm (by simp)
    have e' : hDrop ⟨12, g3, [(1, 0, 4, -1), (2, 4, 4, -1), (3, 8, 4, -1)], 3⟩ [3] = _ := e
    rw [e']
    have hs := hSpans_eq k4 (l := [(1, 0, 4, -1), (2, 4, 4, -1)]) (by unfold Rises; simp) (fun s => by
      show _ ↔ s ∈ hLeft _ _
      have : hLeft [((1, 0, 4, -1) : Spn), (2, 4, 4, -1), (3, 8, 4, -1)] ([((3, 8, 4, -1) : Spn)].map (·.1)) = [(1, 0, 4, -1), (2, 4, 4, -1)] := by decide
      rw [this])
    have hs' : hSpans (⟨12, g, hLeft [(1, 0, 4, -1), (2, 4, 4, -1), (3, 8, 4, -1)] ([((3, 8, 4, -1) : Spn)].map (·.1)), 3⟩ : HeapV) = [(1, 0, 4, -1), (2, 4, 4, -1)] := hs
    rw [hs']; rfl
set_option maxHeartbeats 1000000 in
theorem awake10 (w : World) : Calls Tryz.prog 32 #[] w fun e w' => e = .returned (.bool true) ∧ Below w.heap.size w w' := by
  obtain ⟨F, hN, c1⟩ := t_hnew 12 w (by omega) (by omega)
  obtain ⟨h1, h2, h3, v4, e1, e2, e3, e4, e5, e6⟩ := aw_chain hN
  have C2 : Hid (∀ W p Sh, HeapSt w W p Sh ⟨12, F, [], 0⟩ 0 12 → Calls Tryz.prog 33 #[.pointer (some ⟨p, 0, none⟩)] W fun e w' => ∃ q S, e = .returned (.pointer (some ⟨q, 0, none⟩)) ∧ Hid (KeepSt w w' q p S ⟨⟨12, F, [], 0⟩, [], [], false⟩ 0 12)) := hidb (fun W p Sh s => (t_knew s).mono fun e w' ⟨q, S, a, b⟩ => ⟨q, S, a, hidb b⟩)
  have C3 : Hid (∀ W q p S, Hid (KeepSt w W q p S ⟨⟨12, F, [], 0⟩, [], [], false⟩ 0 12) → Calls Tryz.prog 34 #[.pointer (some ⟨q, 0, none⟩), .int .i64 4] W fun e w' => e = .returned (.tuple #[.agg #[.int .i64 1, .int .i64 0, .int .i64 4, .int .i64 (-1)], .int .i64 0]) ∧ ∃ S', Hid (KeepSt w w' q p S' ⟨h1, [], [], false⟩ 1 12)) := hidb (fun W q p S s => (t_ktake s.out (by omega) 4 ⟨by omega, by omega⟩ _ 1 0 4 (-1) 0 e1).mono fun e w' ⟨a, S', b, _⟩ => ⟨a, S', hidb b⟩)
  have C4 : Hid (∀ W q p S, Hid (KeepSt w W q p S ⟨h1, [], [], false⟩ 1 12) → Calls Tryz.prog 34 #[.pointer (some ⟨q, 0, none⟩), .int .i64 4] (W.alloc (.cells #[.int .i64 1, .int .i64 0, .int .i64 4, .int .i64 (-1)] 50)) fun e w' => e = .returned (.tuple #[.agg #[.int .i64 2, .int .i64 4, .int .i64 4, .int .i64 (-1)], .int .i64 0]) ∧ ∃ S', Hid (KeepSt w w' q p S' ⟨h2, [], [], false⟩ 2 12 ∧ SpAt w' W.heap.size (1, 0, 4, -1) ∧ ¬ S' W.heap.size)) := hidb (fun W q p S s => by
    have s2 := s.out.below ((Below.refl _ _).alloc (Nat.le_refl _) (.cells #[.int .i64 1, .int .i64 0, .int .i64 4, .int .i64 (-1)] 50))
    refine (t_ktake s2 (by omega) 4 ⟨by omega, by omega⟩ _ 2 4 4 (-1) 0 e2).mono ?_
    rintro e w' ⟨a, S', b, c⟩
    obtain ⟨d1, d2⟩ := c.sp (SpAt.new_ W (1, 0, 4, -1) 50) (fun h => by have := s.out.lt _ h; omega)
    exact ⟨a, S', hidb ⟨b, d1, d2⟩⟩)
  have C5 : Hid (∀ W q p S b1, Hid (KeepSt w W q p S ⟨h2, [], [], false⟩ 2 12 ∧ SpAt W b1 (1, 0, 4, -1) ∧ ¬ S b1) → Calls Tryz.prog 34 #[.pointer (some ⟨q, 0, none⟩), .int .i64 4] (W.alloc (.cells #[.int .i64 2, .int .i64 4, .int .i64 4, .int .i64 (-1)] 50)) fun e w' => e = .returned (.tuple #[.agg #[.int .i64 3, .int .i64 8, .int .i64 4, .int .i64 (-1)], .int .i64 0]) ∧ ∃ S', Hid (KeepSt w w' q p S' ⟨h3, [], [], false⟩ 3 12) ∧ w'.cell? ⟨b1, 0, none⟩ = some (.int .i64 1) ∧ w'.cell? ⟨W.heap.size, 0, none⟩ = some (.int .i64 2) ∧ b1 < w'.heap.size ∧ W.heap.size < w'.heap.size) := hidb (fun W q p S b1 s => by
    have hb := (Below.refl _ W).alloc (Nat.le_refl _) (.cells #[.int .i64 2, .int .i64 4, .int .i64 4, .int .i64 (-1)] 50)
    have s2 := s.out.1.below hb
    refine (t_ktake s2 (by omega) 4 ⟨by omega, by omega⟩ _ 3 8 4 (-1) 0 e3).mono ?_
    rintro e w' ⟨a, S', b, c⟩
    obtain ⟨d1, d2⟩ := c.sp (SpAt.new_ W (2, 4, 4, -1) 50) (fun h => by have := s.out.1.lt _ h; omega)
    obtain ⟨d3, d4⟩ := c.sp (s.out.2.1.below hb s.out.2.1.lt) s.out.2.2
    exact ⟨a, S', hidb b, d3.1, d1.1, d3.lt, d1.lt⟩)
  have C6 : Hid (∀ W q p S, Hid (KeepSt w W q p S ⟨h3, [], [], false⟩ 3 12) → Calls Tryz.prog 36 #[.pointer (some ⟨q, 0, none⟩), .slice (some ⟨W.heap.size + 1, 0, none⟩) 3 3] ((W.alloc (.cells #[.int .i64 3, .int .i64 8, .int .i64 4, .int .i64 (-1)] 50)).alloc (.cells #[.int .i64 1, .int .i64 2, .int .i64 3] 3)) fun e w' => e = .returned (.int .i64 0) ∧ ∃ S', Hid (KeepSt w w' q p S' v4 3 12)) := hidb (fun W q p S s => by
    have s2 := s.out.below (bel_al2 ((Below.refl _ _).alloc (Nat.le_refl _) (.cells #[.int .i64 3, .int .i64 8, .int .i64 4, .int .i64 (-1)] 50)) (.cells #[.int .i64 1, .int .i64 2, .int .i64 3] 3))
    refine (t_kgive s2 _ 3 3 [1, 2, 3] ⟨rfl, fun _ => ⟨W.heap.size + 1, 0, rfl, by simp, fun j hj => ?_⟩⟩ (by omega) (fun i hi => ?_) v4 0 e4).mono ?_
    · match j, hj with
      | 0, _ => simp [iv]
      | 1, _ => simp [iv]
      | 2, _ => simp [iv]
    · unfold in64
      simp at hi
      omega
    · rintro e w' ⟨a, S', b, c⟩
      exact ⟨a, S', hidb b⟩)
  have C7 : Hid (∀ W q p S, Hid (KeepSt w W q p S v4 3 12) → Calls Tryz.prog 40 #[.pointer (some ⟨q, 0, none⟩), .int .i64 4] W fun e w' => ∃ A c, e = .returned (.slice A 2 c) ∧ Hid (Sl w' w'.heap.size A 2 ([1, 2].map iv)) ∧ Hid (KeepSt w w' q p S v4 3 12)) := hidb (fun W q p S s => by
    refine (t_kkept s.out 4 [1, 2] e5).mono ?_
    rintro e w' ⟨A, c, rfl, a, b⟩
    exact ⟨A, c, rfl, hidb (Sl.of_own a), hidb (s.out.below b)⟩)
  have C8 : Hid (∀ W q p S A c, Hid (Sl W W.heap.size A 2 ([1, 2].map iv)) → Hid (KeepSt w W q p S v4 3 12) → Calls Tryz.prog 20 #[.slice A 2 c, .slice (some ⟨W.heap.size, 0, none⟩) 2 2] (W.alloc (.cells #[.int .i64 1, .int .i64 2] 3)) fun e w' => e = .returned (.bool true) ∧ Hid (KeepSt w w' q p S v4 3 12)) := hidb (fun W q p S A c hs s => by
    have hb := (Below.refl _ W).alloc (Nat.le_refl _) (.cells #[.int .i64 1, .int .i64 2] 3)
    refine (ref_bints A (some ⟨W.heap.size, 0, none⟩) 2 c 2 2 [1, 2] [1, 2] _ _ _ (hs.out.below hb) (⟨rfl, fun _ => ⟨W.heap.size, 0, rfl, Nat.lt_succ_self _, fun j hj => ?_⟩⟩ : Sl _ (W.heap.size + 1) _ _ _) (by omega) (by omega)).mono ?_
    · match j, hj with
      | 0, _ => simp [iv]
      | 1, _ => simp [iv]
    · rintro e w' ⟨rfl, nq, rfl⟩
      exact ⟨rfl, hidb (s.out.below (belowN hb nq))⟩)
  have C9 : Hid (∀ W q p S, Hid (KeepSt w W q p S v4 3 12) → Calls Tryz.prog 26 #[.pointer (some ⟨p, 0, none⟩)] W fun e w' => ∃ A c, e = .returned (.slice A 2 c) ∧ Hid (Below w.heap.size w w')) := hidb (fun W q p S s => by
    have := t_khspans s.out _ rfl
    rw [e6] at this
    refine this.mono ?_
    rintro e w' ⟨A, c, rfl, a, b⟩
    exact ⟨A, c, rfl, hidb (s.out.bel.trans (b.mono s.out.bel.size))⟩)
  clear e1 e2 e3 e4 e5 e6 hN
  go_enter Tryz.func32, Tryz.ntmps32
  go_wp2_with (first
    | (go_at_call 31; (with_reducible refine c1.mono ?_); rintro e w1 ⟨p, Sh, rfl, s1⟩; have c2 := C2.out _ _ _ s1; clear s1)
    | (go_at_call 33; (with_reducible refine c2.mono ?_); rintro e w2 ⟨q, S2, rfl, s2⟩)
    | (go_at_call 34; (with_reducible refine (C3.out _ _ _ _ s2).mono ?_); rintro e w3 ⟨rfl, S3, s3⟩; clear s2)
    | (go_at_call 34; (with_reducible refine (C4.out _ _ _ _ s3).mono ?_); rintro e w4 ⟨rfl, S4, s4⟩; clear s3)
    | (go_at_call 34; (with_reducible refine (C5.out _ _ _ _ _ s4).mono ?_); rintro e w5 ⟨rfl, S5, s5, y1, y2, y3, y4⟩; clear s4)
    | (go_at_call 36; (with_reducible refine (C6.out _ _ _ _ s5).mono ?_); rintro e w6 ⟨rfl, S6, s6⟩; clear s5)
    | (go_at_call 40; (with_reducible refine (C7.out _ _ _ _ s6).mono ?_); rintro e w7 ⟨A7, c7, rfl, hs7, s7⟩; clear s6)
    | (go_at_call 20; (with_reducible refine (C8.out _ _ _ _ _ _ hs7 s7).mono ?_); rintro e w8 ⟨rfl, s8⟩; clear s7)
    | (go_at_call 26; (with_reducible refine (C9.out _ _ _ _ s8).mono ?_); rintro e w9 ⟨A9, c9, rfl, hb9⟩))
  go_ret
  exact ⟨rfl, hb9.out⟩
end Go.Proofs.YtonmkanppapjjaaGreat
