/- The walk of layer 7's statement on a span that is made, and freed at once. -/
import Derived.Test.YtcngcibiibchiaaGreatHeapLaws0
namespace Go.Proofs.YtcngcibiibchiaaGreat
open Go.RowKit
set_option linter.unusedVariables false

/-- Make answers an error, and changes nothing; or another span. -/
theorem hMake_two {h : HeapV} (k : HOk h) (n : Int) : (∃ no, no ≠ 0 ∧ hMake h n 0 = (h, spanNone, no)) ∨ ∃ h' h'' s1 s2 s3 s4, hMake h n 0 = (h', (s1, s2, s3, s4), 0) ∧ hDrop h' [s1] = (h'', 0) ∧ h''.free = h.free ∧ hSpans h'' = hSpans h ∧ 1 ≤ s1 ∧ s1 ≤ h.last + 1 := by
  by_cases c : n < 1 ∨ (0 : Int) < -1 ∨ 3 < (0 : Int)
  · exact Or.inl ⟨1, by decide, hMake_arg c⟩
  · cases hb : fBest h.free n with
    | none => exact Or.inl ⟨3, by decide, hMake_full c hb⟩
    | some r =>
      obtain ⟨g, _, _, _, e, k2⟩ := hMake_yes k c hb
      have hc : [h.last + 1].Nodup ∧ ∀ i ∈ [h.last + 1], ∃ s ∈ (h.l ++ [(h.last + 1, r.1, n, (0 : Int))]), s.1 = i := ⟨by simp, fun i hi => by obtain rfl := List.mem_singleton.1 hi; exact ⟨_, List.mem_append_right _ (List.mem_cons_self ..), rfl⟩⟩
      obtain ⟨g2, e2, k3⟩ := hDrop_yes k2 hc
      have hl : hLeft (h.l ++ [(h.last + 1, r.1, n, (0 : Int))]) [h.last + 1] = h.l := by
        unfold hLeft
        rw [List.filter_append, List.filter_eq_self.2 (fun s hs => by have := k.idr s hs; simp; omega)]
        simp
      have hl2 : hLeft (⟨h.pages, g, h.l ++ [(h.last + 1, r.1, n, (0 : Int))], h.last + 1⟩ : HeapV).l [h.last + 1] = h.l := hl
      rw [hl2] at e2 k3
      have hla := k.la
      refine Or.inr ⟨_, _, _, _, _, _, e, e2, ?_, rfl, by omega, by omega⟩
      exact k3.free_eq k rfl (fun s => Iff.rfl)

theorem same_offH {A A2 : Option Addr} {n m c c2 : Nat} {xs ys : List (Int × Int)} {W : World} {B B2 : Nat} (h1 : Rn W B A n xs) (h2 : Rn W B2 A2 m ys) (hn : n ≤ 65536) (hm : m ≤ 65536) :
    Calls Tryz.prog 19 #[.slice A n c, .slice A2 m c2] W fun e w' => e = .returned (.bool (decide (xs = ys))) ∧ Below W.heap.size W w' :=
  (ref_xsame A A2 n c m c2 xs ys W B B2 h1 h2 (by omega) (by omega)).mono fun e w' ⟨x, q, y⟩ => ⟨x, by rw [y]; exact belowN (Below.refl _ _) q⟩
theorem same_spans {A A2 : Option Addr} {n m c c2 : Nat} {xs ys : List (Int × Int × Int × Int)} {W : World} {B B2 : Nat} (h1 : Sn W B A n xs) (h2 : Sn W B2 A2 m ys) (hn : n ≤ 1000000000) (hm : m ≤ 1000000000) :
    Calls Tryz.prog 16 #[.slice A n c, .slice A2 m c2] W fun e w' => e = .returned (.bool (decide (xs = ys))) ∧ Below W.heap.size W w' :=
  (ref_hsame A A2 n c m c2 xs ys W B B2 h1 h2 (by omega) (by omega)).mono fun e w' ⟨x, q, y⟩ => ⟨x, by rw [y]; exact belowN (Below.refl _ _) q⟩
theorem t_same5 {A A2 : Option Addr} {c c2 : Nat} {xs : List (Int × Int)} {W : World} {B base : Nat} (h1 : Rn W B A xs.length xs) (h2 : W.ownsRow base 41 2 (.slice A2 xs.length c2) xs.length (rcells xs)) (hn : xs.length ≤ 65536) :
    Calls Tryz.prog 19 #[.slice A xs.length c, .slice A2 xs.length c2] W fun e w' => e = .returned (.bool true) ∧ Below W.heap.size W w' :=
  (same_offH h1 (Rn.of_own h2 rfl) hn hn).mono fun e w' ⟨x, y⟩ => ⟨by rw [x]; simp, y⟩
theorem t_same7 {A A2 : Option Addr} {c c2 : Nat} {xs : List (Int × Int × Int × Int)} {W : World} {B base : Nat} (h1 : Sn W B A xs.length xs) (h2 : W.ownsRow base 43 4 (.slice A2 xs.length c2) xs.length (cellsAll scells xs)) (hn : xs.length ≤ 1000000000) :
    Calls Tryz.prog 16 #[.slice A xs.length c, .slice A2 xs.length c2] W fun e w' => e = .returned (.bool true) ∧ Below W.heap.size W w' :=
  (same_spans h1 (RowOf.of_own scells_len h2 rfl) hn hn).mono fun e w' ⟨x, y⟩ => ⟨by rw [x]; simp, y⟩
/-- One number, laid. -/
theorem Sl.one_ (w : World) (i : Int) (t : TypeId) : Sl (w.alloc (.cells #[.int .i64 i] t)) (w.alloc (.cells #[.int .i64 i] t)).heap.size (some ⟨w.heap.size, 0, none⟩) 1 ([i].map iv) := by
  refine ⟨rfl, fun _ => ⟨w.heap.size, 0, rfl, by simp, fun j hj => ?_⟩⟩
  obtain rfl : j = 0 := by omega
  exact World.cell?_alloc_at _ _ _ 0 (by simp)
theorem OwnAp.own {S : Nat → Prop} {W : World} {base : Nat} {e : TypeId} {s : Nat} {v : Value} {n : Nat} {xs : List Value} (h : OwnAp S W base e s v n xs) : W.ownsRow base e s v n xs := h.1
theorem Sl.one2 (w : World) (i s2 s3 s4 : Int) : Sl ((w.alloc (.cells #[.int .i64 i, .int .i64 s2, .int .i64 s3, .int .i64 s4] 43)).alloc (.cells #[.int .i64 i] 3)) ((w.alloc (.cells #[.int .i64 i, .int .i64 s2, .int .i64 s3, .int .i64 s4] 43)).alloc (.cells #[.int .i64 i] 3)).heap.size (some ⟨w.heap.size + 1, 0, none⟩) 1 ([i].map iv) := by
  have h := Sl.one_ (w.alloc (.cells #[.int .i64 i, .int .i64 s2, .int .i64 s3, .int .i64 s4] 43)) i 3
  rw [show (⟨w.heap.size + 1, 0, none⟩ : Addr) = ⟨(w.alloc (.cells #[.int .i64 i, .int .i64 s2, .int .i64 s3, .int .i64 s4] 43)).heap.size, 0, none⟩ by simp]
  exact h
theorem Sn.of_own_ {W : World} {base : Nat} {A : Option Addr} {c : Nat} {xs : List (Int × Int × Int × Int)} (h : W.ownsRow base 43 4 (.slice A xs.length c) xs.length (cellsAll scells xs)) : Sn W W.heap.size A xs.length xs := RowOf.of_own scells_len h rfl
theorem Nat.le_k : 1 ≤ 60000 := by omega
/-- How many spans there are. -/
theorem spans_len {h : HeapV} (k : HOk h) (hlb : h.last ≤ 1000000000) : (hSpans h).length ≤ 1000000000 := by
  have hr := hSpans_rises k
  refine allOf_len k hlb _ ⟨?_, hSpans_mem k⟩
  unfold List.Nodup
  rw [List.pairwise_map]
  refine List.Pairwise.imp_of_mem ?_ hr
  intro a b ha hb h1 e
  have := ids_inj k.ids ((hSpans_mem k a).1 ha) ((hSpans_mem k b).1 hb) e
  subst this; omega

/-- The act at a place. -/
theorem act_at {w W : World} {B m : Nat} {A : Option Addr} {l : List Act7} (hs : RowOf (Act7Is w) 4 W B A m l) {j : Nat} (hj : j < m) :
    ∃ b off a, A = some ⟨b, off, none⟩ ∧ b < B ∧ l[j]? = some a ∧ Act7Is w [.bool a.free, .slice a.A a.len a.cap, iv a.pages, iv a.order] a ∧ W.cell? ⟨b, off + j * 4, none⟩ = some (.bool a.free) ∧ W.cell? ⟨b, off + j * 4 + 1, none⟩ = some (.slice a.A a.len a.cap) ∧ W.cell? ⟨b, off + j * 4 + 2, none⟩ = some (.int .i64 a.pages) ∧ W.cell? ⟨b, off + j * 4 + 3, none⟩ = some (.int .i64 a.order) := by
  obtain ⟨b, off, a, cs, e, hb, hy, hl, hc, ha⟩ := RowOf.at_ hs hj
  obtain ⟨rfl, h2⟩ := ha
  refine ⟨b, off, a, e, hb, hy, ⟨rfl, h2⟩, hc 0 (by omega), hc 1 (by omega), hc 2 (by omega), hc 3 (by omega)⟩

end Go.Proofs.YtcngcibiibchiaaGreat
