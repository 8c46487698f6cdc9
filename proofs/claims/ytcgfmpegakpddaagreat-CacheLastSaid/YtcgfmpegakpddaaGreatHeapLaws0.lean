/- What layer 7's statements have in common: the document's example, and what each call does to a heap that the law has made. -/
import Derived.Test.YtcgfmpegakpddaaGreatHeapRows
import Derived.Test.YtcgfmpegakpddaaGreatHeapMain
import Derived.Test.YtcgfmpegakpddaaGreatRunSame
import Derived.Test.YtcgfmpegakpddaaGreatHeapActs
namespace Go.Proofs.YtcgfmpegakpddaaGreat
open Go.RowKit
set_option linter.unusedVariables false

theorem eql_span (a b c d a2 b2 c2 d2 : Int) (W : World) : (binOp .eql 49 (.agg #[.int .i64 a, .int .i64 b, .int .i64 c, .int .i64 d]) (.agg #[.int .i64 a2, .int .i64 b2, .int .i64 c2, .int .i64 d2])).run Tryz.prog W = .ok (.bool (decide ((a, b, c, d) = (a2, b2, c2, d2)))) W := by
  simp [go_sem]
  by_cases h1 : a = a2 <;> by_cases h2 : b = b2 <;> by_cases h3 : c = c2 <;> by_cases h4 : d = d2 <;> simp [h1, h2, h3, h4]

/-- A heap that the law has made, behind k spans at most. -/
structure HeapSt (w W : World) (p : Nat) (S : Nat → Prop) (h : HeapV) (k : Nat) (pages : Int) : Prop where
  hp : Hp W S p h
  low : ∀ b, S b → w.heap.size ≤ b
  bel : Below w.heap.size w W
  la : h.last ≤ k
  pg : h.pages = pages
/-- A row that lies in no block of S. -/
def OwnAp (S : Nat → Prop) (W : World) (base : Nat) (e : TypeId) (s : Nat) (v : Value) (n : Nat) (xs : List Value) : Prop := W.ownsRow base e s v n xs ∧ ∀ k, v.ownBlock = some k → ¬ S k
/-- Such rows are so later. -/
def ToO (S : Nat → Prop) (W : World) (S' : Nat → Prop) (W' : World) : Prop := ∀ base e s v n xs, OwnAp S W base e s v n xs → OwnAp S' W' base e s v n xs
theorem ToO.below {S : Nat → Prop} {W W' : World} (hb : Below W.heap.size W W') : ToO S W S W' := fun base e s v n xs ⟨h1, h2⟩ => ⟨own_below h1 hb, h2⟩
theorem ToO.did {S : Nat → Prop} {W W' : World} (hK : Kept S W W') : ToO S W (more S W W') W' := fun base e s v n xs ⟨h1, h2⟩ => ⟨own_kept h1 hK h2, fun k hk c => h2 k hk (more_old (h1.lt k hk).2 c)⟩
theorem ToO.trans {S S' S'' : Nat → Prop} {W W' W'' : World} (h : ToO S W S' W') (h2 : ToO S' W' S'' W'') : ToO S W S'' W'' := fun base e s v n xs k => h2 _ _ _ _ _ _ (h _ _ _ _ _ _ k)
section
variable {w W W' : World} {p : Nat} {S : Nat → Prop} {h : HeapV} {k : Nat} {pages : Int}
/-- A row that a call behind has made. -/
theorem HeapSt.new_ {e : TypeId} {s : Nat} {v : Value} {n : Nat} {xs : List Value} (st : HeapSt w W p S h k pages) (hr : W'.ownsRow W.heap.size e s v n xs) : OwnAp S W' W.heap.size e s v n xs :=
  ⟨hr, fun k hk c => by have h1 := (hr.lt k hk).1; have h2 := st.hp.lt k c; omega⟩
theorem HeapSt.below (s : HeapSt w W p S h k pages) (hb : Below W.heap.size W W') : HeapSt w W' p S h k pages := ⟨s.hp.below hb, s.low, s.bel.trans (hb.mono s.bel.size), s.la, s.pg⟩
theorem HeapSt.did {h' : HeapV} {k' : Nat} (s : HeapSt w W p S h k pages) (hp : Hp W' (more S W W') p h') (hK : Kept S W W') (hl : h'.last ≤ k') (hg : h'.pages = h.pages) : HeapSt w W' p (more S W W') h' k' pages :=
  ⟨hp, more_low s.bel.size s.low, s.bel.trans (hK.below s.bel.size s.low), hl, hg.trans s.pg⟩
theorem t_hmake (s : HeapSt w W p S h k pages) (hk : k + 1 ≤ 1000000000) (kn o : Int) (h0 : in64 kn) (h1 : in64 o) (h' : HeapV) (s1 s2 s3 s4 no : Int) (e : hMake h kn o = (h', (s1, s2, s3, s4), no)) :
    Calls Tryz.prog 56 #[.pointer (some ⟨p, 0, none⟩), .int .i64 kn, .int .i64 o] W fun e w' => e = .returned (.tuple #[.agg #[.int .i64 s1, .int .i64 s2, .int .i64 s3, .int .i64 s4], .int .i64 no]) ∧ ∃ S', HeapSt w w' p S' h' (k + 1) pages ∧ ToO S W S' w' := by
  have hm := hMake_ok s.hp.ok kn o
  have hl := s.la
  rw [e] at hm
  simp only at hm
  refine (code_hmake s.hp kn o h0 h1 (by omega)).mono ?_
  rw [e]
  rintro e w' ⟨rfl, hp, hK⟩
  exact ⟨rfl, _, s.did hp hK (by omega) hm.2.1, ToO.did hK⟩
theorem t_hfree (s : HeapSt w W p S h k pages) (A : Option Addr) (m c : Nat) (ids : List Int) (hs : Sl W W.heap.size A m (ids.map iv)) (hm : m ≤ 60000) (hid : ∀ i ∈ ids, in64 i) (h' : HeapV) (no : Int) (e : hDrop h ids = (h', no)) :
    Calls Tryz.prog 143 #[.pointer (some ⟨p, 0, none⟩), .slice A m c] W fun e w' => e = .returned (.int .i64 no) ∧ ∃ S', HeapSt w w' p S' h' k pages ∧ ToO S W S' w' := by
  have hd := hDrop_ok s.hp.ok ids
  have hl := s.la
  rw [e] at hd
  simp only at hd
  refine (code_hfree s.hp A m c ids hs hm hid).mono ?_
  rw [e]
  rintro e w' ⟨rfl, hp, hK⟩
  exact ⟨rfl, _, s.did hp hK (by omega) hd.2.1, ToO.did hK⟩
theorem t_hruns (s : HeapSt w W p S h k pages) (l : List (Int × Int)) (e : fList h.free = l) : Calls Tryz.prog 27 #[.pointer (some ⟨p, 0, none⟩)] W fun e w' => ∃ A c, e = .returned (.slice A l.length c) ∧ w'.ownsRow W.heap.size 47 2 (.slice A l.length c) l.length (rcells l) ∧ Below W.heap.size W w' := by
  have := code_hruns s.hp
  rw [e] at this
  exact this
theorem t_hspans (s : HeapSt w W p S h k pages) (l : List (Int × Int × Int × Int)) (e : hSpans h = l) : Calls Tryz.prog 24 #[.pointer (some ⟨p, 0, none⟩)] W fun e w' => ∃ A c, e = .returned (.slice A l.length c) ∧ w'.ownsRow W.heap.size 49 4 (.slice A l.length c) l.length (cellsAll scells l) ∧ Below W.heap.size W w' := by
  have := code_hspans s.hp
  rw [e] at this
  exact this
theorem t_hsize (s : HeapSt w W p S h k pages) : Calls Tryz.prog 99 #[.pointer (some ⟨p, 0, none⟩)] W fun e w' => e = .returned (.int .i64 pages) ∧ Below W.heap.size W w' := by
  have := code_hsize s.hp
  rw [s.pg] at this
  exact this
end
/-- New. -/
theorem t_hnew (pages : Int) (w : World) (h0 : 4 ≤ pages) (h1 : pages ≤ 1024) : ∃ F, hNew pages = (⟨pages, F, [], 0⟩, 0) ∧ Calls Tryz.prog 45 #[.int .i64 pages] w fun e w' => ∃ p S, e = .returned (.tuple #[.pointer (some ⟨p, 0, none⟩), .int .i64 0]) ∧ HeapSt w w' p S ⟨pages, F, [], 0⟩ 0 pages := by
  obtain ⟨F, e1, _, _⟩ := hNew_ok h0 h1
  refine ⟨F, e1, (code_hnew pages w h0 h1 F e1).mono ?_⟩
  rintro e w' ⟨hb, p, S, rfl, hp, hl⟩
  exact ⟨p, S, rfl, hp, hl, hb, Int.le_refl _, rfl⟩

/-- The document's example. -/
theorem aw_make {F : List Bool} (hN : hNew 8 = (⟨8, F, [], 0⟩, 0)) : ∃ h', hMake ⟨8, F, [], 0⟩ 3 0 = (h', (1, 0, 3, 0), 0) := by
  obtain ⟨F', e1, _, hk⟩ := hNew_ok (pages := 8) (by omega) (by omega)
  obtain rfl : F' = F := by rw [e1] at hN; injection hN with hN _; injection hN
  have hl := hk.ends rfl
  simp only at hl
  have hb : fBest F' 3 = some (0, 8) := by
    rw [fBest_is F' (by have := hk.fl; simp only at this; omega), hl]
    rfl
  obtain ⟨g, _, _, _, e, _⟩ := hMake_yes hk (n := 3) (o := 0) (by omega) hb
  exact ⟨_, e⟩
end Go.Proofs.YtcgfmpegakpddaaGreat
