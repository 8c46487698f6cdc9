/- Both sides in a round of layer 10's laws on acts. -/
import Derived.Test.YtonmkanppapjjaaGreatLargeDoes1
import Derived.Test.YtonmkanppapjjaaGreatLargeDoes2
namespace Go.Proofs.YtonmkanppapjjaaGreat
open Go.RowKit Go.Maps
set_option linter.unusedVariables false

/-- The law's own block mb holds the document's keeper. -/
structure L10 (w W : World) (p hp mb : Nat) (S : Nat → Prop) (v : LargeV) (k : Nat) (pages : Int) (A : Option Addr) (n c : Nat) (A2 : Option Addr) (n2 c2 : Nat) (A3 : Option Addr) (n3 c3 : Nat) (A4 : Option Addr) (n4 c4 : Nat) : Prop where
  st : KeepSt w W p hp S v k pages
  ko : Ko W (fun b => ¬ S b ∧ mb ≠ b) v A n c A2 n2 c2 A3 n3 c3 A4 n4 c4
  f7 : F7 W mb (.int .i64 v.h.pages) (.slice A n c) (.slice A2 n2 c2) (.int .i64 v.h.last) (.slice A3 n3 c3) (.slice A4 n4 c4) (.bool v.held)
  hm : ¬ S mb
  le : w.heap.size ≤ mb
section
variable {w W W' : World} {p hp mb : Nat} {S : Nat → Prop} {v : LargeV} {k : Nat} {pages : Int} {A A2 A3 A4 : Option Addr} {n c n2 c2 n3 c3 n4 c4 : Nat}
theorem L10.below (s : L10 w W p hp mb S v k pages A n c A2 n2 c2 A3 n3 c3 A4 n4 c4) (hb : Below W.heap.size W W') : L10 w W' p hp mb S v k pages A n c A2 n2 c2 A3 n3 c3 A4 n4 c4 := ⟨s.st.below hb, s.ko.below hb, s.f7.below hb, s.hm, s.le⟩
theorem L10.start {w2 w3 : World} {h : HeapV} {t : TypeId} (s : KeepSt w w2 p hp S ⟨h, [], [], false⟩ k pages) (hb : Below (w2.alloc (.cells #[.int .i64 0, .slice none 0 0, .slice none 0 0, .int .i64 0, .slice none 0 0, .slice none 0 0, .bool false] t)).heap.size (w2.alloc (.cells #[.int .i64 0, .slice none 0 0, .slice none 0 0, .int .i64 0, .slice none 0 0, .slice none 0 0, .bool false] t)) w3)
    (hh : HIs w3 (fun b => ¬ S b ∧ w2.heap.size ≠ b) h (hval h.pages A n c A2 n2 c2 h.last)) : L10 w (set4 w3 w2.heap.size (.int .i64 h.pages) (.slice A n c) (.slice A2 n2 c2) (.int .i64 h.last)) p hp w2.heap.size S ⟨h, [], [], false⟩ k pages A n c A2 n2 c2 none 0 0 none 0 0 := by
  have hz := s.bel.size
  have hb2 := (Below.refl w2.heap.size w2).alloc (Nat.le_refl _) (.cells #[.int .i64 0, .slice none 0 0, .slice none 0 0, .int .i64 0, .slice none 0 0, .slice none 0 0, .bool false] t)
  have hb3 := hb2.trans (hb.mono hb2.size)
  have hK : Kept (fun b => w2.heap.size = b) w3 (set4 w3 w2.heap.size (.int .i64 h.pages) (.slice A n c) (.slice A2 n2 c2) (.int .i64 h.last)) := kept_put4 (Kept.refl _ _) (Or.inl rfl) _ _ _ _
  have hS : ¬ S w2.heap.size := fun c => by have := s.lt _ c; omega
  exact ⟨(s.below hb3).kept hK (fun b hb e => hS (e ▸ hb)) (fun b e => by omega), ⟨hh.keptT hK (fun b hb => hb.2), SpRow.none_, SpRow.none_⟩, ((F7.made w2 _ _ _ _ _ _ _ t).below hb).set4_ _ _ _ _, hS, hz⟩
/-- An act, of any kind. -/
theorem t_does {D : Nat → Prop} {mv : Value} (hD : ∀ b, W.heap.size ≤ b → D b) (s : KeepSt w W p hp S v k pages) (hk : k + 1 ≤ 1000000000) (d : KoIs W (fun b => ¬ S b ∧ D b) v mv) (a : Act10) (hn : in64 a.n) (hor : in64 a.order) (hs : Sl W W.heap.size a.A a.len (a.ids.map iv)) (hN : a.len ≤ 60000) (hNc : a.len ≤ a.cap ∧ a.cap ≤ 9223372036854775807) (hid : ∀ i ∈ a.ids, in64 i) :
    Calls Tryz.prog 38 #[.pointer (some ⟨hp, 0, none⟩), .pointer (some ⟨p, 0, none⟩), mv, .agg #[.int .i64 a.kind, .int .i64 a.n, .int .i64 a.order, .bool a.on, .slice a.A a.len a.cap]] W (DoesTo w W p hp S D (kStep v a) (k + 1) pages) := by
  by_cases h0 : a.kind = 0
  · exact does_take hD s hk d a h0 hn
  by_cases h1 : a.kind = 1
  · exact does_give hD s hk d a h1 hs hN hNc hid
  by_cases h2 : a.kind = 2
  · exact does_hold hD s hk d a h2
  by_cases h3 : a.kind = 3
  · exact does_flush hD s hk d a h3
  exact does_make hD s hk d a h0 h1 h2 h3 hn hor
/-- An act in a round. -/
theorem L10.does (s : L10 w W p hp mb S v k pages A n c A2 n2 c2 A3 n3 c3 A4 n4 c4) (hk : k + 1 ≤ 1000000000) (a : Act10) (hn : in64 a.n) (hor : in64 a.order) (hs : Sl W W.heap.size a.A a.len (a.ids.map iv)) (hN : a.len ≤ 60000) (hNc : a.len ≤ a.cap ∧ a.cap ≤ 9223372036854775807) (hid : ∀ i ∈ a.ids, in64 i) (la la' : Int) (hd hd' : Bool) (e1 : v.h.last = la) (e2 : v.held = hd) (e3 : (kStep v a).h.last = la') (e4 : (kStep v a).held = hd') :
    Calls Tryz.prog 38 #[.pointer (some ⟨hp, 0, none⟩), .pointer (some ⟨p, 0, none⟩), .agg #[.int .i64 pages, .slice A n c, .slice A2 n2 c2, .int .i64 la, .slice A3 n3 c3, .slice A4 n4 c4, .bool hd], .agg #[.int .i64 a.kind, .int .i64 a.n, .int .i64 a.order, .bool a.on, .slice a.A a.len a.cap]] W fun e w3 => ∃ B j1 d1 B2 j2 d2 B3 j3 d3 B4 j4 d4, e = .returned (.tuple #[.bool true, .agg #[.int .i64 pages, .slice B j1 d1, .slice B2 j2 d2, .int .i64 la', .slice B3 j3 d3, .slice B4 j4 d4, .bool hd']]) ∧
      F7 w3 mb (.int .i64 pages) (.slice A n c) (.slice A2 n2 c2) (.int .i64 la) (.slice A3 n3 c3) (.slice A4 n4 c4) (.bool hd) ∧ W.heap.size ≤ w3.heap.size ∧
      Hid (∀ W4, Below w3.heap.size w3 W4 → ∃ S', L10 w (set7 W4 mb (.int .i64 pages) (.slice B j1 d1) (.slice B2 j2 d2) (.int .i64 la') (.slice B3 j3 d3) (.slice B4 j4 d4) (.bool hd')) p hp mb S' (kStep v a) (k + 1) pages B j1 d1 B2 j2 d2 B3 j3 d3 B4 j4 d4) := by
  have hlt := s.f7.lt
  have := t_does (D := fun b => mb ≠ b) (fun b hb => by omega) s.st hk s.ko.isv a hn hor hs hN hNc hid
  unfold kval at this
  rw [s.st.pg, e1, e2] at this
  refine this.mono ?_
  rintro e w3 ⟨mv, rfl, S', s', ⟨B, j1, d1, B2, j2, d2, B3, j3, d3, B4, j4, d4, rfl, d⟩, hs'⟩
  have hf := hs'.f7 s.f7 s.hm
  have hS' : ¬ S' mb := hs'.not hlt s.hm
  rw [s.st.pg, e1, e2] at hf
  refine ⟨B, j1, d1, B2, j2, d2, B3, j3, d3, B4, j4, d4, by unfold kval; rw [s'.pg, e3, e4], hf, hs'.1.size, hidb (fun W4 hb4 => ⟨S', ?_⟩)⟩
  have hK : Kept (fun b => mb = b) W4 (set7 W4 mb (.int .i64 pages) (.slice B j1 d1) (.slice B2 j2 d2) (.int .i64 la') (.slice B3 j3 d3) (.slice B4 j4 d4) (.bool hd')) := kept_set7 (Kept.refl _ _) (Or.inl rfl) _ _ _ _ _ _ _
  have hle := s.le
  exact ⟨(s'.below hb4).kept hK (fun b hb e => hS' (e ▸ hb)) (fun b e => by omega), (d.below hb4).kept hK (fun b hb => hb.2), by rw [s'.pg, e3, e4]; exact (hf.below hb4).put _ _ _ _ _ _ _, hS', hle⟩
end

end Go.Proofs.YtonmkanppapjjaaGreat
