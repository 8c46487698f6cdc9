/- Both sides in a round of layer 10's LargePlays: an act whose answer is laid aside in a block that is there already. -/
import Derived.Test.YtonmkanppapjjaaGreatLargeHolds0
namespace Go.Proofs.YtonmkanppapjjaaGreat
open Go.RowKit Go.Maps
set_option linter.unusedVariables false

section
variable {w W W' : World} {p hp mb : Nat} {S : Nat → Prop} {v : LargeV} {k : Nat} {pages : Int} {A A2 A3 A4 : Option Addr} {n c n2 c2 n3 c3 n4 c4 : Nat}
/-- Its answer lies in the block t. -/
theorem L10.does2 (s : L10 w W p hp mb S v k pages A n c A2 n2 c2 A3 n3 c3 A4 n4 c4) {W1 : World} {u0 u1 u2 u3 u4 u5 u6 : Value} (hb1 : Below W.heap.size W W1) (ht : F7 W1 W.heap.size u0 u1 u2 u3 u4 u5 u6) (hk : k + 1 ≤ 1000000000) (a : Act10) (hn : in64 a.n) (hor : in64 a.order) (hs : Sl W W.heap.size a.A a.len (a.ids.map iv)) (hN : a.len ≤ 60000) (hNc : a.len ≤ a.cap ∧ a.cap ≤ 9223372036854775807) (hid : ∀ i ∈ a.ids, in64 i) (la la' : Int) (hd hd' : Bool) (e1 : v.h.last = la) (e2 : v.held = hd) (e3 : (kStep v a).h.last = la') (e4 : (kStep v a).held = hd') :
    Calls Tryz.prog 38 #[.pointer (some ⟨hp, 0, none⟩), .pointer (some ⟨p, 0, none⟩), .agg #[.int .i64 pages, .slice A n c, .slice A2 n2 c2, .int .i64 la, .slice A3 n3 c3, .slice A4 n4 c4, .bool hd], .agg #[.int .i64 a.kind, .int .i64 a.n, .int .i64 a.order, .bool a.on, .slice a.A a.len a.cap]] W1 fun e w3 => ∃ B j1 d1 B2 j2 d2 B3 j3 d3 B4 j4 d4, e = .returned (.tuple #[.bool true, .agg #[.int .i64 pages, .slice B j1 d1, .slice B2 j2 d2, .int .i64 la', .slice B3 j3 d3, .slice B4 j4 d4, .bool hd']]) ∧
      F7 w3 mb (.int .i64 pages) (.slice A n c) (.slice A2 n2 c2) (.int .i64 la) (.slice A3 n3 c3) (.slice A4 n4 c4) (.bool hd) ∧ F7 w3 W.heap.size u0 u1 u2 u3 u4 u5 u6 ∧ mb < W.heap.size ∧ W.heap.size < w3.heap.size ∧
      Hid (∀ W4, Kept (fun b => W.heap.size = b) w3 W4 → ∃ S', L10 w (set7 W4 mb (.int .i64 pages) (.slice B j1 d1) (.slice B2 j2 d2) (.int .i64 la') (.slice B3 j3 d3) (.slice B4 j4 d4) (.bool hd')) p hp mb S' (kStep v a) (k + 1) pages B j1 d1 B2 j2 d2 B3 j3 d3 B4 j4 d4) := by
  have hlt := s.f7.lt
  have htl := ht.lt
  have hz := hb1.size
  have s1 := s.st.below hb1
  have hSl := s.st.lt
  have hko : Ko W1 (fun b => ¬ S b ∧ mb ≠ b ∧ W.heap.size ≠ b) v A n c A2 n2 c2 A3 n3 c3 A4 n4 c4 := ((s.ko.apart (by rw [s.st.ok.hok.fl]; omega)).weaken (fun b h => ⟨h.1.1, h.1.2, fun e => by have := h.2; omega⟩)).below hb1
  have hwl := s.st.bel.size
  have := t_does (D := fun b => mb ≠ b ∧ W.heap.size ≠ b) (fun b hb => by constructor <;> omega) s1 hk hko.isv a hn hor ((hs.below hb1).more hz) hN hNc hid
  unfold kval at this
  rw [s1.pg, e1, e2] at this
  refine this.mono ?_
  rintro e w3 ⟨mv, rfl, S', s', ⟨B, j1, d1, B2, j2, d2, B3, j3, d3, B4, j4, d4, rfl, d⟩, hs'⟩
  have hf := hs'.f7 (s.f7.below hb1) s.hm
  have hft := hs'.f7 ht (fun c => by have := hSl _ c; omega)
  have hS' : ¬ S' mb := hs'.not (by omega) s.hm
  have hSt : ¬ S' W.heap.size := hs'.not htl (fun c => by have := hSl _ c; omega)
  have hsz := hs'.1.size
  rw [s.st.pg, e1, e2] at hf
  refine ⟨B, j1, d1, B2, j2, d2, B3, j3, d3, B4, j4, d4, by unfold kval; rw [s'.pg, e3, e4], hf, hft, hlt, by omega, hidb (fun W4 hK4 => ⟨S', ?_⟩)⟩
  have hK : Kept (fun b => mb = b) W4 (set7 W4 mb (.int .i64 pages) (.slice B j1 d1) (.slice B2 j2 d2) (.int .i64 la') (.slice B3 j3 d3) (.slice B4 j4 d4) (.bool hd')) := kept_set7 (Kept.refl _ _) (Or.inl rfl) _ _ _ _ _ _ _
  have hle := s.le
  have s4 := s'.kept hK4 (fun b hb e => hSt (e ▸ hb)) (fun b e => by omega)
  exact ⟨s4.kept hK (fun b hb e => hS' (e ▸ hb)) (fun b e => by omega), ((d.kept hK4 (fun b hb => hb.2.2)).weaken (fun b hb => (⟨hb.1, hb.2.1⟩ : ¬ S' b ∧ mb ≠ b))).kept hK (fun b hb => hb.2), by rw [s'.pg, e3, e4]; exact (hf.kept hK4 (fun e => by omega)).put _ _ _ _ _ _ _, hS', hle⟩
end

end Go.Proofs.YtonmkanppapjjaaGreat
