/- What the walk of the document's own Give of a keeper leans on: spans put one by one, and how the keeper lies in the call's block. -/
import Derived.Test.YtonmkanppapjjaaGreatKeepTake2
import Derived.Test.YtonmkanppapjjaaGreatLargeKp
namespace Go.Proofs.YtonmkanppapjjaaGreat
open Go.RowKit
set_option linter.unusedVariables false

theorem LOk.few {v : LargeV} (o : LOk v) : Few v := ⟨by have := o.hok.len_le; omega, by have := o.lens; omega, by have := o.lens; omega⟩
theorem puts_at {v : LargeV} (o : LOk v) {l : List Spn} (hd : l.Nodup) (hm : ∀ s ∈ l, Out v s) : ∀ j : Nat, j ≤ l.length → LOk ((l.take j).foldl lPut v) ∧ ((l.take j).foldl lPut v).held = v.held ∧ (((l.take j).foldl lPut v).h.pages = v.h.pages ∧ ((l.take j).foldl lPut v).h.last = v.h.last) ∧ ∀ s ∈ l.drop j, Out ((l.take j).foldl lPut v) s
  | 0, _ => ⟨o, rfl, ⟨rfl, rfl⟩, fun s hs => hm s hs⟩
  | j + 1, hj => by
    obtain ⟨h1, h2, h3, h4⟩ := puts_at o hd hm j (by omega)
    have hx : l[j]? = some l[j] := List.getElem?_eq_getElem (by omega)
    have e : l.take (j + 1) = l.take j ++ [l[j]] := by rw [List.take_add_one, hx]; rfl
    have e2 : l.drop j = l[j] :: l.drop (j + 1) := (List.getElem_cons_drop ..).symm
    have hj2 := h4 l[j] (by rw [e2]; exact List.mem_cons_self ..)
    obtain ⟨p1, p2, p3, _, _, p6, p7⟩ := h1.put hj2
    rw [e, List.foldl_append]
    refine ⟨p1, p2.trans h2, ⟨p6.trans h3.1, p7.trans h3.2⟩, fun s hs => p3 s (fun c => ?_) (h4 s (by rw [e2]; exact List.mem_cons_of_mem _ hs))⟩
    have hn : (l.drop j).Nodup := hd.sublist (List.drop_sublist ..)
    rw [e2, List.nodup_cons] at hn
    exact hn.1 (c ▸ hs)

/-- The keeper in a call's own block. -/
structure GSt (w : World) (x : Nat) (P : Nat → Prop) (W : World) (u : LargeV) (A : Option Addr) (n c : Nat) (A2 : Option Addr) (n2 c2 : Nat) (A3 : Option Addr) (n3 c3 : Nat) (A4 : Option Addr) (n4 c4 : Nat) : Prop where
  ko : Ko W (OldD w.heap.size x P) u A n c A2 n2 c2 A3 n3 c3 A4 n4 c4
  f0 : F7 W w.heap.size (.int .i64 u.h.pages) (.slice A n c) (.slice A2 n2 c2) (.int .i64 u.h.last) (.slice A3 n3 c3) (.slice A4 n4 c4) (.bool u.held)
  f1 : F7 W (w.heap.size + 1) (.int .i64 0) (.slice none 0 0) (.slice none 0 0) (.int .i64 0) (.slice none 0 0) (.slice none 0 0) (.bool false)
  bel : Below w.heap.size w W
  sz : x ≤ W.heap.size
  x2 : x = w.heap.size + 2
section
variable {w W w6 : World} {x : Nat} {P : Nat → Prop} {u : LargeV} {A A2 A3 A4 A' : Option Addr} {n c n2 c2 n3 c3 n4 c4 n' c' : Nat}
theorem GSt.below (k : GSt w x P W u A n c A2 n2 c2 A3 n3 c3 A4 n4 c4) (hb : Below W.heap.size W w6) : GSt w x P w6 u A n c A2 n2 c2 A3 n3 c3 A4 n4 c4 :=
  ⟨k.ko.below hb, k.f0.below hb, k.f1.below hb, k.bel.trans (hb.mono k.bel.size), Nat.le_trans k.sz hb.size, k.x2⟩
theorem GSt.kt (k : GSt w x P W u A n c A2 n2 c2 A3 n3 c3 A4 n4 c4) (j : Nat) (v : Value) : Kept (fun b => w.heap.size ≤ b ∧ b < x) W (W.setCell ⟨w.heap.size, j, none⟩ v) :=
  (Kept.refl _ _).set (a := ⟨w.heap.size, j, none⟩) (Or.inl ⟨Nat.le_refl _, by show w.heap.size < x; have := k.x2; omega⟩) v
theorem GSt.keep (k : GSt w x P W u A n c A2 n2 c2 A3 n3 c3 A4 n4 c4) (hb : Below W.heap.size W w6) {l' : List Spn} (ho : w6.ownsRow W.heap.size 50 4 (.slice A' n' c') n' (cellsAll scells l')) (hl : l'.length = n') :
    GSt w x P (w6.setCell ⟨w.heap.size, 4, none⟩ (.slice A' n' c')) { u with kept := l' } A n c A2 n2 c2 A' n' c' A4 n4 c4 := by
  have k6 := k.below hb
  have hK := k6.kt 4 (.slice A' n' c')
  have hr : SpRow w6 (OldD w.heap.size x P) A' n' c' l' := SpRow.of_own ho hl (fun b h1 h2 => Or.inr (by have := k.sz; omega))
  exact ⟨⟨k6.ko.hi.keptT hK oldD_not, hr.kept hK oldD_not, k6.ko.wr.kept hK oldD_not⟩, (k6.f0.set_ _).1, k6.f1.other (by omega) _ _, k6.bel.setCell (p := ⟨w.heap.size, 4, none⟩) (Nat.le_refl _) _, by have := k6.sz; simpa using this, k.x2⟩
theorem GSt.wait (k : GSt w x P W u A n c A2 n2 c2 A3 n3 c3 A4 n4 c4) (hb : Below W.heap.size W w6) {l' : List Spn} (ho : w6.ownsRow W.heap.size 50 4 (.slice A' n' c') n' (cellsAll scells l')) (hl : l'.length = n') :
    GSt w x P (w6.setCell ⟨w.heap.size, 5, none⟩ (.slice A' n' c')) { u with waits := l' } A n c A2 n2 c2 A3 n3 c3 A' n' c' := by
  have k6 := k.below hb
  have hK := k6.kt 5 (.slice A' n' c')
  have hr : SpRow w6 (OldD w.heap.size x P) A' n' c' l' := SpRow.of_own ho hl (fun b h1 h2 => Or.inr (by have := k.sz; omega))
  exact ⟨⟨k6.ko.hi.keptT hK oldD_not, k6.ko.kr.kept hK oldD_not, hr.kept hK oldD_not⟩, (k6.f0.set_ _).2.1, k6.f1.other (by omega) _ _, k6.bel.setCell (p := ⟨w.heap.size, 5, none⟩) (Nat.le_refl _) _, by have := k6.sz; simpa using this, k.x2⟩
theorem GSt.heap {g : HeapV} {B B2 : Option Addr} {j d j2 d2 : Nat} (k : GSt w x P W u A n c A2 n2 c2 A3 n3 c3 A4 n4 c4) (hb : Below W.heap.size W w6) (hh : HIs w6 (OldD w.heap.size x P) g (hval g.pages B j d B2 j2 d2 g.last)) :
    GSt w x P (set4 w6 w.heap.size (.int .i64 g.pages) (.slice B j d) (.slice B2 j2 d2) (.int .i64 g.last)) { u with h := g } B j d B2 j2 d2 A3 n3 c3 A4 n4 c4 := by
  have k6 := k.below hb
  have hx := k.x2
  have hK : Kept (fun b => w.heap.size ≤ b ∧ b < x) w6 (set4 w6 w.heap.size (.int .i64 g.pages) (.slice B j d) (.slice B2 j2 d2) (.int .i64 g.last)) := kept_put4 (Kept.refl _ _) (Or.inl ⟨Nat.le_refl _, by omega⟩) _ _ _ _
  exact ⟨⟨hh.keptT hK oldD_not, k6.ko.kr.kept hK oldD_not, k6.ko.wr.kept hK oldD_not⟩, k6.f0.set4_ _ _ _ _, k6.f1.aside4 (by omega) _ _ _ _, below_set4 k6.bel (Nat.le_refl _) _ _ _ _, by have := k6.sz; unfold set4; simpa using this, k.x2⟩
/-- The end of the call. -/
theorem GSt.fin (k : GSt w x P W u A n c A2 n2 c2 A3 n3 c3 A4 n4 c4) (hP : ∀ b, w.heap.size ≤ b → P b) (o : LOk u) (no : Int) (pg la : Int) (hd : Bool) (e1 : u.h.pages = pg) (e2 : u.h.last = la) (e3 : u.held = hd) :
    HeldIs w P u (.int .i64 no) (.returned (.tuple #[.agg #[.int .i64 pg, .slice A n c, .slice A2 n2 c2, .int .i64 la, .slice A3 n3 c3, .slice A4 n4 c4, .bool hd], .int .i64 no])) (set7 W (w.heap.size + 1) (.int .i64 pg) (.slice A n c) (.slice A2 n2 c2) (.int .i64 la) (.slice A3 n3 c3) (.slice A4 n4 c4) (.bool hd)) ∧
    F7 (set7 W (w.heap.size + 1) (.int .i64 pg) (.slice A n c) (.slice A2 n2 c2) (.int .i64 la) (.slice A3 n3 c3) (.slice A4 n4 c4) (.bool hd)) (w.heap.size + 1) (.int .i64 pg) (.slice A n c) (.slice A2 n2 c2) (.int .i64 la) (.slice A3 n3 c3) (.slice A4 n4 c4) (.bool hd) := by
  subst e1 e2 e3
  have hx := k.x2
  have hK : Kept (fun b => w.heap.size ≤ b ∧ b < x) W (set7 W (w.heap.size + 1) (.int .i64 u.h.pages) (.slice A n c) (.slice A2 n2 c2) (.int .i64 u.h.last) (.slice A3 n3 c3) (.slice A4 n4 c4) (.bool u.held)) := kept_set7 (Kept.refl _ _) (Or.inl ⟨by omega, by omega⟩) _ _ _ _ _ _ _
  have k2 := k.ko.kept hK oldD_not
  exact ⟨⟨_, rfl, (k2.isv).weaken (oldD_P (by omega) hP), k.bel.trans (hK.below k.bel.size fun b hb => hb.1)⟩, k.f1.put _ _ _ _ _ _ _⟩
end
/-- A call's two blocks. -/
theorem GSt.start {w : World} {P : Nat → Prop} {q : LargeV} {A A2 A3 A4 : Option Addr} {n c n2 c2 n3 c3 n4 c4 : Nat} (k : Ko w P q A n c A2 n2 c2 A3 n3 c3 A4 n4 c4) (h0 : 0 < q.h.free.length) (t t1 : TypeId) :
    GSt w (w.heap.size + 2) P ((w.alloc (.cells #[.int .i64 q.h.pages, .slice A n c, .slice A2 n2 c2, .int .i64 q.h.last, .slice A3 n3 c3, .slice A4 n4 c4, .bool q.held] t)).alloc (.cells #[.int .i64 0, .slice none 0 0, .slice none 0 0, .int .i64 0, .slice none 0 0, .slice none 0 0, .bool false] t1)) q A n c A2 n2 c2 A3 n3 c3 A4 n4 c4 := by
  obtain ⟨f0, f1, HB, hz⟩ := held_made w (.int .i64 q.h.pages) (.slice A n c) (.slice A2 n2 c2) (.int .i64 q.h.last) (.slice A3 n3 c3) (.slice A4 n4 c4) (.bool q.held) (.int .i64 0) (.slice none 0 0) (.slice none 0 0) (.int .i64 0) (.slice none 0 0) (.slice none 0 0) (.bool false) t t1
  have := k.open_ h0 HB
  rw [hz] at this
  exact ⟨this, f0, f1, HB, by rw [hz]; exact Nat.le_refl _, rfl⟩

end Go.Proofs.YtonmkanppapjjaaGreat
