/- What 'made' of layer 14's statements returns: an arena as told, beside a table. -/
import Derived.Test.YtkahpmnemabehaaDoorFrmLaws
import Derived.BigQuiet
namespace Go.Proofs.YtkahpmnemabehaaDoor
open Go.RowKit Go.ChangeShapes Go.WideShapes
set_option linter.unusedVariables false

section
variable {w : World} {A A2 : Option Addr} {n c n2 c2 : Nat} {ys : List FnV} {xs : List Nat}
theorem t_made (h : In13 w A2 n2 ys) (ht : TabDB w) (hs : Sl w w.heap.size A n (xs.map wv)) (hn : n ≤ 256) {W : World} (hb : Below w.heap.size w W) (hr : fTab (vals ys) = true) :
    Calls Tryd.prog 8 #[.slice A n c, .slice A2 n2 c2] W fun e w' => ∃ p g tb, e = .returned (.tuple #[.pointer (some ⟨p, 0, none⟩), .pointer (some ⟨tb, 0, none⟩), .bool true]) ∧ Hid (AT w w' p g 256 (frLaid xs) (some ⟨tb, 0, none⟩) (fOwns (vals ys))) := by
  have ca := code_anewZ W
  have CN : Hid (∀ W1 p g, Below W.heap.size W W1 → Ar W1 W.heap.size p g 256 frZ → Calls Tryd.prog 13 #[.slice A2 n2 c2] W1 fun e w1 => ∃ b, e = .returned (.tuple #[.pointer (some ⟨b, 0, none⟩), .int .i64 0]) ∧ Hid (AT w w1 p g 256 frZ (some ⟨b, 0, none⟩) (fOwns (vals ys)))) := hidb (fun W1 p g hb1 ha => by
    have hb2 := hb.trans (hb1.mono hb.size)
    refine (code_fNew A2 n2 c2 ys 0 W1 (h.at_ hb2) (by have := h.few; omega) h.s1 (TabDB.below ht hb2) hr).mono ?_
    rintro e w' ⟨b, h1, h2, h3⟩
    exact ⟨b, h1, hidb (AT.made hb2 (ha.more hb.size) h2 h3)⟩)
  have CS : Hid (∀ W1 p g tb, Hid (AT w W1 p g 256 frZ (some ⟨tb, 0, none⟩) (fOwns (vals ys))) → Calls Tryd.prog 21 #[.pointer (some ⟨p, 0, none⟩), .int .i64 0, .slice A n c] W1 fun e w' => e = .returned (.int .i64 0) ∧ Hid (AT w w' p g 256 (frLaid xs) (some ⟨tb, 0, none⟩) (fOwns (vals ys)))) := hidb (fun W1 p g tb s => by
    refine (code_astore 0 A n c s.out.ar ((hs.below s.out.bel).more s.out.bel.size) (by omega)).mono ?_
    rintro e w' ⟨h1, h2, h3⟩
    exact ⟨h1, hidb (s.out.wrote h2 h3)⟩)
  clear h ht hs hb hr
  go_enter Tryd.func8, Tryd.ntmps8
  go_wp2_with (first
    | (go_at_call 20; (with_reducible refine ca.mono ?_); rintro e w1 ⟨p, g, rfl, ha1, hb1⟩; have CN1 := CN.out w1 p g hb1 ha1; clear ha1 hb1)
    | (go_at_call 13; (with_reducible refine CN1.mono ?_); rintro e w2 ⟨b, rfl, hs2⟩)
    | (go_at_call 21; (with_reducible refine (CS.out _ _ _ _ hs2).mono ?_); rintro e w3 ⟨rfl, hs3⟩))
  exact bodyPost_ret (v := .tuple #[.pointer (some ⟨p, 0, none⟩), .pointer (some ⟨b, 0, none⟩), .bool true]) (by simp [results, Tryd.results8, go_sem]) rfl ⟨p, g, b, rfl, hs3⟩
theorem t_made_no (h : In13 w A2 n2 ys) {W : World} (hb : Below w.heap.size w W) (hr : fTab (vals ys) = false) :
    Calls Tryd.prog 8 #[.slice A n c, .slice A2 n2 c2] W fun e w' => ∃ p, e = .returned (.tuple #[.pointer (some ⟨p, 0, none⟩), .pointer none, .bool false]) ∧ Hid (Below w.heap.size w w') := by
  have ca := code_anewZ W
  have CN : Hid (∀ W1, Below W.heap.size W W1 → Calls Tryd.prog 13 #[.slice A2 n2 c2] W1 fun e w1 => e = .returned (.tuple #[.pointer none, .int .i64 1]) ∧ Hid (Below w.heap.size w w1)) := hidb (fun W1 hb1 => by
    have hb2 := hb.trans (hb1.mono hb.size)
    refine (code_fNew_no A2 n2 c2 ys 0 W1 (h.at_ hb2) (by have := h.few; omega) h.s1 hr).mono ?_
    rintro e w' ⟨h1, h3⟩
    exact ⟨h1, hidb (hb2.trans (h3.mono hb2.size))⟩)
  clear h hb hr
  go_enter Tryd.func8, Tryd.ntmps8
  go_wp2_with (first
    | (go_at_call 20; (with_reducible refine ca.mono ?_); rintro e w1 ⟨p, g, rfl, ha1, hb1⟩; have CN1 := CN.out w1 hb1; clear ha1 hb1)
    | (go_at_call 13; (with_reducible refine CN1.mono ?_); rintro e w2 ⟨rfl, hs2⟩))
  exact bodyPost_ret (v := .tuple #[.pointer (some ⟨p, 0, none⟩), .pointer none, .bool false]) (by simp [results, Tryd.results8, go_sem]) rfl ⟨p, rfl, hs2⟩
end

section
variable {H : Type} {enc : TypeId × Value → H} {W : World} {sp : Nat → Bool} {hd : Bool}
/-- Words that came in. -/
theorem read_words {v : Value} {d : DataW H} {ps : List MemPlace} (h : DataW.Trod enc Tryd.prog W 0 sp hd 22 v d ps) :
    ∃ (A : Option Addr) (len cap : Nat) (l : List Nat), v.cells.toList = [.slice A len cap] ∧ len ≤ maxLen ∧ (Sl W W.heap.size A len (l.map wv) ∧ Wd l ∧ (A = none → cap = 0) ∧ len ≤ cap ∧ cap ≤ maxLen) := by
  obtain ⟨fuel, hf⟩ := h
  obtain ⟨A, len, cap, zs, e1, hlc, hcm, hna, hsl, hwf⟩ := read_intsC Tryd.underlying22 Tryd.underlying49 fr_u64 hf
  obtain ⟨hwn, hw64⟩ := words_nat zs hwf
  exact ⟨A, len, cap, zs.map Int.toNat, e1, Nat.le_trans hlc hcm, by rw [hwn]; exact hsl, hw64, hna, hlc, hcm⟩
end

/-- An arena as told beside a table; the words once more, in a row of their own. -/
def AW (w : World) (p g : Nat) (xs : List Nat) (tp : Option Addr) (l : Fns) (A : Option Addr) (W : World) : Prop := AT w W p g 256 xs tp l ∧ Sl W W.heap.size A 256 (xs.map wv)
theorem AW.step {w W W' : World} {p g : Nat} {xs : List Nat} {tp A : Option Addr} {l : Fns} (h : AW w p g xs tp l A W) (hb : Below W.heap.size W W') : AW w p g xs tp l A W' := ⟨h.1.step hb, (h.2.below hb).more hb.size⟩
theorem frRead_owns (xs : List Nat) (l : Fns) (a : Int) : frRead xs (fOwns l) a = frRead xs l a := by
  unfold frRead frOk
  simp only [fWords_owns, fOwns_length]
end Go.Proofs.YtkahpmnemabehaaDoor
