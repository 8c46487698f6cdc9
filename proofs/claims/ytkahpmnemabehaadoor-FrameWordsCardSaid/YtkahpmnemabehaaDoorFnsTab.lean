/- What a table's methods of layer 13 (fns) return. -/
import Derived.Test.YtkahpmnemabehaaDoorFnsNew
namespace Go.Proofs.YtkahpmnemabehaaDoor
open Go.RowKit
set_option linter.unusedVariables false

/-- A table, or none: a nil one has no functions. -/
def TbO (w : World) (lo hi : Nat) (p : Option Addr) (l : Fns) : Prop := (p = none ∧ l = []) ∨ ∃ b, p = some ⟨b, 0, none⟩ ∧ TbIs w lo hi b l
theorem TbO.nil_ (w : World) (lo hi : Nat) : TbO w lo hi none [] := Or.inl ⟨rfl, rfl⟩
theorem TbIs.o {w : World} {lo hi b : Nat} {l : Fns} (h : TbIs w lo hi b l) : TbO w lo hi (some ⟨b, 0, none⟩) l := Or.inr ⟨b, rfl, h⟩
theorem TbO.below {w w' : World} {lo hi : Nat} {p : Option Addr} {l : Fns} (h : TbO w lo hi p l) (hb : Below hi w w') : TbO w' lo hi p l := h.imp id fun ⟨b, e, h⟩ => ⟨b, e, h.below hb⟩
theorem TbO.drewN {w : World} {lo hi : Nat} {p : Option Addr} {l : Fns} (h : TbO w lo hi p l) (q : Nat) : TbO (w.drewN q) lo hi p l := h.imp id fun ⟨b, e, h⟩ => ⟨b, e, h.drewN q⟩

theorem code_flen {w : World} {lo hi : Nat} {p : Option Addr} {l : Fns} (h : TbO w lo hi p l) :
    Calls Tryd.prog 45 #[.pointer p] w fun e w' => e = .returned (.int .i64 (l.length : Nat)) ∧ w = w' := by
  rcases h with ⟨rfl, rfl⟩ | ⟨b, rfl, h1, h2, A, n, c, ys, h3, h4, rfl, h6, _⟩
  · go_enter Tryd.func45, Tryd.ntmps45
    go_wp2
    go_ret
    exact ⟨rfl, rfl⟩
  · have hl := h4.len
    rw [vals_length, hl]
    clear h4 hl
    go_enter Tryd.func45, Tryd.ntmps45
    go_wp2
    go_ret
    exact ⟨rfl, rfl⟩

theorem code_fat_no {w : World} {lo hi : Nat} {p : Option Addr} {l : Fns} (h : TbO w lo hi p l) (hhi : hi ≤ w.heap.size) (f : Int) (hf : f < 0 ∨ (l.length : Int) ≤ f) :
    Calls Tryd.prog 38 #[.pointer p, .int .i64 f] w fun e w' => e = .returned (.tuple #[.agg #[.int .i64 0, .slice none 0 0], .bool false]) ∧ Below w.heap.size w w' := by
  have cl := fun W (hb : Below w.heap.size w W) => code_flen (h.below (hb.mono hhi))
  have HC := hidb cl
  generalize l.length = k at *
  clear h cl
  by_cases h0 : f < 0
  · clear hf
    go_enter Tryd.func38, Tryd.ntmps38
    go_wp2
    exact bodyPost_ret (v := .tuple #[.agg #[.int .i64 0, .slice none 0 0], .bool false]) (by simp [results, Tryd.results38, go_sem]) rfl ⟨rfl, ((Below.refl _ _).alloc (Nat.le_refl _) _)⟩
  · have h1 : (k : Int) ≤ f := by omega
    have h2 : 0 ≤ f := by omega
    clear hf
    go_enter Tryd.func38, Tryd.ntmps38
    go_wp2_with (go_at_call 45; (with_reducible refine (HC.out _ ((Below.refl _ _).alloc (Nat.le_refl _) _)).mono ?_); rintro e w' ⟨rfl, rfl⟩)
    exact bodyPost_ret (v := .tuple #[.agg #[.int .i64 0, .slice none 0 0], .bool false]) (by simp [results, Tryd.results38, go_sem]) rfl ⟨rfl, ((Below.refl _ _).alloc (Nat.le_refl _) _)⟩
theorem code_fat_yes {w : World} {lo hi : Nat} {p : Option Addr} {l : Fns} (h : TbO w lo hi p l) (hhi : hi ≤ w.heap.size) (f : Int) (hf : ¬ (f < 0 ∨ (l.length : Int) ≤ f)) :
    Calls Tryd.prog 38 #[.pointer p, .int .i64 f] w fun e w' => ∃ y : FnV, e = .returned (.tuple #[.agg #[.int .i64 y.sz, .slice y.A y.n y.c], .bool true]) ∧ l.getD f.toNat (0, []) = (y.sz, y.ws) ∧ FvOk w lo hi y ∧ y.n ≤ 64 ∧ Below w.heap.size w w' := by
  have cl := fun W (hb : Below w.heap.size w W) => code_flen (h.below (hb.mono hhi))
  have HC := hidb cl
  have hlen : f.toNat < l.length := by omega
  rcases h with ⟨rfl, rfl⟩ | ⟨b, rfl, h1, h2, A, n, c, ys, h3, h4, rfl, h6, h7⟩
  · simp at hlen
  · rw [vals_length, h4.len] at hf hlen HC
    obtain ⟨b2, off, y, rfl, hb2, hy, hc0, hc1, hok⟩ := h4.at_ hlen
    have P : Hid (∀ w', Below w.heap.size w w' → ∃ z : FnV, Ending.returned (.tuple #[.agg #[.int .i64 y.sz, .slice y.A y.n y.c], .bool true]) = Ending.returned (.tuple #[.agg #[.int .i64 z.sz, .slice z.A z.n z.c], .bool true]) ∧ (vals ys).getD f.toNat (0, []) = (z.sz, z.ws) ∧ FvOk w lo hi z ∧ z.n ≤ 64 ∧ Below w.heap.size w w') :=
      hidb (fun w' hb => ⟨y, rfl, getD_at _ _ _ _ (vals_at hy), hok, h7 y (List.mem_of_getElem? hy), hb⟩)
    have f0 : ¬ f < 0 := by omega
    have f1 : f < (n : Int) := by omega
    have f2 : 0 ≤ f := by omega
    have hbl : b < w.heap.size := by omega
    have hb2l : b2 < w.heap.size := by omega
    clear cl hf h1 h2 h4 hy hok h7 hlen hb2
    go_enter Tryd.func38, Tryd.ntmps38
    go_wp2_with (go_at_call 45; (with_reducible refine (HC.out _ ((Below.refl _ _).alloc (Nat.le_refl _) _)).mono ?_); rintro e w' ⟨rfl, rfl⟩)
    exact bodyPost_ret (v := .tuple #[.agg #[.int .i64 y.sz, .slice y.A y.n y.c], .bool true]) (by simp [results, Tryd.results38, go_sem]) rfl (P.out _ ((Below.refl _ _).alloc (Nat.le_refl _) _))

theorem code_fsize {w : World} {lo hi : Nat} {p : Option Addr} {l : Fns} (h : TbO w lo hi p l) (hhi : hi ≤ w.heap.size) (f : Int) :
    Calls Tryd.prog 30 #[.pointer p, .int .i64 f] w fun e w' => e = .returned (.int .i64 (fSize l f)) ∧ Below w.heap.size w w' := by
  by_cases hf : f < 0 ∨ (l.length : Int) ≤ f
  · have ca := code_fat_no h hhi f hf
    have E : fSize l f = -1 := by unfold fSize; rw [if_pos hf]
    rw [E]
    clear h hf E
    go_enter Tryd.func30, Tryd.ntmps30
    go_wp2_with (go_at_call 38; (with_reducible refine ca.mono ?_); rintro e w1 ⟨rfl, hb1⟩)
    go_ret
    exact ⟨rfl, belF_al hb1 _⟩
  · have ca := code_fat_yes h hhi f hf
    have E : fSize l f = (l.getD f.toNat (0, [])).1 := by unfold fSize; rw [if_neg hf]
    rw [E]
    have HX : ∃ x, l.getD f.toNat (0, []) = x := ⟨_, rfl⟩
    obtain ⟨x, hx⟩ := HX
    rw [hx] at ca ⊢
    clear h hf E hx
    go_enter Tryd.func30, Tryd.ntmps30
    go_wp2_with (go_at_call 38; (with_reducible refine ca.mono ?_); rintro e w1 ⟨y, rfl, hy, hok, hyn, hb1⟩; have HY := hidb hy; clear hy)
    go_ret
    exact ⟨by rw [HY.out]; rfl, belF_al hb1 _⟩
def fWords (l : Fns) (f : Int) : Int := if fSize l f < 0 then -1 else fSize l f + 2
theorem code_fwordsT {w : World} {lo hi : Nat} {p : Option Addr} {l : Fns} (h : TbO w lo hi p l) (hhi : hi ≤ w.heap.size) (f : Int) (hl : ∀ x ∈ l, 0 ≤ x.1 ∧ x.1 ≤ 1000) :
    Calls Tryd.prog 27 #[.pointer p, .int .i64 f] w fun e w' => e = .returned (.int .i64 (fWords l f)) ∧ Below w.heap.size w w' := by
  by_cases hf : f < 0 ∨ (l.length : Int) ≤ f
  · have ca := code_fat_no h hhi f hf
    have E : fWords l f = -1 := by unfold fWords fSize; rw [if_pos hf, if_pos (by omega)]
    rw [E]
    clear h hf E hl
    go_enter Tryd.func27, Tryd.ntmps27
    go_wp2_with (go_at_call 38; (with_reducible refine ca.mono ?_); rintro e w1 ⟨rfl, hb1⟩)
    go_ret
    exact ⟨rfl, belF_al hb1 _⟩
  · have ca := code_fat_yes h hhi f hf
    obtain ⟨x, hx⟩ : ∃ x, l.getD f.toNat (0, []) = x := ⟨_, rfl⟩
    have hxr : 0 ≤ x.1 ∧ x.1 ≤ 1000 := by
      rw [← hx, List.getD_eq_getElem?_getD, List.getElem?_eq_getElem (by omega)]
      exact hl _ (List.getElem_mem _)
    have E : fWords l f = x.1 + 2 := by unfold fWords fSize; rw [if_neg hf, hx, if_neg (by omega)]
    rw [E]
    rw [hx] at ca
    have cw := fun (y : FnV) W (h0 : 0 ≤ y.sz) (h1 : y.sz ≤ 1000) => code_fwords y W h0 h1
    clear h hf E hx hl
    go_enter Tryd.func27, Tryd.ntmps27
    go_wp2_with (first
      | (go_at_call 38; (with_reducible refine ca.mono ?_); rintro e w1 ⟨y, rfl, hy, hok, hyn, hb1⟩; rw [hy] at hxr; have HY := hidb hy; clear hy)
      | (go_at_call 39; (with_reducible refine (cw y _ hxr.1 hxr.2).mono ?_); rintro e w2 ⟨rfl, hb2⟩))
    go_ret
    exact ⟨by rw [HY.out]; rfl, (belF_al hb1 _).trans (hb2.mono (by have := hb1.size; simp; omega))⟩

end Go.Proofs.YtkahpmnemabehaaDoor
