/- Layer 13's statement FnsTells. -/
import Derived.Test.YtkahpmnemabehaaDoorFnsIs
namespace Go.Proofs.YtkahpmnemabehaaDoor
open Go.RowKit
set_option linter.unusedVariables false

theorem ref_fsize (A : Option Addr) (n c : Nat) (ys : List FnV) (lo hi : Nat) (w : World) (f : Int) (hs : FnRow w lo hi A n ys) (hn : n ≤ 1000) :
    Calls Tryd.prog 16 #[.slice A n c, .int .i64 f] w fun e w' => e = .returned (.int .i64 (fSize (vals ys) f)) ∧ w = w' := by
  have hl := hs.len
  by_cases hf : f < 0 ∨ (n : Int) ≤ f
  · have E : fSize (vals ys) f = -1 := by unfold fSize; rw [vals_length, hl, if_pos hf]
    rw [E]
    clear hs E hl
    by_cases h0 : f < 0
    · clear hf
      go_enter Tryd.func16, Tryd.ntmps16
      go_wp2
      go_ret
      exact ⟨rfl, rfl⟩
    · have h1 : (n : Int) ≤ f := by omega
      clear hf
      go_enter Tryd.func16, Tryd.ntmps16
      go_wp2
      go_ret
      exact ⟨rfl, rfl⟩
  · obtain ⟨b, off, y, rfl, _, hy, hc0, hc1, hok⟩ := hs.at_ (j := f.toNat) (by omega)
    have E : fSize (vals ys) f = y.sz := by unfold fSize; rw [vals_length, hl, if_neg hf, getD_at _ _ _ _ (vals_at hy)]
    rw [E]
    have f0 : ¬ f < 0 := by omega
    have f1 : f < (n : Int) := by omega
    have f2 : 0 ≤ f := by omega
    clear hs E hl hf hy hok
    go_enter Tryd.func16, Tryd.ntmps16
    go_wp2
    go_ret
    exact ⟨rfl, rfl⟩
theorem ref_fwordsR (A : Option Addr) (n c : Nat) (ys : List FnV) (lo hi : Nat) (w : World) (f : Int) (hs : FnRow w lo hi A n ys) (hn : n ≤ 1000) (hr : fSize (vals ys) f ≤ 1000) (hr2 : -9223372036854775808 ≤ fSize (vals ys) f) :
    Calls Tryd.prog 17 #[.slice A n c, .int .i64 f] w fun e w' => e = .returned (.int .i64 (fWords (vals ys) f)) ∧ w = w' := by
  have cs := ref_fsize A n c ys lo hi w f hs hn
  unfold fWords
  generalize fSize (vals ys) f = z at *
  clear hs
  by_cases h0 : z < 0
  · rw [if_pos h0]
    go_enter Tryd.func17, Tryd.ntmps17
    go_wp2_with (go_at_call 16; (with_reducible refine cs.mono ?_); rintro e w' ⟨rfl, rfl⟩)
    go_ret
    exact ⟨rfl, rfl⟩
  · rw [if_neg h0]
    go_enter Tryd.func17, Tryd.ntmps17
    go_wp2_with (go_at_call 16; (with_reducible refine cs.mono ?_); rintro e w' ⟨rfl, rfl⟩)
    go_ret
    exact ⟨rfl, rfl⟩
/-- A state that holds on where nothing that was there is written. -/
structure Stab (w : World) (p : Option Addr) (l : Fns) (St : World → Prop) : Prop where
  get : ∀ W, St W → S13 w W p l
  step : ∀ W w', St W → Below W.heap.size W w' → St w'
theorem stab_self (w : World) (p : Option Addr) (l : Fns) : Stab w p l (fun W => S13 w W p l) := ⟨fun _ h => h, fun _ _ h hb => h.step hb⟩
def WithRow (w : World) (p : Option Addr) (l : Fns) (A : Option Addr) (L : List Int) (W : World) : Prop := S13 w W p l ∧ Sl W W.heap.size A L.length (L.map iv)
theorem stab_row (w : World) (p : Option Addr) (l : Fns) (A : Option Addr) (L : List Int) : Stab w p l (WithRow w p l A L) := ⟨fun _ h => h.1, fun _ _ h hb => ⟨h.1.step hb, (h.2.below hb).more hb.size⟩⟩
section
variable {w : World} {p : Option Addr} {l : Fns} {St : World → Prop}
theorem g_fsize (k : Stab w p l St) (W : World) (s : Hid (St W)) (f r : Int) (hr : fSize l f = r) : Calls Tryd.prog 30 #[.pointer p, .int .i64 f] W fun e w' => e = .returned (.int .i64 r) ∧ Hid (St w') := by
  obtain ⟨_, lo, hi, h2, h3, _⟩ := k.get _ s.out
  rw [← hr]
  exact (code_fsize h2 h3 f).mono fun e w' ⟨h1, h3⟩ => ⟨h1, hidb (k.step _ _ s.out h3)⟩
theorem g_fwords (k : Stab w p l St) (W : World) (s : Hid (St W)) (f r : Int) (hl : ∀ x ∈ l, 0 ≤ x.1 ∧ x.1 ≤ 1000) (hr : fWords l f = r) : Calls Tryd.prog 27 #[.pointer p, .int .i64 f] W fun e w' => e = .returned (.int .i64 r) ∧ Hid (St w') := by
  obtain ⟨_, lo, hi, h2, h3, _⟩ := k.get _ s.out
  rw [← hr]
  exact (code_fwordsT h2 h3 f hl).mono fun e w' ⟨h1, h3⟩ => ⟨h1, hidb (k.step _ _ s.out h3)⟩
theorem g_rsize {A : Option Addr} {n c : Nat} {ys : List FnV} (k : Stab w p l St) (h : In13 w A n ys) (W : World) (s : Hid (St W)) (f r : Int) (hr : fSize (vals ys) f = r) : Calls Tryd.prog 16 #[.slice A n c, .int .i64 f] W fun e w' => e = .returned (.int .i64 r) ∧ Hid (St w') := by
  rw [← hr]
  exact (ref_fsize A n c ys _ _ W f (h.at_ (k.get _ s.out).bel) (by have := h.few; omega)).mono fun e w' ⟨h1, h2⟩ => ⟨h1, by rw [← h2]; exact s⟩
theorem g_rwords {A : Option Addr} {n c : Nat} {ys : List FnV} (k : Stab w p l St) (h : In13 w A n ys) (W : World) (s : Hid (St W)) (f r : Int) (h1 : fSize (vals ys) f ≤ 1000) (h2 : -9223372036854775808 ≤ fSize (vals ys) f) (hr : fWords (vals ys) f = r) : Calls Tryd.prog 17 #[.slice A n c, .int .i64 f] W fun e w' => e = .returned (.int .i64 r) ∧ Hid (St w') := by
  rw [← hr]
  exact (ref_fwordsR A n c ys _ _ W f (h.at_ (k.get _ s.out).bel) (by have := h.few; omega) h1 h2).mono fun e w' ⟨h1, h2⟩ => ⟨h1, by rw [← h2]; exact s⟩
end
theorem fTab_sizes {l : Fns} (h : fTab l = true) : ∀ x ∈ l, 0 ≤ x.1 ∧ x.1 ≤ 1000 := fun x hx => by
  unfold fTab at h; rw [Bool.and_eq_true] at h
  obtain ⟨i, hi, rfl⟩ := List.getElem_of_mem hx
  exact fMay_size (fAll_at h.1 i _ (List.getElem?_eq_getElem hi))
theorem fOwns_sizes {l : Fns} (h : ∀ x ∈ l, 0 ≤ x.1 ∧ x.1 ≤ 1000) : ∀ x ∈ fOwns l, 0 ≤ x.1 ∧ x.1 ≤ 1000 := fun x hx => by
  obtain ⟨y, hy, rfl⟩ := List.mem_map.1 hx
  exact h y hy
theorem fSize_range {l : Fns} (h : ∀ x ∈ l, 0 ≤ x.1 ∧ x.1 ≤ 1000) (f : Int) : -1 ≤ fSize l f ∧ fSize l f ≤ 1000 := by
  unfold fSize
  split
  · omega
  · rw [List.getD_eq_getElem?_getD, List.getElem?_eq_getElem (by omega)]
    have := h _ (List.getElem_mem (l := l) (n := f.toNat) (by omega))
    simp only [Option.getD_some]
    omega
theorem fWords_owns (l : Fns) (f : Int) : fWords (fOwns l) f = fWords l f := by unfold fWords; rw [fSize_owns]

end Go.Proofs.YtkahpmnemabehaaDoor
