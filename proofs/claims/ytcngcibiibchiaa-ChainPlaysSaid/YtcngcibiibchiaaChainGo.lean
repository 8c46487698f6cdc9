/- Plain facts on chains: what a program meets that follows the links till a 0 comes, and how many blocks there are it asks at the end; what stands at the words when one block is taken out. No program is named here. -/
import Derived.Test.YtcngcibiibchiaaChainPlain
namespace Go.Proofs.Ytcngcibiibchiaa
set_option linter.unusedVariables false

/-- A word as a whole number: 2^63 and more are below 0. -/
def asInt (x : Nat) : Int := if x < 9223372036854775808 then (x : Int) else (x : Int) - 18446744073709551616
def Wide (w : List Nat) : Prop := ∀ x ∈ w, x < 18446744073709551616
/-- The blocks that are met from h on, behind those in out; none: one isn't there, or was met. -/
def fGo (w : List Nat) : Nat → Int → List Int → Option (List Int)
  | 0, _, _ => none
  | k + 1, h, out =>
    if h = 0 then some out
    else if h < 0 ∨ (w.length : Int) < h ∨ (h - 1) ∈ out then none
    else fGo w k (asInt (w.getD (h - 1).toNat 0)) (out ++ [h - 1])
def fList (w : List Nat) (h : Int) : Option (List Int) := fGo w (w.length + 1) h []
theorem fGo_zero (w : List Nat) (k : Nat) (out : List Int) : fGo w (k + 1) 0 out = some out := by simp [fGo]
theorem fGo_bad (w : List Nat) (k : Nat) (h : Int) (out : List Int) (h0 : h ≠ 0) (h1 : h < 0 ∨ (w.length : Int) < h ∨ (h - 1) ∈ out) : fGo w (k + 1) h out = none := by
  unfold fGo; rw [if_neg h0, if_pos h1]
theorem fGo_next (w : List Nat) (k : Nat) (h : Int) (out : List Int) (x : Nat) (h0 : h ≠ 0) (h1 : ¬ (h < 0 ∨ (w.length : Int) < h ∨ (h - 1) ∈ out)) (hx : w[(h - 1).toNat]? = some x) : fGo w (k + 1) h out = fGo w k (asInt x) (out ++ [h - 1]) := by
  have e : w.getD (h - 1).toNat 0 = x := by rw [List.getD_eq_getElem?_getD, hx]; rfl
  conv => lhs; unfold fGo
  rw [if_neg h0, if_neg h1, e]
theorem fGo_links {w : List Nat} (hw : Wide w) : ∀ {k : Nat} {h : Int} {out l : List Int}, out.Nodup → fGo w k h out = some l → (∃ m, l = out ++ m ∧ Links w h m) ∧ l.Nodup
  | 0, h, out, l, _, e => by cases e
  | k + 1, h, out, l, hd, e => by
    by_cases h0 : h = 0
    · subst h0
      rw [fGo_zero] at e
      obtain rfl := Option.some.inj e
      exact ⟨⟨[], by simp, rfl⟩, hd⟩
    · by_cases h1 : h < 0 ∨ (w.length : Int) < h ∨ (h - 1) ∈ out
      · rw [fGo_bad w k h out h0 h1] at e; cases e
      · have hlt : (h - 1).toNat < w.length := by simp only [not_or] at h1; omega
        have hx : w[(h - 1).toNat]? = some (w.getD (h - 1).toNat 0) := by rw [List.getD_eq_getElem?_getD, List.getElem?_eq_getElem hlt]; rfl
        have hb := hw _ (List.mem_of_getElem? hx)
        rw [fGo_next w k h out _ h0 h1 hx] at e
        simp only [not_or] at h1
        obtain ⟨⟨m, e1, e2⟩, e3⟩ := fGo_links hw (List.nodup_append.2 ⟨hd, by simp, fun a ha b hb' => by
          obtain rfl := List.mem_singleton.1 hb'
          exact fun e => h1.2.2 (e ▸ ha)⟩) e
        have hr := e2.range
        have hs : asInt (w.getD (h - 1).toNat 0) = (w.getD (h - 1).toNat 0 : Nat) := by
          unfold asInt at hr ⊢
          split
          · rfl
          · rename_i hc
            rw [if_neg hc] at hr
            omega
        rw [hs] at e2
        exact ⟨⟨(h - 1) :: m, by rw [e1]; simp, by omega, by omega, by omega, e2⟩, e3⟩
theorem links_fGo {w : List Nat} (hn : w.length ≤ 65536) : ∀ {l : List Int} {h : Int} {out : List Int} {k : Nat}, Links w h l → (out ++ l).Nodup → l.length < k → fGo w k h out = some (out ++ l)
  | [], h, out, 0, _, _, hk => absurd hk (by simp)
  | [], h, out, k + 1, e, _, _ => by
    obtain rfl : h = 0 := e
    rw [fGo_zero, List.append_nil]
  | a :: l, h, out, 0, _, _, hk => absurd hk (by simp)
  | a :: l, h, out, k + 1, e, hd, hk => by
    obtain ⟨h1, h2, h3, h4⟩ := e
    have h5 := h4.range
    have hlt : a.toNat < w.length := by omega
    have ha : h - 1 = a := by omega
    have hx : w[(h - 1).toNat]? = some (w.getD a.toNat 0) := by
      rw [ha, List.getD_eq_getElem?_getD, List.getElem?_eq_getElem hlt]; rfl
    have hna : a ∉ out := fun c => (List.nodup_append.1 hd).2.2 a c a (List.mem_cons_self ..) rfl
    have hs : asInt (w.getD a.toNat 0) = (w.getD a.toNat 0 : Nat) := by
      unfold asInt; rw [if_pos (by omega)]
    rw [fGo_next w k h out _ (by omega) (by
      rw [ha]; simp only [not_or]
      exact ⟨by omega, by omega, hna⟩) hx, ha, hs]
    have e2 : out ++ a :: l = (out ++ [a]) ++ l := by simp
    rw [e2]
    exact links_fGo hn (l := l) (out := out ++ [a]) (k := k) h4 (by rw [← e2]; exact hd) (by simpa using hk)
theorem Links.mem {w : List Nat} : ∀ {h : Int} {l : List Int}, Links w h l → ∀ x ∈ l, 0 ≤ x ∧ x < (w.length : Int)
  | h, [], _, x, hx => by cases hx
  | h, a :: l, e, x, hx => by
    obtain ⟨h1, h2, h3, h4⟩ := e
    rcases List.mem_cons.1 hx with rfl | hx
    · exact ⟨h2, h3⟩
    · exact h4.mem x hx
theorem fList_some {w : List Nat} {h : Int} {l : List Int} (hw : Wide w) (hn : w.length ≤ 65536) : fList w h = some l ↔ Links w h l ∧ l.Nodup := by
  constructor
  · intro e
    obtain ⟨⟨m, e1, e2⟩, e3⟩ := fGo_links hw List.nodup_nil (show fGo w (w.length + 1) h [] = some l from e)
    obtain rfl : l = m := by simpa using e1
    exact ⟨e2, e3⟩
  · rintro ⟨h1, h2⟩
    have h3 := nodup_le w.length l h2 h1.mem
    have := links_fGo hn (out := []) (k := w.length + 1) h1 (by simpa using h2) (by omega)
    simpa [fList] using this
/-- Followed to the end, and so many blocks met: just if the chain is right. -/
theorem cList_of {w : List Nat} {h len : Int} (hw : Wide w) (hn : w.length ≤ 65536) : cList w (h, len) = (fList w h).filter (fun l => decide ((l.length : Int) = len)) := by
  cases hf : fList w h with
  | none =>
    cases hc : cList w (h, len) with
    | none => rfl
    | some l =>
      obtain ⟨h1, h2, _⟩ := cList_iff.1 hc
      rw [(fList_some hw hn).2 ⟨h1, h2⟩] at hf
      cases hf
  | some l =>
    obtain ⟨h1, h2⟩ := (fList_some hw hn).1 hf
    by_cases hl : (l.length : Int) = len
    · rw [cList_iff.2 ⟨h1, h2, hl⟩]
      simp [Option.filter, hl]
    · cases hc : cList w (h, len) with
      | none => simp [Option.filter, hl]
      | some l2 =>
        obtain ⟨h3, h4, h5⟩ := cList_iff.1 hc
        have := (fList_some hw hn).2 ⟨h3, h4⟩
        rw [hf] at this
        obtain rfl := Option.some.inj this
        exact absurd h5 hl
theorem Wide.set {w : List Nat} (hw : Wide w) (i : Nat) {x : Nat} (hx : x < 18446744073709551616) : Wide (w.set i x) := fun y hy => by
  rcases List.mem_or_eq_of_mem_set hy with h | h
  · exact hw y h
  · rw [h]; exact hx
theorem Wide.cAll : ∀ {l : List Int} {s : List Nat × (Int × Int)}, Wide s.1 → s.2.1.toNat < 18446744073709551616 → (∀ x ∈ l, x < 65536) → Wide (cAll s l).1
  | [], s, h, _, _ => h
  | a :: l, s, h, h1, h2 => by
    have := h2 a (List.mem_cons_self ..)
    exact Wide.cAll (s := cStep s a) (h.set _ h1) (by show (a + 1).toNat < _; omega) (fun x hx => h2 x (List.mem_cons_of_mem _ hx))

end Go.Proofs.Ytcngcibiibchiaa
