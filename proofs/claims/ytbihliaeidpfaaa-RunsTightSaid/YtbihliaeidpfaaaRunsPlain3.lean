/- Plain facts on free runs: what is cut out and added again; in whichever order pages become free. No program is named here. -/
import Derived.Test.YtbihliaeidpfaaaRunsPlain2
namespace Go.Proofs.Ytbihliaeidpfaaa
set_option linter.unusedVariables false

theorem bits_ext {f g : List Bool} (hl : f.length = g.length) (h : ∀ p : Nat, f.getD p false = g.getD p false) : f = g := by
  apply List.ext_getElem?
  intro p
  by_cases hp : p < f.length
  · have := h p
    rw [List.getD_eq_getElem?_getD, List.getD_eq_getElem?_getD, List.getElem?_eq_getElem hp, List.getElem?_eq_getElem (by omega)] at this
    rw [List.getElem?_eq_getElem hp, List.getElem?_eq_getElem (by omega)]
    exact congrArg some this
  · rw [List.getElem?_eq_none (by omega), List.getElem?_eq_none (by omega)]
theorem cov_one (x : Int × Int) (p : Int) : Cov [x] p ↔ x.1 ≤ p ∧ p < x.1 + x.2 := by
  rw [cov_cons]; simp only [iff_false_intro (cov_nil _), or_false]
theorem one_may {x : Int × Int} (h : fMay x = true) : ∀ r ∈ [x], fMay r = true := fun r hr => by obtain rfl := List.mem_singleton.1 hr; exact h
theorem fPut_ok {free : Bool} {f g : List Bool} {l : List (Int × Int)} (hf : f.length = 1024) (h : fPut f l free = (g, 0)) :
    (∀ r ∈ l, fMay r = true) ∧ CanPut free f l ∧ g.length = 1024 ∧ ∀ p : Nat, (Cov l (p : Int) → g.getD p false = free) ∧ (¬ Cov l (p : Int) → g.getD p false = f.getD p false) := by
  cases ha : l.all fMay with
  | false => rw [fPut_bad ha] at h; injection h with _ h; cases h
  | true =>
    have hm := List.all_eq_true.1 ha
    by_cases hc : CanPut free f l
    · obtain ⟨g', e, h1, h2⟩ := fPut_yes hf hm hc
      rw [e] at h
      obtain rfl : g' = g := by injection h
      exact ⟨hm, hc, h1, h2⟩
    · rw [fPut_no hf hm hc] at h
      injection h with _ h
      cases h
theorem fPut_err {free : Bool} {f : List Bool} {l : List (Int × Int)} (hf : f.length = 1024) (h : (fPut f l free).2 ≠ 0) : (fPut f l free).1 = f ∧ ¬ ((∀ r ∈ l, fMay r = true) ∧ CanPut free f l) := by
  cases ha : l.all fMay with
  | false =>
    rw [fPut_bad ha]
    exact ⟨rfl, fun c => by rw [List.all_eq_true.2 c.1] at ha; cases ha⟩
  | true =>
    have hm := List.all_eq_true.1 ha
    by_cases hc : CanPut free f l
    · obtain ⟨g', e, _⟩ := fPut_yes hf hm hc
      rw [e] at h; exact absurd rfl h
    · rw [fPut_no hf hm hc]
      exact ⟨rfl, fun c => hc c.2⟩
/-- What is cut out is free no more; added again, all is as it was. -/
theorem cut_back {f g : List Bool} {x : Int × Int} (hf : f.length = 1024) (h : fPut f [x] false = (g, 0)) :
    fHas g x = false ∧ (fPages g : Int) = (fPages f : Int) - x.2 ∧ fPut g [x] false = (g, 9) ∧ fPut g [x] true = (f, 0) ∧ fMay x = true ∧ g.length = 1024 := by
  obtain ⟨hm, hc, hg, hp⟩ := fPut_ok hf h
  have hx := hm x (by simp)
  obtain ⟨m1, m2, m3⟩ := (fMay_iff x).1 hx
  have hno : ¬ CanPut false g [x] := fun c => c.2 x.1.toNat ((cov_one x _).2 (by omega)) ((hp _).1 ((cov_one x _).2 (by omega)))
  have hyes : CanPut true g [x] := ⟨List.pairwise_singleton _ _, fun p hp' e => by rw [(hp p).1 hp'] at e; cases e⟩
  obtain ⟨k, ek, hk, hkp⟩ := fPut_yes hg (one_may hx) hyes
  have hkf : k = f := bits_ext (by omega) fun p => by
    by_cases c : Cov [x] (p : Int)
    · rw [(hkp p).1 c]
      have := hc.2 p c
      revert this
      cases f.getD p false <;> simp
    · rw [(hkp p).2 c, (hp p).2 c]
  obtain ⟨r, hr, hin⟩ := (canCut_iff f (by omega) x hx).1 hc
  obtain ⟨i, hi, e⟩ := List.getElem_of_mem hr
  have hir : (fList f)[i]? = some r := by rw [List.getElem?_eq_getElem hi, e]
  obtain ⟨g', e1, e2⟩ := cut_yes hf hx hir hin
  rw [h] at e1
  obtain rfl : g = g' := by injection e1
  refine ⟨?_, fPages_cut hir hin e2, fPut_no hg (one_may hx) hno, by rw [ek, hkf], hx, hg⟩
  rw [fHas_iff g (by omega), hx, Bool.true_and, List.any_eq_false]
  exact fun y hy c => hno ((canCut_iff g (by omega) x hx).2 ⟨y, hy, c⟩)
theorem cut_fail {f : List Bool} {x : Int × Int} (hf : f.length = 1024) (h : (fPut f [x] false).2 ≠ 0) : (fPut f [x] false).1 = f ∧ fHas f x = false := by
  obtain ⟨h1, h2⟩ := fPut_err hf h
  refine ⟨h1, ?_⟩
  rw [fHas_iff f (by omega)]
  cases hx : fMay x with
  | false => rfl
  | true =>
    rw [Bool.true_and, List.any_eq_false]
    exact fun y hy c => h2 ⟨one_may hx, (canCut_iff f (by omega) x hx).2 ⟨y, hy, c⟩⟩

/-- These runs alone are free: all of them may be, no two share a page. -/
structure Only (f : List Bool) (l : List (Int × Int)) : Prop where
  len : f.length = 1024
  may : ∀ r ∈ l, fMay r = true
  disj : Disj l
  cov : ∀ p : Nat, f.getD p false = true ↔ Cov l (p : Int)
theorem Only.start : Only (List.replicate 1024 false) [] := by
  refine ⟨List.length_replicate, fun r hr => (by cases hr), List.Pairwise.nil, fun p => ⟨fun h => ?_, fun h => absurd h (cov_nil _)⟩⟩
  rw [List.getD_eq_getElem?_getD, List.getElem?_replicate] at h
  split at h <;> cases h
theorem Only.canPut {f : List Bool} {l : List (Int × Int)} (h : Only f l) (m : List (Int × Int)) (hm : ∀ r ∈ m, fMay r = true) : CanPut true f m ↔ Disj (l ++ m) := by
  unfold CanPut Disj
  rw [List.pairwise_append]
  constructor
  · rintro ⟨h1, h2⟩
    refine ⟨h.disj, h1, fun a ha b hb => ?_⟩
    obtain ⟨a1, a2, a3⟩ := (fMay_iff a).1 (h.may a ha)
    obtain ⟨b1, b2, b3⟩ := (fMay_iff b).1 (hm b hb)
    refine Classical.byContradiction fun hno => ?_
    have hp : ∃ p : Nat, a.1 ≤ (p : Int) ∧ (p : Int) < a.1 + a.2 ∧ b.1 ≤ (p : Int) ∧ (p : Int) < b.1 + b.2 := by
      by_cases d : b.1 ≤ a.1
      · exact ⟨a.1.toNat, by omega⟩
      · exact ⟨b.1.toNat, by omega⟩
    obtain ⟨p, k1, k2, k3, k4⟩ := hp
    exact h2 p ⟨b, hb, k3, k4⟩ ((h.cov p).2 ⟨a, ha, k1, k2⟩)
  · rintro ⟨_, h1, h2⟩
    refine ⟨h1, fun p ⟨b, hb, k1, k2⟩ e => ?_⟩
    obtain ⟨a, ha, k3, k4⟩ := (h.cov p).1 e
    have := h2 a ha b hb
    omega
theorem Only.put {f g : List Bool} {l m : List (Int × Int)} (h : Only f l) (e : fPut f m true = (g, 0)) : Only g (l ++ m) := by
  obtain ⟨hm, hc, hg, hp⟩ := fPut_ok h.len e
  refine ⟨hg, fun r hr => ?_, (h.canPut m hm).1 hc, fun p => ?_⟩
  · rcases List.mem_append.1 hr with hr | hr
    · exact h.may r hr
    · exact hm r hr
  · rw [cov_append, ← h.cov]
    by_cases c : Cov m (p : Int)
    · exact ⟨fun _ => Or.inr c, fun _ => (hp p).1 c⟩
    · rw [(hp p).2 c]
      exact ⟨Or.inl, fun d => d.resolve_right c⟩
theorem Only.err {f : List Bool} {l m : List (Int × Int)} (h : Only f l) (e : (fPut f m true).2 ≠ 0) : ¬ ((∀ r ∈ l ++ m, fMay r = true) ∧ Disj (l ++ m)) := by
  obtain ⟨_, h2⟩ := fPut_err h.len e
  rintro ⟨h3, h4⟩
  have hm : ∀ r ∈ m, fMay r = true := fun r hr => h3 r (List.mem_append_right _ hr)
  exact h2 ⟨hm, (h.canPut m hm).2 h4⟩
theorem Only.same {f g : List Bool} {l m : List (Int × Int)} (h : Only f l) (k : Only g m) (hp : l.Perm m) : f = g :=
  bits_ext (by rw [h.len, k.len]) fun p => by
    have e : f.getD p false = true ↔ g.getD p false = true := by
      rw [h.cov, k.cov]
      unfold Cov
      constructor
      · rintro ⟨r, h1, h2⟩; exact ⟨r, hp.mem_iff.1 h1, h2⟩
      · rintro ⟨r, h1, h2⟩; exact ⟨r, hp.mem_iff.2 h1, h2⟩
    revert e
    cases f.getD p false <;> cases g.getD p false <;> simp
/-- An error: some of them may not be, or share a page. -/
theorem only_bad {f : List Bool} {l m : List (Int × Int)} (h : Only f l) (hp : l.Perm m) : (∀ r ∈ m, fMay r = true) ∧ Disj m :=
  ⟨fun r hr => h.may r (hp.mem_iff.2 hr), (disj_perm hp).1 h.disj⟩
theorem bad_take {l : List (Int × Int)} (k : Nat) (h : ¬ ((∀ r ∈ l.take k, fMay r = true) ∧ Disj (l.take k))) : ¬ ((∀ r ∈ l, fMay r = true) ∧ Disj l) := fun ⟨h1, h2⟩ =>
  h ⟨fun r hr => h1 r (List.mem_of_mem_take hr), h2.sublist (List.take_sublist _ _)⟩

end Go.Proofs.Ytbihliaeidpfaaa
