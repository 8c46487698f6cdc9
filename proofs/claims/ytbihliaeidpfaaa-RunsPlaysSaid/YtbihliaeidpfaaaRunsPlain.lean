/- Plain facts on free runs: rows of runs that rise and don't touch, against rows of pages. No program is named here. -/
import Derived.Test.YtbihliaeidpfaaaRunsMath
import Derived.Test.YtbihliaeidpfaaaIndexPlain3
namespace Go.Proofs.Ytbihliaeidpfaaa

/-- Runs from lo on, below 1024, rising, none of which touch. -/
def Norm : Int → List (Int × Int) → Prop
  | _, [] => True
  | lo, r :: l => lo ≤ r.1 ∧ 1 ≤ r.2 ∧ r.1 + r.2 ≤ 1024 ∧ Norm (r.1 + r.2 + 1) l
/-- A page is of one of them. -/
def Cov (rs : List (Int × Int)) (p : Int) : Prop := ∃ r ∈ rs, r.1 ≤ p ∧ p < r.1 + r.2
theorem cov_nil (p : Int) : ¬ Cov [] p := fun ⟨_, h, _⟩ => by cases h
theorem cov_cons (r : Int × Int) (l : List (Int × Int)) (p : Int) : Cov (r :: l) p ↔ (r.1 ≤ p ∧ p < r.1 + r.2) ∨ Cov l p := by
  unfold Cov
  constructor
  · rintro ⟨x, h, h2⟩
    rcases List.mem_cons.1 h with rfl | h
    · exact Or.inl h2
    · exact Or.inr ⟨x, h, h2⟩
  · rintro (h | ⟨x, h, h2⟩)
    · exact ⟨r, List.mem_cons_self, h⟩
    · exact ⟨x, List.mem_cons_of_mem _ h, h2⟩
theorem cov_append (a b : List (Int × Int)) (p : Int) : Cov (a ++ b) p ↔ Cov a p ∨ Cov b p := by
  unfold Cov
  constructor
  · rintro ⟨x, h, h2⟩
    rcases List.mem_append.1 h with h | h
    · exact Or.inl ⟨x, h, h2⟩
    · exact Or.inr ⟨x, h, h2⟩
  · rintro (⟨x, h, h2⟩ | ⟨x, h, h2⟩)
    · exact ⟨x, List.mem_append_left _ h, h2⟩
    · exact ⟨x, List.mem_append_right _ h, h2⟩
theorem norm_mem : ∀ {lo : Int} {l : List (Int × Int)}, Norm lo l → ∀ r ∈ l, lo ≤ r.1 ∧ 1 ≤ r.2 ∧ r.1 + r.2 ≤ 1024
  | _, [], _, r, h => by cases h
  | lo, x :: l, hn, r, h => by
    obtain ⟨h1, h2, h3, h4⟩ := hn
    rcases List.mem_cons.1 h with rfl | h
    · exact ⟨h1, h2, h3⟩
    · have := norm_mem h4 r h
      exact ⟨by omega, this.2⟩
theorem norm_le {lo p : Int} {l : List (Int × Int)} (hn : Norm lo l) (h : Cov l p) : lo ≤ p := by
  obtain ⟨r, hr, h1, _⟩ := h
  have := norm_mem hn r hr; omega
theorem norm_uniq : ∀ {lo : Int} {xs ys : List (Int × Int)}, Norm lo xs → Norm lo ys → (∀ p, Cov xs p ↔ Cov ys p) → xs = ys
  | _, [], [], _, _, _ => rfl
  | _, [], y :: ys, _, h2, h => absurd ((h y.1).2 ⟨y, List.mem_cons_self, by have := h2.2.1; omega⟩) (cov_nil _)
  | _, x :: xs, [], h1, _, h => absurd ((h x.1).1 ⟨x, List.mem_cons_self, by have := h1.2.1; omega⟩) (cov_nil _)
  | lo, x :: xs, y :: ys, h1, h2, h => by
    obtain ⟨a1, a2, a3, a4⟩ := h1
    obtain ⟨b1, b2, b3, b4⟩ := h2
    have kx : ∀ p, Cov (x :: xs) p ↔ (x.1 ≤ p ∧ p < x.1 + x.2) ∨ Cov xs p := fun p => cov_cons x xs p
    have ky : ∀ p, Cov (y :: ys) p ↔ (y.1 ≤ p ∧ p < y.1 + y.2) ∨ Cov ys p := fun p => cov_cons y ys p
    have e1 : x.1 = y.1 := by
      have c1 : y.1 ≤ x.1 := by
        rcases (ky _).1 ((h x.1).1 ((kx _).2 (Or.inl (by omega)))) with c | c
        · omega
        · have := norm_le b4 c; omega
      have c2 : x.1 ≤ y.1 := by
        rcases (kx _).1 ((h y.1).2 ((ky _).2 (Or.inl (by omega)))) with c | c
        · omega
        · have := norm_le a4 c; omega
      omega
    have e2 : x.2 = y.2 := by
      have c1 : ¬ x.2 < y.2 := fun c => by
        rcases (kx _).1 ((h (x.1 + x.2)).2 ((ky _).2 (Or.inl (by omega)))) with c | c
        · omega
        · have := norm_le a4 c; omega
      have c2 : ¬ y.2 < x.2 := fun c => by
        rcases (ky _).1 ((h (y.1 + y.2)).1 ((kx _).2 (Or.inl (by omega)))) with c | c
        · omega
        · have := norm_le b4 c; omega
      omega
    obtain rfl : x = y := Prod.ext e1 e2
    rw [norm_uniq a4 b4 (fun p => ?_)]
    constructor
    · intro c
      rcases (ky _).1 ((h p).1 ((kx _).2 (Or.inr c))) with d | d
      · have := norm_le a4 c; omega
      · exact d
    · intro c
      rcases (kx _).1 ((h p).2 ((ky _).2 (Or.inr c))) with d | d
      · have := norm_le b4 c; omega
      · exact d
theorem norm_of : ∀ {lo : Int} {l : List (Int × Int)}, (∀ r ∈ l, lo ≤ r.1 ∧ 1 ≤ r.2 ∧ r.1 + r.2 ≤ 1024) → (l.Pairwise fun a b => a.1 + a.2 < b.1) → Norm lo l
  | _, [], _, _ => trivial
  | lo, x :: l, h, hp => by
    obtain ⟨p1, p2⟩ := List.pairwise_cons.1 hp
    have hx := h x List.mem_cons_self
    refine ⟨hx.1, hx.2.1, hx.2.2, norm_of (fun r hr => ?_) p2⟩
    have := p1 r hr
    have := h r (List.mem_cons_of_mem _ hr)
    omega
theorem norm_rise : ∀ {lo : Int} {l : List (Int × Int)}, Norm lo l → l.Pairwise fun a b => a.1 + a.2 < b.1
  | _, [], _ => List.Pairwise.nil
  | _, x :: l, h => List.Pairwise.cons (fun b hb => by have := norm_mem h.2.2.2 b hb; omega) (norm_rise h.2.2.2)

/-- The pages of runs. -/
theorem pgs_cons (r : Int × Int) (l : List (Int × Int)) : pgs (r :: l) = (List.range r.2.toNat).map (r.1.toNat + ·) ++ pgs l := rfl
theorem mem_pgs : ∀ {l : List (Int × Int)}, (∀ r ∈ l, 0 ≤ r.1 ∧ 1 ≤ r.2) → ∀ p : Nat, p ∈ pgs l ↔ Cov l (p : Int)
  | [], _, p => ⟨fun h => (by cases h), fun h => absurd h (cov_nil _)⟩
  | r :: l, h, p => by
    have hr := h r List.mem_cons_self
    rw [pgs_cons, List.mem_append, mem_pgs (fun x hx => h x (List.mem_cons_of_mem _ hx)) p, cov_cons]
    refine or_congr ?_ Iff.rfl
    rw [List.mem_map]
    constructor
    · rintro ⟨i, hi, rfl⟩
      have := List.mem_range.1 hi
      omega
    · intro c
      exact ⟨p - r.1.toNat, List.mem_range.2 (by omega), by omega⟩
theorem getD_map_b2i (f : List Bool) (q : Nat) : (f.map b2i).getD q 0 = b2i (f.getD q false) := by
  rw [List.getD_eq_getElem?_getD, List.getD_eq_getElem?_getD, List.getElem?_map]
  cases f[q]? <;> rfl
theorem fList_ok (f : List Bool) : ∀ r ∈ fList f, ∃ S L : Nat, r = ((S : Int), (L : Int)) ∧ 1 ≤ L ∧ S + L ≤ f.length := by
  intro r hr
  obtain ⟨S, L, e, h1, _, h3, _⟩ := runsAt_ok (f.map b2i) 1 _ 0 r hr
  exact ⟨S, L, e, h1, by simpa using h3⟩
theorem fList_norm (f : List Bool) (h : f.length ≤ 1024) : Norm 0 (fList f) := by
  refine norm_of (fun r hr => ?_) (runsAt_rise (f.map b2i) 1 _ 0)
  obtain ⟨S, L, rfl, h1, h2⟩ := fList_ok f r hr
  show (0 : Int) ≤ (S : Int) ∧ (1 : Int) ≤ (L : Int) ∧ (S : Int) + (L : Int) ≤ 1024
  omega
theorem fList_cov (f : List Bool) (p : Nat) : Cov (fList f) (p : Int) ↔ f.getD p false = true := by
  rw [← mem_pgs (fun r hr => by
    obtain ⟨S, L, rfl, h1, h2⟩ := fList_ok f r hr
    show (0 : Int) ≤ (S : Int) ∧ (1 : Int) ≤ (L : Int)
    omega) p]
  have e : pgs (fList f) = pagesAt (f.map b2i) 1 0 f.length := by
    have := xRuns_pages (f.map b2i) 1
    rw [List.length_map] at this; exact this
  rw [e]
  unfold pagesAt
  rw [List.mem_filter, getD_map_b2i]
  constructor
  · rintro ⟨_, h⟩
    exact (b2i_one _).1 (by simpa using h)
  · intro h
    refine ⟨List.mem_range'_1.2 ⟨by omega, ?_⟩, by rw [h]; rfl⟩
    refine Nat.not_le.1 fun c => ?_
    rw [List.getD_eq_getElem?_getD, List.getElem?_eq_none (by omega)] at h
    cases h
theorem fList_neg (f : List Bool) (p : Int) (h : p < 0) : ¬ Cov (fList f) p := by
  rintro ⟨r, hr, h1, _⟩
  obtain ⟨S, L, rfl, _⟩ := fList_ok f r hr
  simp only at h1; omega
/-- What has the same pages, and is as it should be, is the list. -/
theorem fList_eq (f : List Bool) (hf : f.length ≤ 1024) (l : List (Int × Int)) (hn : Norm 0 l) (h : ∀ p : Nat, Cov l (p : Int) ↔ f.getD p false = true) : fList f = l :=
  norm_uniq (fList_norm f hf) hn fun p => by
    by_cases c : p < 0
    · exact ⟨fun d => absurd d (fList_neg f p c), fun d => by have := norm_le hn d; omega⟩
    · obtain ⟨q, rfl⟩ : ∃ q : Nat, p = q := ⟨p.toNat, by omega⟩
      rw [fList_cov, h]
theorem fList_len (f : List Bool) : (fList f).length ≤ f.length := by
  have h := runsAt_length (f.map b2i) 1 ((f.map b2i).length + 1) 0
  have e : fList f = runsAt (f.map b2i) 1 ((f.map b2i).length + 1) 0 := rfl
  rw [e]
  rw [List.length_map] at h ⊢
  omega

/-- No two share a page. -/
def Disj (l : List (Int × Int)) : Prop := l.Pairwise fun a b => a.1 + a.2 ≤ b.1 ∨ b.1 + b.2 ≤ a.1
/-- None of their pages is so already, and none is in two of them. -/
def CanPut (free : Bool) (f : List Bool) (l : List (Int × Int)) : Prop := Disj l ∧ ∀ p : Nat, Cov l (p : Int) → f.getD p false ≠ free
theorem getD_setB (f : List Bool) (p q : Nat) (b : Bool) (hp : p < f.length) : (f.set p b).getD q false = if p = q then b else f.getD q false := by
  rw [List.getD_eq_getElem?_getD, List.getElem?_set, List.getD_eq_getElem?_getD]
  split
  · next h => simp
  · rfl
theorem freePages_yes (free : Bool) (s : Nat) (out : List Bool) : ∀ k, s + k ≤ out.length → (∀ i, i < k → out.getD (s + i) false ≠ free) →
    ∃ o, freePages free s k out = some o ∧ ∀ p, o.getD p false = if s ≤ p ∧ p < s + k then free else out.getD p false
  | 0, _, _ => ⟨out, rfl, fun p => by rw [if_neg (by omega)]⟩
  | k + 1, hl, h => by
    obtain ⟨o, e, ho⟩ := freePages_yes free s out k (by omega) (fun i hi => h i (by omega))
    have hlen := freePages_length e
    have hg : o.getD (s + k) false ≠ free := by rw [ho, if_neg (by omega)]; exact h k (by omega)
    refine ⟨o.set (s + k) free, ?_, fun p => ?_⟩
    · show (freePages free s k out).bind _ = _
      rw [e]
      show freePage free o (s + k) = _
      unfold freePage
      rw [if_neg (by simpa using hg)]
    · rw [getD_setB _ _ _ _ (by omega), ho]
      by_cases c : s + k = p
      · rw [if_pos c, if_pos (by omega)]
      · rw [if_neg c]
        by_cases d : s ≤ p ∧ p < s + k
        · rw [if_pos d, if_pos (by omega)]
        · rw [if_neg d, if_neg (by omega)]
theorem freePages_no (free : Bool) (s : Nat) (out : List Bool) (k i : Nat) (hl : s + k ≤ out.length) (hi : i < k) (h : out.getD (s + i) false = free) : freePages free s k out = none := by
  induction i using Nat.strongRecOn with
  | ind i ih =>
    by_cases c : ∃ j, j < i ∧ out.getD (s + j) false = free
    · obtain ⟨j, h1, h2⟩ := c
      exact ih j h1 (by omega) h2
    · obtain ⟨o, e, ho⟩ := freePages_yes free s out i (by omega) (fun j hj e => c ⟨j, hj, e⟩)
      refine freePages_none (k := i + 1) k (by omega) ?_
      show (freePages free s i out).bind _ = _
      rw [e]
      show freePage free o (s + i) = _
      unfold freePage
      rw [if_pos (by rw [ho, if_neg (by omega), h]; simp)]
theorem freeRuns_cons (free : Bool) (f : List Bool) (r : Int × Int) (l : List (Int × Int)) : freeRuns free f (r :: l) = (freePages free r.1.toNat r.2.toNat f).bind fun g => freeRuns free g l := by
  show l.foldl _ (freePages free r.1.toNat r.2.toNat f) = _
  cases e : freePages free r.1.toNat r.2.toNat f with
  | none => exact freeFold_none free l
  | some g => rfl
theorem fMay_iff (r : Int × Int) : fMay r = true ↔ 0 ≤ r.1 ∧ 1 ≤ r.2 ∧ r.1 + r.2 ≤ 1024 := by
  unfold fMay
  rw [decide_eq_true_iff]
  omega
theorem freeRuns_all (free : Bool) : ∀ (l : List (Int × Int)) (f : List Bool), f.length = 1024 → (∀ r ∈ l, fMay r = true) →
    (CanPut free f l → ∃ g, freeRuns free f l = some g ∧ ∀ p : Nat, (Cov l (p : Int) → g.getD p false = free) ∧ (¬ Cov l (p : Int) → g.getD p false = f.getD p false)) ∧ (¬ CanPut free f l → freeRuns free f l = none)
  | [], f, _, _ => ⟨fun _ => ⟨f, rfl, fun p => ⟨fun h => absurd h (cov_nil _), fun _ => rfl⟩⟩, fun h => absurd ⟨List.Pairwise.nil, fun p h => absurd h (cov_nil _)⟩ h⟩
  | r :: l, f, hf, hm => by
    obtain ⟨m1, m2, m3⟩ := (fMay_iff r).1 (hm r List.mem_cons_self)
    have hml : ∀ x ∈ l, fMay x = true := fun x hx => hm x (List.mem_cons_of_mem _ hx)
    by_cases c : ∃ i, i < r.2.toNat ∧ f.getD (r.1.toNat + i) false = free
    · obtain ⟨i, hi, h⟩ := c
      have e : freeRuns free f (r :: l) = none := by
        rw [freeRuns_cons, freePages_no free _ f _ i (by omega) hi h]; rfl
      refine ⟨fun hc => absurd h (hc.2 _ ((cov_cons r l _).2 (Or.inl (by omega)))), fun _ => e⟩
    · obtain ⟨g, e, hg⟩ := freePages_yes free r.1.toNat f r.2.toNat (by omega) (fun i hi h => c ⟨i, hi, h⟩)
      have hgl := freePages_length e
      obtain ⟨y1, y2⟩ := freeRuns_all free l g (by omega) hml
      have e2 : freeRuns free f (r :: l) = freeRuns free g l := by rw [freeRuns_cons, e]; rfl
      have key : CanPut free f (r :: l) ↔ CanPut free g l := by
        constructor
        · rintro ⟨h1, h2⟩
          obtain ⟨p1, p2⟩ := List.pairwise_cons.1 h1
          refine ⟨p2, fun p hp => ?_⟩
          rw [hg, if_neg]
          · exact h2 p ((cov_cons r l _).2 (Or.inr hp))
          · obtain ⟨x, hx, q1, q2⟩ := hp
            have := p1 x hx
            omega
        · rintro ⟨h1, h2⟩
          refine ⟨List.pairwise_cons.2 ⟨fun x hx => ?_, h1⟩, fun p hp => ?_⟩
          · obtain ⟨x1, x2, x3⟩ := (fMay_iff x).1 (hml x hx)
            refine Classical.byContradiction fun hno => ?_
            have hp : ∃ p : Nat, x.1 ≤ (p : Int) ∧ (p : Int) < x.1 + x.2 ∧ r.1 ≤ (p : Int) ∧ (p : Int) < r.1 + r.2 := by
              by_cases d : r.1 ≤ x.1
              · exact ⟨x.1.toNat, by omega⟩
              · exact ⟨r.1.toNat, by omega⟩
            obtain ⟨p, k1, k2, k3, k4⟩ := hp
            refine h2 p ⟨x, hx, k1, k2⟩ ?_
            rw [hg, if_pos (by omega)]
          · rcases (cov_cons r l _).1 hp with h | h
            · intro e3
              exact c ⟨p - r.1.toNat, by omega, by rw [show r.1.toNat + (p - r.1.toNat) = p by omega]; exact e3⟩
            · intro e3
              have := h2 p h
              rw [hg] at this
              by_cases d : r.1.toNat ≤ p ∧ p < r.1.toNat + r.2.toNat
              · rw [if_pos d] at this; exact this rfl
              · rw [if_neg d] at this; exact this e3
      rw [e2]
      refine ⟨fun hc => ?_, fun hc => y2 (fun d => hc (key.2 d))⟩
      obtain ⟨o, eo, ho⟩ := y1 (key.1 hc)
      refine ⟨o, eo, fun p => ⟨fun hp => ?_, fun hp => ?_⟩⟩
      · by_cases d : Cov l (p : Int)
        · exact (ho p).1 d
        · rw [(ho p).2 d, hg, if_pos]
          rcases (cov_cons r l _).1 hp with h | h
          · omega
          · exact absurd h d
      · have d : ¬ Cov l (p : Int) := fun d => hp ((cov_cons r l _).2 (Or.inr d))
        rw [(ho p).2 d, hg, if_neg]
        intro h
        exact hp ((cov_cons r l _).2 (Or.inl (by omega)))
/-- What Put answers, where all runs may be. -/
theorem fPut_yes {free : Bool} {f : List Bool} {l : List (Int × Int)} (hf : f.length = 1024) (hm : ∀ r ∈ l, fMay r = true) (h : CanPut free f l) :
    ∃ g, fPut f l free = (g, 0) ∧ g.length = 1024 ∧ ∀ p : Nat, (Cov l (p : Int) → g.getD p false = free) ∧ (¬ Cov l (p : Int) → g.getD p false = f.getD p false) := by
  obtain ⟨g, e, hg⟩ := (freeRuns_all free l f hf hm).1 h
  have hl := freeRuns_length free l f g e
  refine ⟨g, ?_, by omega, hg⟩
  unfold fPut
  rw [if_pos (List.all_eq_true.2 hm), e]; rfl
theorem fPut_no {free : Bool} {f : List Bool} {l : List (Int × Int)} (hf : f.length = 1024) (hm : ∀ r ∈ l, fMay r = true) (h : ¬ CanPut free f l) : fPut f l free = (f, 9) := by
  unfold fPut
  rw [if_pos (List.all_eq_true.2 hm), (freeRuns_all free l f hf hm).2 h]; rfl
theorem fPut_bad {free : Bool} {f : List Bool} {l : List (Int × Int)} (h : l.all fMay = false) : fPut f l free = (f, 2) := by
  unfold fPut
  rw [if_neg (by rw [h]; decide)]

end Go.Proofs.Ytbihliaeidpfaaa
