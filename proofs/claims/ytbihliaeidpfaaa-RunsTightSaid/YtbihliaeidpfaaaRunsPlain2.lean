/- Plain facts on free runs: what is added, sorted and joined; the tightest; what is cut out; how many pages. No program is named here. -/
import Derived.Test.YtbihliaeidpfaaaRunsPlain
namespace Go.Proofs.Ytbihliaeidpfaaa
set_option linter.unusedVariables false

/-- Do two share a page that are next to one another? -/
def shareB : List (Int × Int) → Bool
  | a :: b :: l => decide (b.1 < a.1 + a.2) || shareB (b :: l)
  | _ => false
theorem shareB_at : ∀ (l : List (Int × Int)) (i : Nat) (a b : Int × Int), l[i]? = some a → l[i + 1]? = some b → b.1 < a.1 + a.2 → shareB l = true
  | [], i, a, b, h, _, _ => by simp at h
  | [x], i, a, b, _, h, _ => by simp at h
  | x :: y :: l, 0, a, b, h1, h2, h => by
    obtain rfl : x = a := by simpa using h1
    obtain rfl : y = b := by simpa using h2
    show (decide _ || _) = true
    rw [decide_eq_true h]; rfl
  | x :: y :: l, i + 1, a, b, h1, h2, h => by
    have := shareB_at (y :: l) i a b (by simpa using h1) (by simpa using h2) h
    show (_ || shareB (y :: l)) = true
    rw [this, Bool.or_true]
theorem shareB_none : ∀ (l : List (Int × Int)), (∀ i a b, l[i]? = some a → l[i + 1]? = some b → ¬ b.1 < a.1 + a.2) → shareB l = false
  | [], _ => rfl
  | [_], _ => rfl
  | x :: y :: l, h => by
    show (decide _ || shareB (y :: l)) = false
    rw [decide_eq_false (h 0 x y rfl rfl), shareB_none (y :: l) (fun i a b h1 h2 => h (i + 1) a b (by simpa using h1) (by simpa using h2))]; rfl
theorem apart_of : ∀ {l : List (Int × Int)}, (∀ r ∈ l, 1 ≤ r.2) → shareB l = false → l.Pairwise fun a b => a.1 + a.2 ≤ b.1
  | [], _, _ => List.Pairwise.nil
  | [x], _, _ => List.pairwise_singleton _ _
  | x :: y :: l, hl, h => by
    have h' : (decide (y.1 < x.1 + x.2) || shareB (y :: l)) = false := h
    obtain ⟨h1, h2⟩ := (Bool.or_eq_false_iff).1 h'
    have h1' : ¬ y.1 < x.1 + x.2 := of_decide_eq_false h1
    have ih := apart_of (l := y :: l) (fun r hr => hl r (List.mem_cons_of_mem _ hr)) h2
    refine List.Pairwise.cons (fun b hb => ?_) ih
    rcases List.mem_cons.1 hb with rfl | hb
    · omega
    · have := (List.pairwise_cons.1 ih).1 b hb
      have := hl y (by simp)
      omega
theorem share_of : ∀ {l : List (Int × Int)}, (∀ r ∈ l, 1 ≤ r.2) → (l.Pairwise fun a b => a.1 ≤ b.1) → shareB l = true → ¬ Disj l
  | [], _, _, h => by cases h
  | [_], _, _, h => by cases h
  | x :: y :: l, hl, hr, h => fun hd => by
    obtain ⟨d1, d2⟩ := List.pairwise_cons.1 hd
    obtain ⟨r1, r2⟩ := List.pairwise_cons.1 hr
    have h' : (decide (y.1 < x.1 + x.2) || shareB (y :: l)) = true := h
    rcases (Bool.or_eq_true_iff).1 h' with c | c
    · have c := of_decide_eq_true c
      have := d1 y (by simp)
      have := r1 y (by simp)
      have := hl x (by simp)
      have := hl y (by simp)
      omega
    · exact share_of (fun r hr => hl r (List.mem_cons_of_mem _ hr)) r2 c d2
theorem disj_of_apart {l : List (Int × Int)} (h : l.Pairwise fun a b => a.1 + a.2 ≤ b.1) : Disj l := h.imp fun h => Or.inl h
theorem disj_perm {l m : List (Int × Int)} (h : l.Perm m) : Disj l ↔ Disj m := h.pairwise_iff fun h => h.symm
theorem canPut_iff (f : List Bool) (hf : f.length ≤ 1024) (l : List (Int × Int)) (hm : ∀ r ∈ l, fMay r = true) : CanPut true f l ↔ Disj (fList f ++ l) := by
  have hn := fList_norm f hf
  unfold CanPut Disj
  rw [List.pairwise_append]
  constructor
  · rintro ⟨h1, h2⟩
    refine ⟨(norm_rise hn).imp fun h => Or.inl (by omega), h1, fun a ha b hb => ?_⟩
    have hA := norm_mem hn a ha
    obtain ⟨b1, b2, b3⟩ := (fMay_iff b).1 (hm b hb)
    refine Classical.byContradiction fun hno => ?_
    have hp : ∃ p : Nat, a.1 ≤ (p : Int) ∧ (p : Int) < a.1 + a.2 ∧ b.1 ≤ (p : Int) ∧ (p : Int) < b.1 + b.2 := by
      by_cases d : b.1 ≤ a.1
      · exact ⟨a.1.toNat, by omega⟩
      · exact ⟨b.1.toNat, by omega⟩
    obtain ⟨p, k1, k2, k3, k4⟩ := hp
    exact h2 p ⟨b, hb, k3, k4⟩ ((fList_cov f p).1 ⟨a, ha, k1, k2⟩)
  · rintro ⟨_, h1, h2⟩
    refine ⟨h1, fun p ⟨b, hb, k1, k2⟩ e => ?_⟩
    obtain ⟨a, ha, k3, k4⟩ := (fList_cov f p).2 e
    have := h2 a ha b hb
    omega

/-- One more run, of which one is made with the last one where they touch. -/
def joinOn (acc : List (Int × Int)) (x : Int × Int) : List (Int × Int) :=
  match acc.getLast? with
  | some y => if y.1 + y.2 = x.1 then acc.dropLast ++ [(y.1, y.2 + x.2)] else acc ++ [x]
  | none => acc ++ [x]
def joinedL (l : List (Int × Int)) : List (Int × Int) := l.foldl joinOn []
structure JoinInv (acc done : List (Int × Int)) : Prop where
  may : ∀ r ∈ acc, 0 ≤ r.1 ∧ 1 ≤ r.2 ∧ r.1 + r.2 ≤ 1024
  rise : acc.Pairwise fun a b => a.1 + a.2 < b.1
  cov : ∀ p, Cov acc p ↔ Cov done p
  ends : ∀ b : Int, (∀ a ∈ done, a.1 + a.2 ≤ b) → ∀ r ∈ acc, r.1 + r.2 ≤ b
theorem joinOn_step {acc done : List (Int × Int)} {x : Int × Int} (h : JoinInv acc done) (hx : 0 ≤ x.1 ∧ 1 ≤ x.2 ∧ x.1 + x.2 ≤ 1024) (hd : ∀ a ∈ done, a.1 + a.2 ≤ x.1) : JoinInv (joinOn acc x) (done ++ [x]) := by
  have he := h.ends x.1 hd
  have plain : (∀ r ∈ acc, r.1 + r.2 < x.1) → JoinInv (acc ++ [x]) (done ++ [x]) := fun hlt => by
    refine ⟨fun r hr => ?_, ?_, fun p => ?_, fun b hb r hr => ?_⟩
    · rcases List.mem_append.1 hr with hr | hr
      · exact h.may r hr
      · obtain rfl := List.mem_singleton.1 hr; exact hx
    · rw [List.pairwise_append]
      exact ⟨h.rise, List.pairwise_singleton _ _, fun a ha b hb => by obtain rfl := List.mem_singleton.1 hb; exact hlt a ha⟩
    · rw [cov_append, cov_append, h.cov]
    · rcases List.mem_append.1 hr with hr | hr
      · exact h.ends b (fun a ha => hb a (List.mem_append_left _ ha)) r hr
      · obtain rfl := List.mem_singleton.1 hr
        exact hb r (by simp)
  unfold joinOn
  cases e : acc.getLast? with
  | none =>
    obtain rfl : acc = [] := List.getLast?_eq_none_iff.1 e
    exact plain (fun r hr => by cases hr)
  | some y =>
    obtain ⟨init, rfl⟩ := List.getLast?_eq_some_iff.1 e
    obtain ⟨p1, _, p3⟩ := List.pairwise_append.1 h.rise
    have hy := h.may y (by simp)
    by_cases c : y.1 + y.2 = x.1
    · simp only [if_pos c, List.dropLast_concat]
      refine ⟨fun r hr => ?_, ?_, fun p => ?_, fun b hb r hr => ?_⟩
      · rcases List.mem_append.1 hr with hr | hr
        · exact h.may r (List.mem_append_left _ hr)
        · obtain rfl := List.mem_singleton.1 hr
          show 0 ≤ y.1 ∧ 1 ≤ y.2 + x.2 ∧ y.1 + (y.2 + x.2) ≤ 1024
          omega
      · rw [List.pairwise_append]
        refine ⟨p1, List.pairwise_singleton _ _, fun a ha b hb => ?_⟩
        obtain rfl := List.mem_singleton.1 hb
        exact p3 a ha y (by simp)
      · rw [cov_append, cov_append, ← h.cov, cov_append, cov_cons, cov_cons, cov_cons, or_assoc]
        refine or_congr Iff.rfl ?_
        simp only [iff_false_intro (cov_nil p), or_false]
        omega
      · rcases List.mem_append.1 hr with hr | hr
        · exact h.ends b (fun a ha => hb a (List.mem_append_left _ ha)) r (List.mem_append_left _ hr)
        · obtain rfl := List.mem_singleton.1 hr
          have := hb x (by simp)
          show y.1 + (y.2 + x.2) ≤ b
          omega
    · simp only [if_neg c]
      refine plain (fun r hr => ?_)
      rcases List.mem_append.1 hr with hr | hr
      · have := p3 r hr y (by simp)
        have := he y (by simp)
        omega
      · obtain rfl := List.mem_singleton.1 hr
        have := he r (by simp)
        omega
theorem join_fold : ∀ {l acc done : List (Int × Int)}, JoinInv acc done → (∀ r ∈ l, 0 ≤ r.1 ∧ 1 ≤ r.2 ∧ r.1 + r.2 ≤ 1024) → ((done ++ l).Pairwise fun a b => a.1 + a.2 ≤ b.1) → JoinInv (l.foldl joinOn acc) (done ++ l)
  | [], acc, done, h, _, _ => by rw [List.append_nil]; exact h
  | x :: l, acc, done, h, hm, hp => by
    have hs := joinOn_step (x := x) h (hm x List.mem_cons_self) (fun a ha => (List.pairwise_append.1 hp).2.2 a ha x List.mem_cons_self)
    have := join_fold (l := l) hs (fun r hr => hm r (List.mem_cons_of_mem _ hr)) (by rw [List.append_assoc]; exact hp)
    rw [List.append_assoc] at this
    exact this
theorem joined_inv {l : List (Int × Int)} (hm : ∀ r ∈ l, 0 ≤ r.1 ∧ 1 ≤ r.2 ∧ r.1 + r.2 ≤ 1024) (hp : l.Pairwise fun a b => a.1 + a.2 ≤ b.1) : JoinInv (joinedL l) l := by
  have := join_fold (l := l) (acc := []) (done := []) ⟨fun r hr => (by cases hr), List.Pairwise.nil, fun p => Iff.rfl, fun b _ r hr => by cases hr⟩ hm hp
  exact this

/-- What Add makes of rising runs: those that are free, and those that are told. -/
theorem add_all {f : List Bool} {l d : List (Int × Int)} (hf : f.length = 1024) (hm : ∀ r ∈ l, fMay r = true) (hd : d.Perm (fList f ++ l)) (hr : d.Pairwise fun a b => a.1 ≤ b.1) :
    (shareB d = true → fPut f l true = (f, 9)) ∧ (shareB d = false → ∃ g, fPut f l true = (g, 0) ∧ fList g = joinedL d) := by
  have hn := fList_norm f (by omega)
  have hall : ∀ r ∈ d, 0 ≤ r.1 ∧ 1 ≤ r.2 ∧ r.1 + r.2 ≤ 1024 := fun r h => by
    rcases List.mem_append.1 (hd.mem_iff.1 h) with h | h
    · exact norm_mem hn r h
    · exact (fMay_iff r).1 (hm r h)
  have hlen : ∀ r ∈ d, 1 ≤ r.2 := fun r h => (hall r h).2.1
  constructor
  · intro h
    refine fPut_no hf hm fun hc => ?_
    exact share_of hlen hr h ((disj_perm hd).2 ((canPut_iff f (by omega) l hm).1 hc))
  · intro h
    have ha := apart_of hlen h
    have hc := (canPut_iff f (by omega) l hm).2 ((disj_perm hd).1 (disj_of_apart ha))
    obtain ⟨g, e, hl, hg⟩ := fPut_yes hf hm hc
    have hj := joined_inv hall ha
    refine ⟨g, e, fList_eq g (by omega) _ (norm_of hj.may hj.rise) fun p => ?_⟩
    rw [hj.cov]
    have hcov : Cov d (p : Int) ↔ Cov (fList f ++ l) (p : Int) := by
      unfold Cov
      constructor
      · rintro ⟨r, h1, h2⟩; exact ⟨r, hd.mem_iff.1 h1, h2⟩
      · rintro ⟨r, h1, h2⟩; exact ⟨r, hd.mem_iff.2 h1, h2⟩
    rw [hcov, cov_append, fList_cov]
    by_cases c : Cov l (p : Int)
    · exact ⟨fun _ => (hg p).1 c, fun _ => Or.inr c⟩
    · rw [(hg p).2 c]
      exact ⟨fun h => h.resolve_right c, Or.inl⟩

/-- The tightest so far, and one more. -/
def bestStep (n : Int) (o : Option (Int × Int)) (x : Int × Int) : Option (Int × Int) :=
  match o with
  | none => if n ≤ x.2 then some x else none
  | some b => if n ≤ x.2 ∧ x.2 < b.2 then some x else some b
def bestOf (n : Int) (l : List (Int × Int)) : Option (Int × Int) := l.foldl (bestStep n) none
def IsBest (n : Int) (l : List (Int × Int)) : Option (Int × Int) → Prop
  | none => ∀ r : Int × Int, r ∈ l → r.2 < n
  | some r => n ≤ r.2 ∧ (∃ j : Nat, l[j]? = some r ∧ ∀ i : Nat, i < j → ∀ y : Int × Int, l[i]? = some y → n ≤ y.2 → r.2 < y.2) ∧ ∀ y : Int × Int, y ∈ l → n ≤ y.2 → r.2 ≤ y.2
theorem bestOf_snoc (n : Int) (l : List (Int × Int)) (x : Int × Int) : bestOf n (l ++ [x]) = bestStep n (bestOf n l) x := by
  unfold bestOf; rw [List.foldl_append]; rfl
theorem isBest_step {n : Int} {l : List (Int × Int)} {o : Option (Int × Int)} (x : Int × Int) (h : IsBest n l o) : IsBest n (l ++ [x]) (bestStep n o x) := by
  have at_new : (l ++ [x])[l.length]? = some x := by simp
  have at_old : ∀ i y, i < l.length → ((l ++ [x])[i]? = some y ↔ l[i]? = some y) := fun i y hi => by rw [List.getElem?_append_left hi]
  unfold bestStep
  cases o with
  | none =>
    have h' : ∀ r ∈ l, r.2 < n := h
    by_cases c : n ≤ x.2
    · simp only [if_pos c]
      refine ⟨c, ⟨l.length, at_new, fun i hi y hy hn => ?_⟩, fun y hy hn => ?_⟩
      · have := h' y (List.mem_of_getElem? ((at_old i y hi).1 hy)); omega
      · rcases List.mem_append.1 hy with hy | hy
        · have := h' y hy; omega
        · obtain rfl := List.mem_singleton.1 hy; omega
    · simp only [if_neg c]
      intro r hr
      rcases List.mem_append.1 hr with hr | hr
      · exact h' r hr
      · obtain rfl := List.mem_singleton.1 hr; omega
  | some b =>
    obtain ⟨h1, ⟨j, h2, h3⟩, h4⟩ := h
    have hj : j < l.length := (List.getElem?_eq_some_iff.1 h2).1
    by_cases c : n ≤ x.2 ∧ x.2 < b.2
    · simp only [if_pos c]
      refine ⟨c.1, ⟨l.length, at_new, fun i hi y hy hn => ?_⟩, fun y hy hn => ?_⟩
      · have := h4 y (List.mem_of_getElem? ((at_old i y hi).1 hy)) hn; omega
      · rcases List.mem_append.1 hy with hy | hy
        · have := h4 y hy hn; omega
        · obtain rfl := List.mem_singleton.1 hy; omega
    · simp only [if_neg c]
      refine ⟨h1, ⟨j, (at_old j b hj).2 h2, fun i hi y hy hn => h3 i hi y ((at_old i y (by omega)).1 hy) hn⟩, fun y hy hn => ?_⟩
      rcases List.mem_append.1 hy with hy | hy
      · exact h4 y hy hn
      · obtain rfl := List.mem_singleton.1 hy; omega
theorem bestOf_is (n : Int) (l : List (Int × Int)) : IsBest n l (bestOf n l) := by
  have key : ∀ k, IsBest n (l.take k) (bestOf n (l.take k)) := fun k => by
    induction k with
    | zero => rw [List.take_zero]; intro r hr; cases hr
    | succ k ih =>
      rw [List.take_add_one]
      cases h : l[k]? with
      | none => simpa using ih
      | some x => rw [show (some x).toList = [x] from rfl, bestOf_snoc]; exact isBest_step x ih
  have := key l.length
  rwa [List.take_length] at this
theorem bestAt_is {n : Int} {l : List (Int × Int)} : ∀ {o : Option (Int × Int)}, IsBest n l o → ∀ (k : Nat) (want : Int), n ≤ want → (∀ r, o = some r → want ≤ r.2 ∧ r.2 < want + k) → bestAt l k want = o
  | none, h, 0, _, _, _ => rfl
  | none, h, k + 1, want, hn, ho => by
    rw [bestAt_none l k want (fun r hr e => by have := h r hr; omega)]
    exact bestAt_is h k (want + 1) (by omega) (fun r hr => by cases hr)
  | some b, h, 0, want, hn, ho => by have := ho b rfl; omega
  | some b, h, k + 1, want, hn, ho => by
    have hb := ho b rfl
    obtain ⟨h1, ⟨j, h2, h3⟩, h4⟩ := h
    by_cases c : want = b.2
    · exact bestAt_some l k want j b (fun i hi y hy e => by have := h3 i hi y hy (by omega); omega) h2 c.symm
    · rw [bestAt_none l k want (fun r hr e => by have := h4 r hr (by omega); omega)]
      exact bestAt_is (o := some b) ⟨h1, ⟨j, h2, h3⟩, h4⟩ k (want + 1) (by omega) (fun r hr => by obtain rfl := Option.some.inj hr; omega)
theorem fBest_is (f : List Bool) (hf : f.length ≤ 1024) (n : Int) : fBest f n = if n < 1 then none else bestOf n (fList f) := by
  unfold fBest
  by_cases c : n < 1
  · rw [if_pos c, if_pos c]
  · rw [if_neg c, if_neg c]
    have hb := bestOf_is n (fList f)
    refine bestAt_is hb _ n (by omega) (fun r hr => ?_)
    rw [hr] at hb
    obtain ⟨h1, ⟨j, h2, _⟩, _⟩ := hb
    have := norm_mem (fList_norm f hf) r (List.mem_of_getElem? h2)
    omega
/-- The tightest run is one of the runs, and long enough. -/
theorem fBest_mem {f : List Bool} (hf : f.length ≤ 1024) {n : Int} {r : Int × Int} (h : fBest f n = some r) : 1 ≤ n ∧ n ≤ r.2 ∧ r ∈ fList f := by
  rw [fBest_is f hf] at h
  by_cases c : n < 1
  · rw [if_pos c] at h; cases h
  · rw [if_neg c] at h
    have hb := bestOf_is n (fList f)
    rw [h] at hb
    obtain ⟨h1, ⟨j, h2, _⟩, _⟩ := hb
    exact ⟨by omega, h1, List.mem_of_getElem? h2⟩

/-- A run has all pages of another. -/
def inRun (x r : Int × Int) : Bool := decide (r.1 ≤ x.1) && decide (x.1 + x.2 ≤ r.1 + r.2)
theorem inRun_iff (x r : Int × Int) : inRun x r = true ↔ r.1 ≤ x.1 ∧ x.1 + x.2 ≤ r.1 + r.2 := by unfold inRun; rw [Bool.and_eq_true, decide_eq_true_iff, decide_eq_true_iff]
theorem norm_gap : ∀ {lo : Int} {l : List (Int × Int)}, Norm lo l → ∀ r ∈ l, ¬ Cov l (r.1 + r.2)
  | _, [], _, r, h => by cases h
  | lo, y :: l, hn, r, hr => fun hc => by
    obtain ⟨h1, h2, h3, h4⟩ := hn
    rcases List.mem_cons.1 hr with rfl | hr
    · rcases (cov_cons _ _ _).1 hc with c | c
      · omega
      · have := norm_le h4 c; omega
    · rcases (cov_cons _ _ _).1 hc with c | c
      · have := norm_mem h4 r hr; omega
      · exact norm_gap h4 r hr c
theorem in_one {lo : Int} {l : List (Int × Int)} (hn : Norm lo l) (x : Int × Int) (hx : 1 ≤ x.2) (h : ∀ p, x.1 ≤ p → p < x.1 + x.2 → Cov l p) : ∃ r ∈ l, inRun x r = true := by
  obtain ⟨r, hr, h1, h2⟩ := h x.1 (by omega) (by omega)
  refine ⟨r, hr, (inRun_iff x r).2 ⟨h1, ?_⟩⟩
  refine Int.not_lt.1 fun c => ?_
  exact norm_gap hn r hr (h _ (by omega) c)
theorem of_one {l : List (Int × Int)} {x r : Int × Int} (hr : r ∈ l) (h : inRun x r = true) (p : Int) (h1 : x.1 ≤ p) (h2 : p < x.1 + x.2) : Cov l p := by
  have := (inRun_iff x r).1 h
  exact ⟨r, hr, by omega, by omega⟩
theorem canCut_iff (f : List Bool) (hf : f.length ≤ 1024) (x : Int × Int) (hm : fMay x = true) : CanPut false f [x] ↔ ∃ r ∈ fList f, inRun x r = true := by
  obtain ⟨m1, m2, m3⟩ := (fMay_iff x).1 hm
  constructor
  · rintro ⟨_, h⟩
    refine in_one (fList_norm f hf) x m2 fun p h1 h2 => ?_
    obtain ⟨q, rfl⟩ : ∃ q : Nat, p = q := ⟨p.toNat, by omega⟩
    rw [fList_cov]
    have := h q ⟨x, by simp, h1, h2⟩
    revert this
    cases f.getD q false <;> simp
  · rintro ⟨r, hr, h⟩
    refine ⟨List.pairwise_singleton _ _, fun p hp => ?_⟩
    obtain ⟨y, hy, h1, h2⟩ := hp
    obtain rfl := List.mem_singleton.1 hy
    have := (fList_cov f p).1 (of_one hr h p h1 h2)
    rw [this]; decide
theorem fHas_iff (f : List Bool) (hf : f.length ≤ 1024) (x : Int × Int) : fHas f x = (fMay x && (fList f).any (inRun x)) := by
  unfold fHas
  cases hm : fMay x with
  | false => rfl
  | true =>
    obtain ⟨m1, m2, m3⟩ := (fMay_iff x).1 hm
    rw [Bool.true_and, Bool.true_and, Bool.eq_iff_iff, List.all_eq_true, List.any_eq_true]
    constructor
    · intro h
      refine in_one (fList_norm f hf) x m2 fun p h1 h2 => ?_
      obtain ⟨q, rfl⟩ : ∃ q : Nat, p = q := ⟨p.toNat, by omega⟩
      rw [fList_cov]
      have := h (q - x.1.toNat) (List.mem_range.2 (by omega))
      rwa [show x.1.toNat + (q - x.1.toNat) = q by omega] at this
    · rintro ⟨r, hr, h⟩ i hi
      have := List.mem_range.1 hi
      exact (fList_cov f _).1 (of_one hr h _ (by omega) (by omega))

/-- What is left of a run. -/
def leftL (r x : Int × Int) : List (Int × Int) := [(r.1, x.1 - r.1), (x.1 + x.2, r.1 + r.2 - (x.1 + x.2))].filter fun y => !(y.2 == 0)
theorem leftL_mem (r x y : Int × Int) : y ∈ leftL r x ↔ (y = (r.1, x.1 - r.1) ∧ x.1 - r.1 ≠ 0) ∨ (y = (x.1 + x.2, r.1 + r.2 - (x.1 + x.2)) ∧ r.1 + r.2 - (x.1 + x.2) ≠ 0) := by
  unfold leftL
  rw [List.mem_filter]
  constructor
  · rintro ⟨h, h2⟩
    rcases List.mem_cons.1 h with rfl | h
    · exact Or.inl ⟨rfl, by simpa using h2⟩
    · obtain rfl := List.mem_singleton.1 h
      exact Or.inr ⟨rfl, by simpa using h2⟩
  · rintro (⟨rfl, h⟩ | ⟨rfl, h⟩)
    · exact ⟨by simp, by simpa using h⟩
    · exact ⟨by simp, by simpa using h⟩
theorem leftL_rise (r x : Int × Int) (hx : 1 ≤ x.2) : (leftL r x).Pairwise fun a b => a.1 + a.2 < b.1 := by
  refine List.Pairwise.filter _ ?_
  refine List.Pairwise.cons (fun b hb => ?_) (List.pairwise_singleton _ _)
  obtain rfl := List.mem_singleton.1 hb
  show r.1 + (x.1 - r.1) < x.1 + x.2
  omega
theorem cut_list {a b : List (Int × Int)} {r x : Int × Int} (hn : Norm 0 (a ++ r :: b)) (hx : 1 ≤ x.2) (h : inRun x r = true) :
    Norm 0 (a ++ leftL r x ++ b) ∧ ∀ p, Cov (a ++ leftL r x ++ b) p ↔ Cov (a ++ r :: b) p ∧ ¬ (x.1 ≤ p ∧ p < x.1 + x.2) := by
  obtain ⟨i1, i2⟩ := (inRun_iff x r).1 h
  have hm := norm_mem hn
  have hr := hm r (by simp)
  obtain ⟨p1, p2, p3⟩ := List.pairwise_append.1 (norm_rise hn)
  obtain ⟨p4, p5⟩ := List.pairwise_cons.1 p2
  constructor
  · refine norm_of (fun y hy => ?_) ?_
    · rcases List.mem_append.1 hy with hy | hy
      · rcases List.mem_append.1 hy with hy | hy
        · exact hm y (by simp [hy])
        · rcases (leftL_mem r x y).1 hy with ⟨rfl, _⟩ | ⟨rfl, _⟩
          · show 0 ≤ r.1 ∧ 1 ≤ x.1 - r.1 ∧ r.1 + (x.1 - r.1) ≤ 1024
            omega
          · show 0 ≤ x.1 + x.2 ∧ 1 ≤ r.1 + r.2 - (x.1 + x.2) ∧ x.1 + x.2 + (r.1 + r.2 - (x.1 + x.2)) ≤ 1024
            omega
      · exact hm y (by simp [hy])
    · rw [List.pairwise_append, List.pairwise_append]
      refine ⟨⟨p1, leftL_rise r x hx, fun y hy z hz => ?_⟩, p5, fun y hy z hz => ?_⟩
      · have := p3 y hy r (by simp)
        rcases (leftL_mem r x z).1 hz with ⟨rfl, _⟩ | ⟨rfl, _⟩
        · exact this
        · show y.1 + y.2 < x.1 + x.2
          omega
      · rcases List.mem_append.1 hy with hy | hy
        · exact p3 y hy z (List.mem_cons_of_mem _ hz)
        · have := p4 z hz
          rcases (leftL_mem r x y).1 hy with ⟨rfl, _⟩ | ⟨rfl, _⟩
          · show r.1 + (x.1 - r.1) < z.1
            omega
          · show x.1 + x.2 + (r.1 + r.2 - (x.1 + x.2)) < z.1
            omega
  · intro p
    have hl : Cov (leftL r x) p ↔ (r.1 ≤ p ∧ p < r.1 + r.2) ∧ ¬ (x.1 ≤ p ∧ p < x.1 + x.2) := by
      constructor
      · rintro ⟨y, hy, h1, h2⟩
        rcases (leftL_mem r x y).1 hy with ⟨rfl, _⟩ | ⟨rfl, _⟩
        · simp only at h1 h2; omega
        · simp only at h1 h2; omega
      · rintro ⟨h1, h2⟩
        by_cases c : p < x.1
        · exact ⟨(r.1, x.1 - r.1), (leftL_mem r x _).2 (Or.inl ⟨rfl, by omega⟩), by show r.1 ≤ p; omega, by show p < r.1 + (x.1 - r.1); omega⟩
        · exact ⟨(x.1 + x.2, r.1 + r.2 - (x.1 + x.2)), (leftL_mem r x _).2 (Or.inr ⟨rfl, by omega⟩), by show x.1 + x.2 ≤ p; omega, by show p < x.1 + x.2 + (r.1 + r.2 - (x.1 + x.2)); omega⟩
    have ha : Cov a p → p < r.1 := by
      rintro ⟨y, hy, h1, h2⟩
      have := p3 y hy r (by simp); omega
    have hb : Cov b p → r.1 + r.2 < p := by
      rintro ⟨y, hy, h1, h2⟩
      have := p4 y hy; omega
    rw [cov_append, cov_append, cov_append, cov_cons, hl]
    constructor
    · rintro ((c | c) | c)
      · exact ⟨Or.inl c, by have := ha c; omega⟩
      · exact ⟨Or.inr (Or.inl c.1), c.2⟩
      · exact ⟨Or.inr (Or.inr c), by have := hb c; omega⟩
    · rintro ⟨c | c | c, d⟩
      · exact Or.inl (Or.inl c)
      · exact Or.inl (Or.inr ⟨c, d⟩)
      · exact Or.inr c
/-- What Cut makes of the run that has all its pages. -/
theorem cut_yes {f : List Bool} (hf : f.length = 1024) {x : Int × Int} (hm : fMay x = true) {i : Nat} {r : Int × Int} (hi : (fList f)[i]? = some r) (h : inRun x r = true) :
    ∃ g, fPut f [x] false = (g, 0) ∧ fList g = (fList f).take i ++ leftL r x ++ (fList f).drop (i + 1) := by
  obtain ⟨hlt, he⟩ := List.getElem?_eq_some_iff.1 hi
  have e : fList f = (fList f).take i ++ r :: (fList f).drop (i + 1) := by
    rw [← he, ← List.drop_eq_getElem_cons hlt, List.take_append_drop]
  have hn := fList_norm f (by omega)
  have hc := (canCut_iff f (by omega) x hm).2 ⟨r, List.mem_of_getElem? hi, h⟩
  obtain ⟨g, eg, hl, hg⟩ := fPut_yes hf (fun y hy => by obtain rfl := List.mem_singleton.1 hy; exact hm) hc
  rw [e] at hn
  obtain ⟨c1, c2⟩ := cut_list hn ((fMay_iff x).1 hm).2.1 h
  refine ⟨g, eg, fList_eq g (by omega) _ c1 fun p => ?_⟩
  rw [c2, ← e, fList_cov]
  have hx : Cov [x] (p : Int) ↔ (x.1 ≤ (p : Int) ∧ (p : Int) < x.1 + x.2) := by
    rw [cov_cons]; simp only [iff_false_intro (cov_nil _), or_false]
  by_cases c : Cov [x] (p : Int)
  · rw [(hg p).1 c]
    exact ⟨fun d => absurd (hx.1 c) d.2, fun d => by cases d⟩
  · rw [(hg p).2 c]
    exact ⟨fun d => d.1, fun d => ⟨d, fun k => c (hx.2 k)⟩⟩
theorem cut_no {f : List Bool} (hf : f.length = 1024) {x : Int × Int} (hm : fMay x = true) (h : ∀ r ∈ fList f, inRun x r = false) : fPut f [x] false = (f, 9) :=
  fPut_no hf (fun y hy => by obtain rfl := List.mem_singleton.1 hy; exact hm) fun hc => by
    obtain ⟨r, hr, h2⟩ := (canCut_iff f (by omega) x hm).1 hc
    rw [h r hr] at h2; cases h2
theorem cut_bad {f : List Bool} {x : Int × Int} {free : Bool} (hm : fMay x = false) : fPut f [x] free = (f, 2) := fPut_bad (by simp [hm])

/-- How many pages runs have. -/
def sumL (l : List (Int × Int)) : Int := (l.map (·.2)).sum
theorem sumL_append (a b : List (Int × Int)) : sumL (a ++ b) = sumL a + sumL b := by unfold sumL; rw [List.map_append, List.sum_append]
theorem sumL_one (r : Int × Int) : sumL [r] = r.2 := by simp [sumL]
theorem sumL_pgs : ∀ {l : List (Int × Int)}, (∀ r ∈ l, 0 ≤ r.2) → sumL l = ((pgs l).length : Int)
  | [], _ => rfl
  | r :: l, h => by
    have ih := sumL_pgs (l := l) (fun x hx => h x (List.mem_cons_of_mem _ hx))
    have hr := h r List.mem_cons_self
    show sumL ([r] ++ l) = _
    rw [sumL_append, sumL_one, ih, pgs_cons, List.length_append, List.length_map, List.length_range]
    omega
theorem fPages_sum (f : List Bool) : sumL (fList f) = (fPages f : Int) := by
  rw [sumL_pgs (fun r hr => by
    obtain ⟨S, L, rfl, _⟩ := fList_ok f r hr
    show (0 : Int) ≤ (L : Int)
    omega)]
  have e : pgs (fList f) = pagesAt (f.map b2i) 1 0 f.length := by
    have := xRuns_pages (f.map b2i) 1
    rw [List.length_map] at this; exact this
  rw [e]
  congr 1
  unfold pagesAt fPages
  have e2 : f = (List.range' 0 f.length).map (fun q => f.getD q false) := by
    apply List.ext_getElem?
    intro i
    by_cases hi : i < f.length
    · rw [List.getElem?_map, List.getElem?_range' hi, List.getElem?_eq_getElem hi]
      simp [hi]
    · rw [List.getElem?_eq_none (by omega), List.getElem?_eq_none (by simp; omega)]
  have e3 : ((List.range' 0 f.length).filter fun q => (f.map b2i).getD q 0 == 1) = (List.range' 0 f.length).filter (id ∘ fun q => f.getD q false) := by
    apply List.filter_congr
    intro q _
    rw [getD_map_b2i]
    show _ = f.getD q false
    cases f.getD q false <;> rfl
  rw [e3]
  conv => rhs; rw [e2, List.filter_map, List.length_map]
theorem sumL_range {f : List Bool} (hf : f.length ≤ 1024) (k : Nat) : 0 ≤ sumL ((fList f).take k) ∧ sumL ((fList f).take k) ≤ 1024 := by
  have hn := fun r hr => norm_mem (fList_norm f hf) r hr
  have h1 : ∀ l : List (Int × Int), (∀ r ∈ l, 0 ≤ r.2) → 0 ≤ sumL l := fun l h => by rw [sumL_pgs h]; omega
  have a := h1 ((fList f).take k) (fun r hr => by have := hn r (List.mem_of_mem_take hr); omega)
  have b := h1 ((fList f).drop k) (fun r hr => by have := hn r (List.mem_of_mem_drop hr); omega)
  have c := fPages_sum f
  rw [← List.take_append_drop k (fList f), sumL_append] at c
  have := fPages_le f
  omega
theorem fPages_cut {f g : List Bool} {x r : Int × Int} {i : Nat} (hi : (fList f)[i]? = some r) (h : inRun x r = true) (hg : fList g = (fList f).take i ++ leftL r x ++ (fList f).drop (i + 1)) : (fPages g : Int) = (fPages f : Int) - x.2 := by
  obtain ⟨hlt, he⟩ := List.getElem?_eq_some_iff.1 hi
  have e : fList f = (fList f).take i ++ ([r] ++ (fList f).drop (i + 1)) := by
    show _ = (fList f).take i ++ r :: (fList f).drop (i + 1)
    rw [← he, ← List.drop_eq_getElem_cons hlt, List.take_append_drop]
  have s : sumL (leftL r x) = r.2 - x.2 := by
    unfold leftL
    by_cases c1 : x.1 - r.1 = 0
    · by_cases c2 : r.1 + r.2 - (x.1 + x.2) = 0
      · have : [(r.1, x.1 - r.1), (x.1 + x.2, r.1 + r.2 - (x.1 + x.2))].filter (fun y => !(y.2 == 0)) = [] := by simp [c1, c2]
        rw [this]; show 0 = _; omega
      · have : [(r.1, x.1 - r.1), (x.1 + x.2, r.1 + r.2 - (x.1 + x.2))].filter (fun y => !(y.2 == 0)) = [(x.1 + x.2, r.1 + r.2 - (x.1 + x.2))] := by simp [c1, c2]
        rw [this, sumL_one]; show r.1 + r.2 - (x.1 + x.2) = _; omega
    · by_cases c2 : r.1 + r.2 - (x.1 + x.2) = 0
      · have : [(r.1, x.1 - r.1), (x.1 + x.2, r.1 + r.2 - (x.1 + x.2))].filter (fun y => !(y.2 == 0)) = [(r.1, x.1 - r.1)] := by simp [c1, c2]
        rw [this, sumL_one]; show x.1 - r.1 = _; omega
      · have : [(r.1, x.1 - r.1), (x.1 + x.2, r.1 + r.2 - (x.1 + x.2))].filter (fun y => !(y.2 == 0)) = [(r.1, x.1 - r.1)] ++ [(x.1 + x.2, r.1 + r.2 - (x.1 + x.2))] := by simp [c1, c2]
        rw [this, sumL_append, sumL_one, sumL_one]; show x.1 - r.1 + (r.1 + r.2 - (x.1 + x.2)) = _; omega
  have a := fPages_sum f
  have b := fPages_sum g
  rw [hg, sumL_append, sumL_append, s] at b
  rw [e, sumL_append, sumL_append, sumL_one] at a
  omega

end Go.Proofs.Ytbihliaeidpfaaa
