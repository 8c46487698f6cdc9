/- Plain facts on what the code of layer 3 (bitmap) makes of rows of bits. No program is named here. -/
import Derived.Test.YtdcnpaodcjfdbaaGreatDoorBitMath
namespace Go.Proofs.YtdcnpaodcjfdbaaGreatDoor

/-- Without words 0 at its end. -/
def bTrim : List Nat → List Nat
  | [] => []
  | x :: l => if bTrim l = [] ∧ x = 0 then [] else x :: bTrim l

theorem bTrim_getD : ∀ (l : List Nat) (i : Nat), (bTrim l).getD i 0 = l.getD i 0
  | [], _ => rfl
  | x :: l, i => by
    have ih := bTrim_getD l
    unfold bTrim
    split
    · next h =>
      cases i with
      | zero => simp [h.2]
      | succ i =>
        have := ih i
        rw [h.1] at this
        simpa using this
    · cases i with
      | zero => rfl
      | succ i => simpa using ih i
theorem bTrim_length : ∀ l : List Nat, (bTrim l).length ≤ l.length
  | [] => Nat.le_refl _
  | x :: l => by
    have ih := bTrim_length l
    unfold bTrim
    split
    · simp
    · simp; omega
theorem bTrim_take : ∀ l : List Nat, bTrim l = l.take (bTrim l).length
  | [] => rfl
  | x :: l => by
    have ih := bTrim_take l
    unfold bTrim
    split
    · rfl
    · rw [List.length_cons, List.take_succ_cons, ← ih]
theorem bTrim_nil : ∀ (l : List Nat), (∀ i, l.getD i 0 = 0) → bTrim l = []
  | [], _ => rfl
  | x :: l, h => by
    have ih := bTrim_nil l (fun i => by simpa using h (i + 1))
    unfold bTrim
    rw [if_pos ⟨ih, by simpa using h 0⟩]
theorem bTrim_eq : ∀ (a b : List Nat), (∀ i, a.getD i 0 = b.getD i 0) → bTrim a = bTrim b
  | [], b, h => (bTrim_nil b (fun i => (h i).symm)).symm
  | x :: a, [], h => bTrim_nil (x :: a) h
  | x :: a, y :: b, h => by
    have ih := bTrim_eq a b (fun i => by simpa using h (i + 1))
    have e : x = y := by simpa using h 0
    unfold bTrim
    rw [ih, e]
theorem bTrim_last : ∀ (l : List Nat) (n : Nat), (bTrim l).length = n + 1 → (bTrim l).getD n 0 ≠ 0
  | [], n, h => by simp [bTrim] at h
  | x :: l, n, h => by
    have ih := bTrim_last l
    unfold bTrim at h ⊢
    split
    · next c => rw [if_pos c] at h; simp at h
    · next c =>
      rw [if_neg c] at h
      cases n with
      | zero =>
        have : bTrim l = [] := List.eq_nil_of_length_eq_zero (by simpa using h)
        simpa using fun e => c ⟨this, e⟩
      | succ n => simpa using ih n (by simpa using h)
/-- A row that ends in a word that isn't 0 is trimmed. -/
theorem bTrim_tight : ∀ (l : List Nat), (∀ n, l.length = n + 1 → l.getD n 0 ≠ 0) → bTrim l = l
  | [], _ => rfl
  | x :: l, h => by
    have ih := bTrim_tight l (fun n hn => by simpa using h (n + 1) (by simpa using hn))
    unfold bTrim
    rw [ih]
    rw [if_neg]
    rintro ⟨rfl, rfl⟩
    exact h 0 rfl rfl
theorem bTrim_snoc0 (l : List Nat) : bTrim (l ++ [0]) = bTrim l := bTrim_eq _ _ fun i => by
  rw [List.getD_eq_getElem?_getD, List.getD_eq_getElem?_getD]
  by_cases h : i < l.length
  · rw [List.getElem?_append_left h]
  · rw [List.getElem?_append_right (by omega), List.getElem?_eq_none (by omega : l.length ≤ i)]
    cases i - l.length <;> rfl
theorem bTrim_snoc (l : List Nat) (x : Nat) (h : x ≠ 0) : bTrim (l ++ [x]) = l ++ [x] := bTrim_tight _ fun n hn => by
  have : n = l.length := by simpa using hn.symm
  subst this
  simpa using h
theorem bSame_trim (a b : List Nat) : bSame a b = decide (bTrim a = bTrim b) := by
  rw [Bool.eq_iff_iff, decide_eq_true_iff]
  constructor
  · intro h
    refine bTrim_eq a b fun i => ?_
    unfold bSame at h
    rw [List.all_eq_true] at h
    by_cases hi : i < max a.length b.length
    · simpa using h i (List.mem_range.2 hi)
    · rw [getD_none _ _ _ (by omega), getD_none _ _ _ (by omega)]
  · intro h
    refine bSame_true a b fun i _ => ?_
    rw [← bTrim_getD a, h, bTrim_getD b]

/-- Words of 64 bits. -/
def Wd (l : List Nat) : Prop := ∀ x ∈ l, x < 18446744073709551616
theorem Wd.getD {l : List Nat} (h : Wd l) (i : Nat) : l.getD i 0 < 18446744073709551616 := by
  rw [List.getD_eq_getElem?_getD]
  cases e : l[i]? with
  | none => simp
  | some x => simpa using h x (List.mem_of_getElem? e)
theorem Wd.take {l : List Nat} (h : Wd l) (n : Nat) : Wd (l.take n) := fun x hx => h x (List.mem_of_mem_take hx)
theorem Wd.trim {l : List Nat} (h : Wd l) : Wd (bTrim l) := by rw [bTrim_take]; exact h.take _
theorem word_eq (x y : Nat) (hx : x < 18446744073709551616) (hy : y < 18446744073709551616) (h : ∀ k, k < 64 → x.testBit k = y.testBit k) : x = y := by
  apply Nat.eq_of_testBit_eq
  intro i
  by_cases hi : i < 64
  · exact h i hi
  · have hp : (18446744073709551616 : Nat) ≤ 2 ^ i := Nat.pow_le_pow_right (n := 2) (by omega) (show 64 ≤ i by omega)
    rw [Nat.testBit_lt_two_pow (Nat.lt_of_lt_of_le hx hp), Nat.testBit_lt_two_pow (Nat.lt_of_lt_of_le hy hp)]
theorem bHas_word (ws : List Nat) (k j : Nat) (hj : j < 64) : bHas ws ((64 * k + j : Nat) : Int) = (ws.getD k 0).testBit j := by
  rw [bHas_at _ _ (by omega)]
  rw [show ((64 * k + j : Nat) : Int).toNat / 64 = k by omega, show ((64 * k + j : Nat) : Int).toNat % 64 = j by omega]
theorem bHas_ext (a b : List Nat) (ha : Wd a) (hb : Wd b) (h : ∀ i : Nat, bHas a (i : Int) = bHas b (i : Int)) : ∀ k, a.getD k 0 = b.getD k 0 := fun k =>
  word_eq _ _ (ha.getD k) (hb.getD k) fun j hj => by rw [← bHas_word a k j hj, ← bHas_word b k j hj]; exact h _
theorem bHas_trim (l : List Nat) (i : Int) : bHas (bTrim l) i = bHas l i := by unfold bHas; rw [bTrim_getD]
theorem bSame_ext (a b : List Nat) (ha : Wd a) (hb : Wd b) (h : ∀ i : Nat, bHas a (i : Int) = bHas b (i : Int)) : bSame a b = true := by
  rw [bSame_trim, decide_eq_true_iff]; exact bTrim_eq a b (bHas_ext a b ha hb h)
theorem bHas_same (a b : List Nat) (h : bSame a b = true) (i : Int) : bHas a i = bHas b i := by
  rw [bSame_trim, decide_eq_true_iff] at h
  rw [← bHas_trim a, h, bHas_trim b]

/-- Words 0 at the end, up to n words. -/
def bPad (l : List Nat) (n : Nat) : List Nat := l ++ List.replicate (n - l.length) 0
theorem bPad_length (l : List Nat) (n : Nat) : (bPad l n).length = max l.length n := by unfold bPad; simp; omega
theorem bPad_getD (l : List Nat) (n i : Nat) : (bPad l n).getD i 0 = l.getD i 0 := by
  unfold bPad
  rw [List.getD_eq_getElem?_getD, List.getD_eq_getElem?_getD]
  by_cases h : i < l.length
  · rw [List.getElem?_append_left h]
  · rw [List.getElem?_append_right (by omega), List.getElem?_eq_none (by omega : l.length ≤ i), List.getElem?_replicate]
    split <;> rfl
theorem bPad_more (l : List Nat) (n : Nat) (h : l.length ≤ n) : bPad (l ++ [0]) (n + 1) = bPad l (n + 1) := by
  unfold bPad
  rw [List.append_assoc]
  congr 1
  rw [show n + 1 - l.length = (n - l.length) + 1 by omega, List.replicate_succ, List.length_append, List.length_singleton, show n + 1 - (l.length + 1) = n - l.length by omega]
  rfl
theorem bPad_wd {l : List Nat} (h : Wd l) (n : Nat) : Wd (bPad l n) := by
  intro x hx
  unfold bPad at hx
  rcases List.mem_append.1 hx with hx | hx
  · exact h x hx
  · rw [(List.mem_replicate.1 hx).2]; omega
/-- A word more is as it was; the word k is x. -/
theorem getD_set (l : List Nat) (k i x : Nat) (hk : k < l.length) : (l.set k x).getD i 0 = if i = k then x else l.getD i 0 := by
  rw [List.getD_eq_getElem?_getD, List.getElem?_set, List.getD_eq_getElem?_getD]
  by_cases h : k = i
  · subst h; simp [hk]
  · rw [if_neg h, if_neg (fun e => h e.symm)]
theorem wd_set {l : List Nat} (h : Wd l) (k x : Nat) (hx : x < 18446744073709551616) : Wd (l.set k x) := fun y hy => by
  rcases List.mem_or_eq_of_mem_set hy with hy | rfl
  · exact h y hy
  · exact hx

/-- With the bit i. -/
def bSet (l : List Nat) (i : Nat) : List Nat := (bPad l (i / 64 + 1)).set (i / 64) (l.getD (i / 64) 0 ||| 2 ^ (i % 64))
theorem bSet_length (l : List Nat) (i : Nat) : (bSet l i).length = max l.length (i / 64 + 1) := by unfold bSet; rw [List.length_set, bPad_length]
theorem or_word (x k : Nat) (hx : x < 18446744073709551616) (hk : k < 64) : x ||| 2 ^ k < 18446744073709551616 :=
  Nat.or_lt_two_pow (n := 64) hx (Nat.pow_lt_pow_right (by omega) hk)
theorem xor_word (x k : Nat) (hx : x < 18446744073709551616) (hk : k < 64) : x ^^^ 2 ^ k < 18446744073709551616 :=
  Nat.xor_lt_two_pow (n := 64) hx (Nat.pow_lt_pow_right (by omega) hk)
theorem bSet_wd {l : List Nat} (h : Wd l) (i : Nat) : Wd (bSet l i) := wd_set (bPad_wd h _) _ _ (or_word _ _ (h.getD _) (Nat.mod_lt _ (by omega)))
theorem bSet_getD (l : List Nat) (i k : Nat) : (bSet l i).getD k 0 = if k = i / 64 then l.getD (i / 64) 0 ||| 2 ^ (i % 64) else l.getD k 0 := by
  unfold bSet
  rw [getD_set _ _ _ _ (by rw [bPad_length]; omega), bPad_getD]
theorem bSet_has (l : List Nat) (i : Nat) (j : Int) : bHas (bSet l i) j = (bHas l j || decide (j = (i : Int))) := by
  by_cases h0 : 0 ≤ j
  · rw [bHas_at _ _ h0, bHas_at _ _ h0, bSet_getD]
    by_cases hk : j.toNat / 64 = i / 64
    · rw [if_pos hk, Nat.testBit_or, Nat.testBit_two_pow, hk]
      congr 1
      rw [Bool.eq_iff_iff, decide_eq_true_iff, decide_eq_true_iff]; omega
    · rw [if_neg hk, show decide (j = (i : Int)) = false from decide_eq_false (by omega), Bool.or_false]
  · rw [bHas_neg _ _ (by omega), bHas_neg _ _ (by omega), show decide (j = (i : Int)) = false from decide_eq_false (by omega)]; rfl
/-- Its end isn't 0, if that was so. -/
theorem bSet_tight (l : List Nat) (i : Nat) (h : ∀ n, l.length = n + 1 → l.getD n 0 ≠ 0) : ∀ n, (bSet l i).length = n + 1 → (bSet l i).getD n 0 ≠ 0 := by
  intro n hn
  rw [bSet_length] at hn
  rw [bSet_getD]
  split
  · intro e
    have := congrArg (fun x => x.testBit (i % 64)) e
    simp [Nat.testBit_or] at this
  · exact h n (by omega)

/-- May a bit be set? -/
def bMay (i : Int) : Bool := decide (0 ≤ i ∧ i < 4096)
/-- The bitmap of bits, one set behind the other. -/
def cOf (zs : List Int) : List Nat := zs.foldl (fun l x => if bMay x then bSet l x.toNat else l) []
theorem cOf_snoc (zs : List Int) (x : Int) : cOf (zs ++ [x]) = if bMay x then bSet (cOf zs) x.toNat else cOf zs := by
  unfold cOf; rw [List.foldl_append]; rfl
theorem cOf_rec {p : List Int → List Nat → Prop} (h0 : p [] []) (h1 : ∀ zs x l, p zs l → bMay x = true → p (zs ++ [x]) (bSet l x.toNat)) (h2 : ∀ zs x l, p zs l → bMay x = false → p (zs ++ [x]) l) : ∀ zs, p zs (cOf zs) := by
  have key : ∀ (n : Nat) (zs : List Int), zs.length = n → p zs (cOf zs) := by
    intro n
    induction n with
    | zero => intro zs h; rw [List.eq_nil_of_length_eq_zero h]; exact h0
    | succ n ih =>
      intro zs h
      rcases List.eq_nil_or_concat zs with rfl | ⟨l, x, rfl⟩
      · simp at h
      · have e := ih l (by simpa using h)
        rw [List.concat_eq_append, cOf_snoc]
        cases hm : bMay x with
        | true => exact h1 _ _ _ e hm
        | false => exact h2 _ _ _ e hm
  exact fun zs => key _ zs rfl
theorem cOf_wd (zs : List Int) : Wd (cOf zs) :=
  cOf_rec (p := fun _ l => Wd l) (fun x h => by simp at h) (fun _ x l h _ => bSet_wd h _) (fun _ _ _ h _ => h) zs
theorem cOf_tight (zs : List Int) : ∀ n, (cOf zs).length = n + 1 → (cOf zs).getD n 0 ≠ 0 :=
  cOf_rec (p := fun _ l => ∀ n, l.length = n + 1 → l.getD n 0 ≠ 0) (fun n h => by simp at h) (fun _ x l h _ => bSet_tight l _ h) (fun _ _ _ h _ => h) zs
theorem cOf_length (zs : List Int) : (cOf zs).length ≤ 64 :=
  cOf_rec (p := fun _ l => l.length ≤ 64) (by simp) (fun _ x l h m => by rw [bSet_length]; unfold bMay at m; simp at m; omega) (fun _ _ _ h _ => h) zs
theorem cOf_has (zs : List Int) (i : Int) : bHas (cOf zs) i = decide (0 ≤ i ∧ i < 4096 ∧ i ∈ zs) := by
  refine cOf_rec (p := fun zs l => bHas l i = decide (0 ≤ i ∧ i < 4096 ∧ i ∈ zs)) (by unfold bHas; simp) ?_ ?_ zs
  · intro zs x l h m
    unfold bMay at m
    simp only [decide_eq_true_iff] at m
    rw [bSet_has, h, Bool.eq_iff_iff, Bool.or_eq_true, decide_eq_true_iff, decide_eq_true_iff, decide_eq_true_iff, List.mem_append, List.mem_singleton]
    constructor
    · rintro (⟨a, b, c⟩ | e)
      · exact ⟨a, b, Or.inl c⟩
      · exact ⟨by omega, by omega, Or.inr (by omega)⟩
    · rintro ⟨a, b, c | c⟩
      · exact Or.inl ⟨a, b, c⟩
      · exact Or.inr (by omega)
  · intro zs x l h m
    unfold bMay at m
    simp only [decide_eq_false_iff_not] at m
    rw [h, Bool.eq_iff_iff, decide_eq_true_iff, decide_eq_true_iff, List.mem_append, List.mem_singleton]
    constructor
    · rintro ⟨a, b, c⟩; exact ⟨a, b, Or.inl c⟩
    · rintro ⟨a, b, c | c⟩
      · exact ⟨a, b, c⟩
      · exact absurd (show 0 ≤ x ∧ x < 4096 by omega) m
theorem bOf_wd (zs : List Int) : Wd (bOf zs) := by
  intro x hx
  unfold bOf at hx
  obtain ⟨k, _, rfl⟩ := List.mem_map.1 hx
  exact bAcc_lt zs k 64
theorem cOf_same (zs : List Int) : bSame (cOf zs) (bOf zs) = true :=
  bSame_ext _ _ (cOf_wd zs) (bOf_wd zs) fun i => by rw [cOf_has, bOf_has]

/-- A bitmap with another bit. -/
def bWith (l : List Nat) (i : Int) (on : Bool) : List Nat :=
  bTrim (if bMay i then (if on then bSet l i.toNat else if bHas l i then l.set (i.toNat / 64) (l.getD (i.toNat / 64) 0 ^^^ 2 ^ (i.toNat % 64)) else l) else l)
theorem bHas_lt (l : List Nat) (i : Int) (h : bHas l i = true) : 0 ≤ i ∧ i.toNat / 64 < l.length := by
  constructor
  · refine Int.not_lt.1 fun c => ?_
    rw [bHas_neg _ _ c] at h; cases h
  · refine Nat.not_le.1 fun c => ?_
    rw [bHas_past _ _ c] at h; cases h
theorem bWith_wd {l : List Nat} (h : Wd l) (i : Int) (on : Bool) : Wd (bWith l i on) := by
  unfold bWith
  refine Wd.trim ?_
  split
  · split
    · exact bSet_wd h _
    · split
      · exact wd_set h _ _ (xor_word _ _ (h.getD _) (Nat.mod_lt _ (by omega)))
      · exact h
  · exact h
theorem bWith_length (l : List Nat) (i : Int) (on : Bool) (m : Nat) (h : l.length ≤ m) (hm : 64 ≤ m) : (bWith l i on).length ≤ m := by
  unfold bWith
  refine Nat.le_trans (bTrim_length _) ?_
  split
  · next c =>
    unfold bMay at c
    simp only [decide_eq_true_iff] at c
    split
    · rw [bSet_length]; omega
    · split
      · rw [List.length_set]; exact h
      · exact h
  · exact h
theorem bWith_has (l : List Nat) (i : Int) (on : Bool) (k : Int) : bHas (bWith l i on) k = if bMay i = true ∧ k = i then on else bHas l k := by
  unfold bWith
  rw [bHas_trim]
  cases hm : bMay i with
  | false => simp
  | true =>
    unfold bMay at hm
    simp only [decide_eq_true_iff] at hm
    obtain ⟨h0, h1⟩ := hm
    have hi : ((i.toNat : Nat) : Int) = i := by omega
    simp only [if_true, true_and]
    cases on with
    | true =>
      simp only [if_true]
      rw [bSet_has, hi]
      by_cases e : k = i
      · simp [e]
      · simp [e]
    | false =>
      simp only [Bool.false_eq_true, if_false]
      cases hb : bHas l i with
      | false =>
        simp only [Bool.false_eq_true, if_false]
        by_cases e : k = i
        · rw [if_pos e, e, hb]
        · rw [if_neg e]
      | true =>
        simp only [if_true]
        have hl := (bHas_lt l i hb).2
        by_cases hk : 0 ≤ k
        · rw [bHas_at _ _ hk, getD_set _ _ _ _ hl]
          by_cases e : k = i
          · subst e
            rw [bHas_at _ _ hk] at hb
            rw [if_pos rfl, if_pos rfl, Nat.testBit_xor, Nat.testBit_two_pow, hb]; simp
          · rw [if_neg e, bHas_at _ _ hk]
            by_cases c : k.toNat / 64 = i.toNat / 64
            · rw [if_pos c, Nat.testBit_xor, Nat.testBit_two_pow, c, show decide (i.toNat % 64 = k.toNat % 64) = false from decide_eq_false (by omega)]; simp
            · rw [if_neg c]
        · rw [bHas_neg _ _ (by omega), bHas_neg _ _ (by omega), if_neg (by omega)]
theorem bWith_last (l : List Nat) (i : Int) (on : Bool) : ∀ n, (bWith l i on).length = n + 1 → (bWith l i on).getD n 0 ≠ 0 := by
  unfold bWith; exact bTrim_last _
/-- Two of them, whichever comes first. -/
theorem bWith_twice (l : List Nat) (h : Wd l) (i k : Int) (on off : Bool) (hik : i ≠ k) : bSame (bWith (bWith l i on) k off) (bWith (bWith l k off) i on) = true :=
  bSame_ext _ _ (bWith_wd (bWith_wd h _ _) _ _) (bWith_wd (bWith_wd h _ _) _ _) fun j => by
    rw [bWith_has, bWith_has, bWith_has, bWith_has]
    by_cases e1 : (j : Int) = i
    · by_cases e2 : (j : Int) = k
      · exact absurd (e1.symm.trans e2) hik
      · simp [e1, hik]
    · by_cases e2 : (j : Int) = k
      · have hki : ¬ k = i := fun e => hik e.symm
        simp [e2, hki]
      · simp [e1, e2]
theorem bSame_comm (a b : List Nat) : bSame a b = bSame b a := by
  rw [bSame_trim, bSame_trim, Bool.eq_iff_iff, decide_eq_true_iff, decide_eq_true_iff]; exact eq_comm

end Go.Proofs.YtdcnpaodcjfdbaaGreatDoor
