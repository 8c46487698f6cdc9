/- What the small functions of layer 6 (runs) return: whether runs may be, a run's end, the place of a run that has all pages of another. -/
import Derived.Test.YtcngcibiibchiaaGreatRows7
import Derived.Test.YtcngcibiibchiaaGreatPlain7
import Derived.WalkKit
import Derived.ProofKit
import Derived.WalkLawsBesides
import Derived.WalkSpells
import Derived.IntWalk
import Derived.Deep.QuietTactic
import Derived.BigQuiet
import Derived.Deep.RegionHeld3
import Derived.Laws.OwnMore
import Derived.Laws.Pointers
import Derived.Lib.SliceRun
import Derived.Shelf.Abstract
namespace Go.Proofs.YtcngcibiibchiaaGreat
open Go.RowKit Go.Shelf
set_option linter.unusedVariables false

/-- A run as a value. -/
def rv (r : Int × Int) : Value := .agg #[.int .i64 r.1, .int .i64 r.2]
/-- The place of the first run that is so; -1, if there is none. -/
def idxR (p : Int × Int → Bool) (rs : List (Int × Int)) : Int := match rs.findIdx? p with | some i => (i : Int) | none => -1
theorem idxR_none {p : Int × Int → Bool} {rs : List (Int × Int)} (h : ∀ r ∈ rs, p r = false) : idxR p rs = -1 := by
  unfold idxR
  rw [List.findIdx?_eq_none_iff.2 h]
theorem idxR_some {p : Int × Int → Bool} {rs : List (Int × Int)} {i : Nat} {r : Int × Int} (hi : rs[i]? = some r) (hp : p r = true) (h : ∀ j, j < i → ∀ y, rs[j]? = some y → p y = false) : idxR p rs = i := by
  obtain ⟨hlt, he⟩ := List.getElem?_eq_some_iff.1 hi
  unfold idxR
  rw [List.findIdx?_eq_some_iff_getElem.2 ⟨hlt, by rw [he]; exact hp, fun j hj => by rw [h j hj _ (List.getElem?_eq_getElem (by omega))]; decide⟩]
theorem idxR_cases (p : Int × Int → Bool) (rs : List (Int × Int)) : (idxR p rs = -1 ∧ ∀ r ∈ rs, p r = false) ∨ ∃ (i : Nat) (r : Int × Int), idxR p rs = i ∧ rs[i]? = some r ∧ p r = true := by
  cases h : rs.findIdx? p with
  | none => exact Or.inl ⟨by unfold idxR; rw [h], List.findIdx?_eq_none_iff.1 h⟩
  | some i =>
    obtain ⟨hlt, hp, _⟩ := List.findIdx?_eq_some_iff_getElem.1 h
    exact Or.inr ⟨i, rs[i], by unfold idxR; rw [h], List.getElem?_eq_getElem hlt, hp⟩
theorem idxR_any (p : Int × Int → Bool) (rs : List (Int × Int)) : decide (0 ≤ idxR p rs) = rs.any p := by
  rcases idxR_cases p rs with ⟨h1, h2⟩ | ⟨i, r, h1, h2, h3⟩
  · rw [h1]
    symm
    rw [show decide ((0 : Int) ≤ -1) = false from rfl, List.any_eq_false]
    exact fun r hr => by rw [h2 r hr]; decide
  · rw [h1, decide_eq_true (by omega)]
    symm
    exact List.any_eq_true.2 ⟨r, List.mem_of_getElem? h2, h3⟩
theorem idxR_range (p : Int × Int → Bool) (rs : List (Int × Int)) : -1 ≤ idxR p rs ∧ idxR p rs < (rs.length : Int) + 1 := by
  rcases idxR_cases p rs with ⟨h1, _⟩ | ⟨i, r, h1, h2, _⟩
  · omega
  · have := (List.getElem?_eq_some_iff.1 h2).1; omega

/-- A function that tells something of each of these runs, and lets what was there be. -/
def AsksR (g : Nat) (lb : Array Value) (p : Int × Int → Bool) (w : World) (rs : List (Int × Int)) : Prop :=
  ∀ (W : World) (x : Int × Int), x ∈ rs → Below w.heap.size w W → Calls Tryz.prog g (#[rv x] ++ lb) W fun e w' => e = .returned (.bool (p x)) ∧ Below w.heap.size w w'

set_option maxRecDepth 100000 in
theorem code_ifunc (A : Option Addr) (n c : Nat) (rs : List (Int × Int)) (w : World) (hs : Rn w w.heap.size A n rs) (hn : n ≤ 9223372036854775806) (g : Nat) (lb : Array Value) (p : Int × Int → Bool)
    (eg : ∀ args w, (callFunc g args).run Tryz.prog w = .ok (.enter g args) w) (hp : AsksR g lb p w rs) :
    Calls Tryz.prog 78 #[.slice A n c, .func (.func g) #[] lb] w fun e w' => e = .returned (.int .i64 (idxR p rs)) ∧ Below w.heap.size w w' := by
  have l1 : rs.length = n := hs.1
  have L1 := hidb l1
  have HS := hidb hs
  have HP := hidb hp
  unfold AsksR rv at HP
  clear hs hp l1
  go_enter Tryz.func78, Tryz.ntmps78
  go_wp2
  go_loopw [5, 8] (fun _ k wr => ∃ j : Nat, j ≤ n ∧ k = .int .i64 j ∧ Hid (∀ i, i < j → ∀ y, rs[i]? = some y → p y = false) ∧ Hid (Below w.heap.size w wr)) (fun _ k _ => (n - intOf k).toNat)
  case atStart => exact ⟨0, by omega, rfl, hidb (fun i h => absurd h (Nat.not_lt_zero _)), hidb (Below.refl _ _)⟩
  case round =>
    obtain ⟨j, hj, rfl, HA, HB⟩ := hrel
    by_cases hlt : j < n
    · obtain ⟨b, off, s, l, rfl, _, hx, hc1, hc2⟩ := (HS.out.below HB.out).at_ hlt
      have cp := HP.out wr (s, l) (List.mem_of_getElem? hx) HB.out
      simp only at cp
      have hi0 : (0 : Int) ≤ (j : Int) := by omega
      have hi1 : (j : Int) < (n : Int) := by omega
      have HX := hidb hx
      clear hx
      cases hq : p (s, l) with
      | true =>
        have E : Hid (idxR p rs = j) := hidb (idxR_some HX.out hq HA.out)
        rw [hq] at cp
        clear hq
        go_wp2_with (first | (go_at_fn g; (with_reducible refine cp.mono ?_); rintro e w' ⟨rfl, hb'⟩))
        go_ret
        exact ⟨by rw [E.out]; rfl, hb'⟩
      | false =>
        have H2 : Hid (∀ i, i < j + 1 → ∀ y, rs[i]? = some y → p y = false) := hidb (fun i hi y hy => by
          by_cases h : i = j
          · subst h
            rw [HX.out] at hy
            obtain rfl := Option.some.inj hy
            exact hq
          · exact HA.out i (by omega) y hy)
        rw [hq] at cp
        clear hq
        go_wp2_with (first | (go_at_fn g; (with_reducible refine cp.mono ?_); rintro e w' ⟨rfl, hb'⟩))
        have HB2 := hidb hb'
        clear hb'
        go_roundw
        case rel => exact ⟨j + 1, by omega, by go_num, H2, HB2⟩
        case measure => simp [intOf]; omega
    · have E : Hid (idxR p rs = -1) := hidb (idxR_none (fun r hr => by
        obtain ⟨i, hi, rfl⟩ := List.getElem_of_mem hr
        exact HA.out i (by rw [L1.out] at hi; omega) _ (List.getElem?_eq_getElem hi)))
      go_wp2
      go_ret
      exact ⟨by rw [E.out]; rfl, HB.out⟩
theorem code_hfunc (A : Option Addr) (n c : Nat) (rs : List (Int × Int)) (w : World) (hs : Rn w w.heap.size A n rs) (hn : n ≤ 9223372036854775806) (g : Nat) (lb : Array Value) (p : Int × Int → Bool)
    (eg : ∀ args w, (callFunc g args).run Tryz.prog w = .ok (.enter g args) w) (hp : AsksR g lb p w rs) :
    Calls Tryz.prog 65 #[.slice A n c, .func (.func g) #[] lb] w fun e w' => e = .returned (.bool (rs.any p)) ∧ Below w.heap.size w w' := by
  have ci := code_ifunc A n c rs w hs hn g lb p eg hp
  have hr := idxR_range p rs
  rw [← idxR_any]
  obtain ⟨k, hk⟩ : ∃ k, idxR p rs = k := ⟨_, rfl⟩
  rw [hk] at ci hr ⊢
  obtain ⟨h0, _⟩ := hr
  clear hs hp hk
  go_enter Tryz.func65, Tryz.ntmps65
  go_wp2_with (first | (go_at_call 78; (with_reducible refine ci.mono ?_); rintro e w' ⟨rfl, hb'⟩))
  go_ret
  exact ⟨rfl, hb'⟩

/-- May a run not be? -/
theorem code_maynot (s l : Int) (W : World) (hs : in64 s) (hl : in64 l) :
    Calls Tryz.prog 68 #[.agg #[.int .i64 s, .int .i64 l]] W fun e w' => e = .returned (.bool (!fMay (s, l))) ∧ Below W.heap.size W w' := by
  obtain ⟨s0, s1⟩ := hs
  obtain ⟨l0, l1⟩ := hl
  obtain ⟨b, hb⟩ : ∃ b, (!fMay (s, l)) = b := ⟨_, rfl⟩
  have hw : (b = true ∧ s < 0) ∨ (b = true ∧ 0 ≤ s ∧ l < 1) ∨ (b = true ∧ 0 ≤ s ∧ 1 ≤ l ∧ 1024 - s < l) ∨ (b = false ∧ 0 ≤ s ∧ 1 ≤ l ∧ l ≤ 1024 - s) := by
    rw [← hb]
    have hm := fMay_iff (s, l)
    simp only at hm
    cases hf : fMay (s, l) with
    | true =>
      have := hm.1 hf
      simp; omega
    | false =>
      have h : ¬ (0 ≤ s ∧ 1 ≤ l ∧ s + l ≤ 1024) := fun h => by rw [hm.2 h] at hf; cases hf
      simp; omega
  rw [hb]
  clear hb
  rcases hw with ⟨rfl, a1⟩ | ⟨rfl, a1, a2⟩ | ⟨rfl, a1, a2, a3⟩ | ⟨rfl, a1, a2, a3⟩
  all_goals
    go_enter Tryz.func68, Tryz.ntmps68
    go_wp2
    go_ret
    refine ⟨?_, (Below.refl _ _).alloc (Nat.le_refl _) _⟩
    first | rfl | exact congrArg Ending.returned (congrArg Value.bool (decide_eq_true (by omega))) | exact congrArg Ending.returned (congrArg Value.bool (decide_eq_false (by omega))) | (simp; omega)

theorem any_not_may (rs : List (Int × Int)) : (!rs.any fun r => !fMay r) = rs.all fMay := by
  rw [List.not_any_eq_all_not]
  simp
theorem code_may (A : Option Addr) (n c : Nat) (rs : List (Int × Int)) (w : World) (hs : Rn w w.heap.size A n rs) (hn : n ≤ 9223372036854775806) (hr : ∀ r ∈ rs, in64 r.1 ∧ in64 r.2) :
    Calls Tryz.prog 47 #[.slice A n c] w fun e w' => e = .returned (.bool (rs.all fMay)) ∧ Below w.heap.size w w' := by
  have eg : ∀ args w, (callFunc 68 args).run Tryz.prog w = .ok (.enter 68 args) w := enters_of Tryz.func68 (by kernel_rfl) rfl
  have ch := code_hfunc A n c rs w hs hn 68 #[] (fun r => !fMay r) eg (fun W x hx hb => (code_maynot x.1 x.2 W (hr x hx).1 (hr x hx).2).mono fun e w' ⟨h1, h2⟩ => ⟨h1, hb.trans (h2.mono hb.size)⟩)
  rw [← any_not_may]
  generalize rs.any (fun r => !fMay r) = k at ch ⊢
  clear hs hr
  go_enter Tryz.func47, Tryz.ntmps47
  go_wp2_with (first | (go_at_call 65; (with_reducible refine ch.mono ?_); rintro e w' ⟨rfl, hb'⟩))
  go_ret
  exact ⟨rfl, hb'⟩

/-- The page behind a run. -/
theorem code_end (s l : Int) (W : World) (h0 : -9223372036854775808 ≤ s + l) (h1 : s + l ≤ 9223372036854775807) :
    Calls Tryz.prog 72 #[.agg #[.int .i64 s, .int .i64 l]] W fun e w' => e = .returned (.int .i64 (s + l)) ∧ w' = W.alloc (.cells #[.int .i64 s, .int .i64 l] 41) := by
  go_enter Tryz.func72, Tryz.ntmps72
  go_wp2
  go_ret
  exact ⟨rfl, rfl⟩

/-- Has a run all pages of the one that was asked for? -/
theorem code_around1 (s l fs fl : Int) (B : Nat) (W : World) (hB : B < W.heap.size) (hc0 : W.cell? ⟨B, 0, none⟩ = some (.int .i64 s)) (hc1 : W.cell? ⟨B, 1, none⟩ = some (.int .i64 l))
    (h : -9223372036854775808 ≤ s + l ∧ s + l ≤ 9223372036854775807) (h' : -9223372036854775808 ≤ fs + fl ∧ fs + fl ≤ 9223372036854775807) :
    Calls Tryz.prog 89 #[.agg #[.int .i64 fs, .int .i64 fl], .pointer (some ⟨B, 0, none⟩)] W fun e w' => e = .returned (.bool (inRun (s, l) (fs, fl))) ∧ Below W.heap.size W w' := by
  obtain ⟨b, hb⟩ : ∃ b, inRun (s, l) (fs, fl) = b := ⟨_, rfl⟩
  have hw : (b = false ∧ s < fs) ∨ (fs ≤ s ∧ b = decide (s + l ≤ fs + fl)) := by
    rw [← hb]
    unfold inRun
    by_cases c : fs ≤ s
    · right; exact ⟨c, by simp [c]⟩
    · left; exact ⟨by simp [c], by omega⟩
  rw [hb]
  have hne : ¬ B = W.heap.size := by omega
  clear hb
  rcases hw with ⟨rfl, a1⟩ | ⟨a1, hb⟩
  · have hd : decide (fs ≤ s) = false := decide_eq_false (by omega)
    go_enter Tryz.func89, Tryz.ntmps89
    go_wp2
    go_quiet (fail)
    go_wp2
    go_ret
    exact ⟨rfl, belowN ((Below.refl _ _).alloc (Nat.le_refl _) _) _⟩
  · obtain ⟨W1, hW1⟩ : ∃ W1, W1 = W.alloc (.cells #[.int .i64 fs, .int .i64 fl] 41) := ⟨_, rfl⟩
    have hz : W1.heap.size = W.heap.size + 1 := by rw [hW1]; simp
    have HQ : Hid (∀ W', Below W1.heap.size W1 W' → W'.cell? ⟨W.heap.size, 0, none⟩ = some (.int .i64 fs) ∧ W'.cell? ⟨W.heap.size, 1, none⟩ = some (.int .i64 fl) ∧ W'.cell? ⟨B, 0, none⟩ = some (.int .i64 s) ∧ W'.cell? ⟨B, 1, none⟩ = some (.int .i64 l)) := hidb (fun W' hb => by
      have k := fun (p : Addr) (hp : p.block < W1.heap.size) => hb.cell hp
      rw [k ⟨W.heap.size, 0, none⟩ (by show W.heap.size < _; omega), k ⟨W.heap.size, 1, none⟩ (by show W.heap.size < _; omega), k ⟨B, 0, none⟩ (by show B < _; omega), k ⟨B, 1, none⟩ (by show B < _; omega), hW1, World.cell?_alloc_lt W _ ⟨B, 0, none⟩ hB, World.cell?_alloc_lt W _ ⟨B, 1, none⟩ hB]
      exact ⟨by simp, by simp, hc0, hc1⟩)
    have HB1 : Hid (Below W.heap.size W W1) := hidb (by rw [hW1]; exact (Below.refl _ _).alloc (Nat.le_refl _) _)
    have HW1 := hidb hW1
    have hle : W.heap.size ≤ W1.heap.size := by omega
    have ce : ∀ W', Below W1.heap.size W1 W' → Calls Tryz.prog 72 #[.agg #[.int .i64 s, .int .i64 l]] W' fun e w' => e = .returned (.int .i64 (s + l)) ∧ Below W1.heap.size W1 w' := fun W' hb => (code_end s l W' h.1 h.2).mono fun e w' ⟨h1, h2⟩ => ⟨h1, by rw [h2]; exact hb.alloc hb.size _⟩
    have cf : ∀ W', Below W1.heap.size W1 W' → Calls Tryz.prog 72 #[.agg #[.int .i64 fs, .int .i64 fl]] W' fun e w' => e = .returned (.int .i64 (fs + fl)) ∧ Below W1.heap.size W1 w' := fun W' hb => (code_end fs fl W' h'.1 h'.2).mono fun e w' ⟨h1, h2⟩ => ⟨h1, by rw [h2]; exact hb.alloc hb.size _⟩
    have hb0 : Below W1.heap.size W1 W1.drew := (Below.refl _ _).drew
    obtain ⟨y0, y1, y2, y3⟩ := HQ.out _ hb0
    have a2 : decide (fs ≤ s) = true := decide_eq_true a1
    have HBB := hidb hb
    clear hb hW1 hz h h' hc0 hc1
    go_enter Tryz.func89, Tryz.ntmps89
    go_wp2
    rw [← HW1.out]
    go_region_held3 (fun W' => W'.cell? ⟨W.heap.size, 0, none⟩ = some (.int .i64 fs) ∧ W'.cell? ⟨W.heap.size, 1, none⟩ = some (.int .i64 fl) ∧ W'.cell? ⟨B, 0, none⟩ = some (.int .i64 s) ∧ W'.cell? ⟨B, 1, none⟩ = some (.int .i64 l) ∧ Below W1.heap.size W1 W') (go_keep)
      (first | (go_at_call 72; first
        | ((with_reducible refine (ce _ (by assumption)).mono ?_); rintro e w3 ⟨rfl, hb3⟩; obtain ⟨y0, y1, y2, y3⟩ := HQ.out _ hb3)
        | ((with_reducible refine (cf _ (by assumption)).mono ?_); rintro e w3 ⟨rfl, hb3⟩; obtain ⟨y0, y1, y2, y3⟩ := HQ.out _ hb3)))
    go_wp2
    go_ret
    have hbL : Below W1.heap.size W1 w3 := by assumption
    exact ⟨by rw [HBB.out]; rfl, HB1.out.trans (hbL.mono hle)⟩

/-- The runs themselves. -/
theorem code_all (p : Nat) (A : Option Addr) (n c : Nat) (w : World) (hc : w.cell? ⟨p, 0, none⟩ = some (.slice A n c)) :
    Calls Tryz.prog 64 #[.pointer (some ⟨p, 0, none⟩)] w fun e w' => e = .returned (.slice A n c) ∧ w = w' := by
  go_enter Tryz.func64, Tryz.ntmps64
  go_wp2
  go_ret
  exact ⟨rfl, rfl⟩
theorem code_all_nil (w : World) : Calls Tryz.prog 64 #[.pointer none] w fun e w' => e = .returned (.slice none 0 0) ∧ w = w' := by
  go_enter Tryz.func64, Tryz.ntmps64
  go_wp2
  go_ret
  exact ⟨rfl, rfl⟩
/-- The place of the run that has all pages of one; v is free runs, or nil, that have these. -/
theorem code_around_of (v : Value) (A : Option Addr) (n c : Nat) (rs : List (Int × Int)) (s l : Int) (w : World)
    (hall : Calls Tryz.prog 64 #[v] (w.alloc (.cells #[.int .i64 s, .int .i64 l] 41)) fun e w' => e = .returned (.slice A n c) ∧ w.alloc (.cells #[.int .i64 s, .int .i64 l] 41) = w')
    (hs : Rn w w.heap.size A n rs) (hn : n ≤ 65536) (h : -9223372036854775808 ≤ s + l ∧ s + l ≤ 9223372036854775807) (hr : ∀ r ∈ rs, -9223372036854775808 ≤ r.1 + r.2 ∧ r.1 + r.2 ≤ 9223372036854775807) :
    Calls Tryz.prog 73 #[v, .agg #[.int .i64 s, .int .i64 l]] w fun e w' => e = .returned (.int .i64 (idxR (inRun (s, l)) rs)) ∧ Below w.heap.size w w' := by
  have eg : ∀ args w, (callFunc 89 args).run Tryz.prog w = .ok (.enter 89 args) w := enters_of Tryz.func89 (by kernel_rfl) rfl
  have ci := code_ifunc A n c rs (w.alloc (.cells #[.int .i64 s, .int .i64 l] 41)) ((hs.alloc (Nat.le_refl _) _).more (by simp)) (by omega) 89 #[.pointer (some ⟨w.heap.size, 0, none⟩)] (inRun (s, l)) eg (fun W x hx hb => by
    have k := fun (p : Addr) (hp : p.block < (w.alloc (.cells #[.int .i64 s, .int .i64 l] 41)).heap.size) => hb.cell hp
    have hz : (w.alloc (.cells #[.int .i64 s, .int .i64 l] 41)).heap.size = w.heap.size + 1 := by simp
    refine (code_around1 s l x.1 x.2 w.heap.size W (by have := hb.size; omega) ?_ ?_ h (hr x hx)).mono fun e w' ⟨h1, h2⟩ => ⟨h1, hb.trans (h2.mono hb.size)⟩
    · rw [k ⟨w.heap.size, 0, none⟩ (by show w.heap.size < _; omega)]; simp
    · rw [k ⟨w.heap.size, 1, none⟩ (by show w.heap.size < _; omega)]; simp)
  obtain ⟨k, hk⟩ : ∃ k, idxR (inRun (s, l)) rs = k := ⟨_, rfl⟩
  rw [hk] at ci ⊢
  clear hs hk hr h
  go_enter Tryz.func73, Tryz.ntmps73
  go_wp2_with (first
    | (go_at_call 64; (with_reducible refine hall.mono ?_); rintro e w' ⟨rfl, rfl⟩)
    | (go_at_call 78; (with_reducible refine ci.mono ?_); rintro e w' ⟨rfl, hb'⟩))
  go_ret
  exact ⟨rfl, ((Below.refl _ _).alloc (Nat.le_refl _) _).trans (hb'.mono (by simp))⟩

end Go.Proofs.YtcngcibiibchiaaGreat
