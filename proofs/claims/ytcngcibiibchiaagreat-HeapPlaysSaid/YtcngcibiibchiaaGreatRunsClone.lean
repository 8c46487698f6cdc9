/- slices.Clone of a row of runs; whether two rising runs that are next to one another share a page. -/
import Derived.Test.YtcngcibiibchiaaGreatRunsCode
namespace Go.Proofs.YtcngcibiibchiaaGreat
open Go.RowKit
set_option linter.unusedVariables false

theorem rclone_nil (w : World) (A : Option Addr) (n c : Nat) : (binOp .eql 54 (.slice A n c) (.slice none 0 0)).run Tryz.prog w = .ok (.bool A.isNone) w := Lib.run_eql_slice_nil w 54 41 A n c 0 0 (by kernel_rfl)
theorem rcells_one (rs : List (Int × Int)) : ∀ u ∈ rcells rs, u.oneCell' = true := fun u hu => by
  obtain ⟨r, _, h⟩ := List.mem_flatMap.1 hu
  simp only [List.mem_cons, List.not_mem_nil, or_false] at h
  rcases h with rfl | rfl <;> rfl
theorem rcells_get : ∀ (rs : List (Int × Int)) (k : Nat) (u : Value), (rcells rs)[k]? = some u → ∃ j r, rs[j]? = some r ∧ ((k = j * 2 ∧ u = iv r.1) ∨ (k = j * 2 + 1 ∧ u = iv r.2))
  | [], k, u, h => by simp [rcells] at h
  | x :: l, 0, u, h => ⟨0, x, rfl, Or.inl ⟨rfl, by simpa [rcells] using h.symm⟩⟩
  | x :: l, 1, u, h => ⟨0, x, rfl, Or.inr ⟨rfl, by simpa [rcells] using h.symm⟩⟩
  | x :: l, k + 2, u, h => by
    have e : rcells (x :: l) = [iv x.1, iv x.2] ++ rcells l := rfl
    rw [e, List.getElem?_append_right (by simp)] at h
    obtain ⟨j, r, h1, h2⟩ := rcells_get l k u (by simpa using h)
    refine ⟨j + 1, r, by simpa using h1, ?_⟩
    rcases h2 with ⟨e1, e2⟩ | ⟨e1, e2⟩
    · exact Or.inl ⟨by omega, e2⟩
    · exact Or.inr ⟨by omega, e2⟩
/-- The cells of runs that came in, or that a call made. -/
theorem Rn.cells_ {w : World} {B n : Nat} {A : Option Addr} {rs : List (Int × Int)} (h : Rn w B A n rs) : CellsAt w A (rcells rs) := fun ad e k u hk => by
  obtain ⟨j, r, hj, hr⟩ := rcells_get rs k u hk
  have hlt : j < rs.length := (List.getElem?_eq_some_iff.1 hj).1
  obtain ⟨b, off, e2, _, hc⟩ := h.2 (by have := h.1; omega)
  rw [e] at e2
  obtain rfl := Option.some.inj e2
  rw [Go.WideShapes.add_plain]
  rcases hr with ⟨rfl, rfl⟩ | ⟨rfl, rfl⟩
  · exact (hc j r hj).1
  · rw [← Nat.add_assoc]; exact (hc j r hj).2

theorem code_rclone (A : Option Addr) (n c : Nat) (rs : List (Int × Int)) (w : World) (hs : Rn w w.heap.size A n rs) (hn : n ≤ 65536) (hA : A = none → c = 0) :
    Calls Tryz.prog 63 #[.slice A n c] w (OwnRuns w rs) := by
  obtain ⟨i0, hi, hz0, hz1, hz2⟩ := info_parts info_run
  have l1 : rs.length = n := hs.1
  cases A with
  | none =>
    obtain rfl : n = 0 := by
      refine Nat.eq_zero_of_not_pos fun h => ?_
      obtain ⟨b, off, e, _⟩ := hs.2 h
      cases e
    obtain rfl : c = 0 := hA rfl
    obtain rfl : rs = [] := List.eq_nil_of_length_eq_zero l1
    clear hs l1
    have q := rclone_nil w none 0 0
    go_enter Tryz.func63, Tryz.ntmps63
    go_wp2
    go_ret
    exact ⟨none, 0, rfl, World.ownsRow_nil _ _ _ _, Below.refl _ _⟩
  | some p =>
    have HC := hidb ((hs.cells_).alloc (.cells #[] 41))
    have L1 := hidb l1
    clear hs l1
    have q := rclone_nil w (some p) n c
    have hone := hidb (rcells_one rs)
    have hown0 := hidb (own_empty w w.heap.size 41 2 (Nat.le_refl _))
    go_enter Tryz.func63, Tryz.ntmps63
    go_wp2_with (at_builtin; refine wpList_append_own (w.alloc (.cells #[] 41)) rfl _ _ 54 rfl w.heap.size 41 i0 (.agg #[.int .i64 0, .int .i64 0]) 2 16 Tryz.underlying54 hi hz0 hz1 hz2 rfl (by decide) _ 0 [] rfl (by exact hown0.out) p n c (rcells rs) rfl (by rw [rcells_length, L1.out]) (by exact HC.out p rfl) (by exact hone.out) (by unfold maxLen; omega) (by omega) (by simp) ?_; intro v1 w1 hown1 hg1 _)
    rw [Nat.zero_add, List.nil_append] at hown1
    have P : Hid (OwnRuns w rs (.returned v1) w1) := hidb (by
      obtain ⟨A', c', rfl⟩ := own_form2 hown1
      rw [← L1.out] at hown1 ⊢
      refine ⟨A', c', rfl, hown1, ?_⟩
      exact ((Below.refl _ _).alloc (Nat.le_refl _) _).grown hg1 (by simp) (fun k hk => (hown0.out.lt k hk).1))
    clear hown1 hg1
    go_wp2
    go_ret
    exact P.out

set_option maxHeartbeats 1000000 in
theorem code_share (A : Option Addr) (n c : Nat) (rs : List (Int × Int)) (w : World) (hs : Rn w w.heap.size A n rs) (hn : n ≤ 65536) (hr : ∀ r ∈ rs, -9223372036854775808 ≤ r.1 + r.2 ∧ r.1 + r.2 ≤ 9223372036854775807) :
    Calls Tryz.prog 51 #[.slice A n c] w fun e w' => e = .returned (.bool (shareB rs)) ∧ Below w.heap.size w w' := by
  have l1 : rs.length = n := hs.1
  have L1 := hidb l1
  have HS := hidb hs
  have HR := hidb hr
  clear hs hr l1
  go_enter Tryz.func51, Tryz.ntmps51
  go_wp2
  go_loopw [3] (fun k wr => ∃ j : Nat, 1 ≤ j ∧ j ≤ n + 1 ∧ k = .int .i64 (j : Int) ∧ Hid (∀ i a b, i + 1 < j → rs[i]? = some a → rs[i + 1]? = some b → a.1 + a.2 ≤ b.1) ∧ Hid (Below w.heap.size w wr)) (fun k _ => (n + 1 - intOf k).toNat)
  case atStart => exact ⟨1, by omega, by omega, rfl, hidb (fun i a b h => absurd h (by omega)), hidb (Below.refl _ _)⟩
  case round =>
    obtain ⟨j, hj1, hj, rfl, HA, HB⟩ := hrel
    by_cases hlt : j < n
    · obtain ⟨i, rfl⟩ : ∃ i, j = i + 1 := ⟨j - 1, by omega⟩
      obtain ⟨b, off, s, l, rfl, hbB, hx, hc1, hc2⟩ := (HS.out.below HB.out).at_ (k := i) (by omega)
      obtain ⟨b', off', s2, l2, e, _, hx2, hd1, hd2⟩ := (HS.out.below HB.out).at_ (k := i + 1) hlt
      obtain ⟨rfl, rfl⟩ : b = b' ∧ off = off' := by injection e with e; injection e with e1 e2; exact ⟨e1, e2⟩
      have hsum := HR.out (s, l) (List.mem_of_getElem? hx)
      simp only at hsum
      have HX := hidb hx
      have HX2 := hidb hx2
      have HQ : Hid (∀ W', Below w.heap.size w W' → W'.cell? ⟨b, off + i * 2, none⟩ = some (.int .i64 s) ∧ W'.cell? ⟨b, off + i * 2 + 1, none⟩ = some (.int .i64 l) ∧ W'.cell? ⟨b, off + (i + 1) * 2, none⟩ = some (.int .i64 s2)) := hidb (fun W' hb => by
        have k := fun (p : Addr) (hp : p.block < w.heap.size) => (hb.cell hp).trans (HB.out.cell hp).symm
        rw [k ⟨b, _, none⟩ hbB, k ⟨b, _, none⟩ hbB, k ⟨b, _, none⟩ hbB]
        exact ⟨hc1, hc2, hd1⟩)
      have ce : ∀ W', Below w.heap.size w W' → Calls Tryz.prog 72 #[.agg #[.int .i64 s, .int .i64 l]] W' fun e w' => e = .returned (.int .i64 (s + l)) ∧ Below w.heap.size w w' := fun W' hb => (code_end s l W' hsum.1 hsum.2).mono fun e w' ⟨h1, h2⟩ => ⟨h1, by rw [h2]; exact hb.alloc hb.size _⟩
      have hb0 : Below w.heap.size w wr.drew := HB.out.drew
      obtain ⟨y0, y1, y2⟩ := HQ.out _ hb0
      have HS1 := hidb hsum
      have hi0 : (0 : Int) ≤ (i : Int) + 1 := by omega
      have hi1 : (i : Int) + 1 < (n : Int) := by omega
      have hi2 : IntKind.i64.wrap ((i : Int) + 1 - 1) = (i : Int) := by rw [IntKind.wrap_i64]; omega
      have hi3 : ((i : Int) + 1).toNat = i + 1 := by omega
      have hi4 : (i : Int) + 1 - 1 = (i : Int) := by omega
      have hi7 : IntKind.i64.wrap (i : Int) = (i : Int) := IntWalk.i64_in _ (by omega)
      have hi5 : (i : Int) < (n : Int) := by omega
      have hi6 : (0 : Int) ≤ (i : Int) := by omega
      clear hx hx2 hc1 hc2 hd1 hd2 hsum e
      by_cases hsh : s2 < s + l
      · have E : Hid (shareB rs = true) := hidb (shareB_at rs i (s, l) (s2, l2) HX.out HX2.out hsh)
        go_wp2
        go_region_held3 (fun W' => W'.cell? ⟨b, off + i * 2, none⟩ = some (.int .i64 s) ∧ W'.cell? ⟨b, off + i * 2 + 1, none⟩ = some (.int .i64 l) ∧ W'.cell? ⟨b, off + (i + 1) * 2, none⟩ = some (.int .i64 s2) ∧ Below w.heap.size w W') (go_keep)
          (first | (go_at_call 72; ((with_reducible refine (ce _ (by assumption)).mono ?_); rintro e w3 ⟨rfl, hb3⟩; obtain ⟨y0, y1, y2⟩ := HQ.out _ hb3)))
        all_goals
          go_wp2
          go_ret
          have hbL : Below w.heap.size w w3 := by assumption
          exact ⟨by rw [E.out]; rfl, hbL⟩
      · have H2 : Hid (∀ k a c, k + 1 < i + 1 + 1 → rs[k]? = some a → rs[k + 1]? = some c → a.1 + a.2 ≤ c.1) := hidb (fun k a c hk ha hc => by
          by_cases h : k = i
          · subst h
            rw [HX.out] at ha
            rw [HX2.out] at hc
            obtain rfl := Option.some.inj ha
            obtain rfl := Option.some.inj hc
            exact Int.not_lt.1 hsh
          · exact HA.out k a c (by omega) ha hc)
        go_wp2
        go_region_held3 (fun W' => W'.cell? ⟨b, off + i * 2, none⟩ = some (.int .i64 s) ∧ W'.cell? ⟨b, off + i * 2 + 1, none⟩ = some (.int .i64 l) ∧ W'.cell? ⟨b, off + (i + 1) * 2, none⟩ = some (.int .i64 s2) ∧ Below w.heap.size w W') (go_keep)
          (first | (go_at_call 72; ((with_reducible refine (ce _ (by assumption)).mono ?_); rintro e w3 ⟨rfl, hb3⟩; obtain ⟨y0, y1, y2⟩ := HQ.out _ hb3)))
        all_goals
          have HBL : Hid (Below w.heap.size w w3) := hidb (by assumption)
          go_wp2
          go_roundw
          case rel => exact ⟨i + 1 + 1, by omega, by omega, by go_num, H2, HBL⟩
          case measure => simp [intOf]; omega
    · have E : Hid (shareB rs = false) := hidb (shareB_none rs (fun i a b ha hb => by
        have := (List.getElem?_eq_some_iff.1 hb).1
        have := L1.out
        have := HA.out i a b (by omega) ha hb
        omega))
      go_wp2
      go_ret
      exact ⟨by rw [E.out]; rfl, HB.out⟩

end Go.Proofs.YtcngcibiibchiaaGreat
