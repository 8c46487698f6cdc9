/- The walk of layer 4's statement on words that are moved. -/
import Derived.Test.YtpfhmccafcpflaaArenaLaws2
namespace Go.Proofs.Ytpfhmccafcpflaa
open Go.RowKit
set_option linter.unusedVariables false

theorem own_grown {w w' : World} {base g : Nat} {e : TypeId} {v : Value} {n : Nat} {xs : List Value} (h : w.ownsRow base e 1 v n xs) (hg : w.grownBy w' (some g)) (hlt : g < base) : w'.ownsRow base e 1 v n xs := by
  refine h.kept hg ?_
  cases hv : v.ownBlock with
  | none => exact Or.inl rfl
  | some k => exact Or.inr (fun c => by have := (h.lt k hv).1; injection c with c; omega)

theorem code_anew4 (w : World) : Calls Try.prog 9 #[.int .i64 4] w fun e w' => ∃ p g xs, e = .returned (.tuple #[.pointer (some ⟨p, 0, none⟩), .int .i64 0]) ∧ xs.length = 256 ∧ Ar w' w.heap.size p g 256 xs ∧ Below w.heap.size w w' := by
  refine (code_anew 4 w (by omega) (by omega)).mono ?_
  rintro e w1 ⟨p, g, rfl, har, hb⟩
  exact ⟨p, g, _, rfl, List.length_replicate, har, hb⟩

/-- The words of an arena behind each step. -/
structure MovesF (xs l : List Nat) (n b t : Nat) : Prop where
  r1 : aRow (aStore xs b l) b n = l
  r2 : aRow (aStore (aStore xs b l) t l) t n = l
  r3 : aRow (aStore (aStore xs b l) t l) b n = l
  r4 : aRow (aStore (aStore (aStore xs b l) t l) b (List.replicate n 0)) t n = l
  r5 : aRow (aStore (aStore (aStore (aStore xs b l) t l) b (List.replicate n 0)) b l) b n = l
theorem movesF (xs l : List Nat) (n b t : Nat) (h0 : xs.length = 256) (hl : l.length = n) (hb : b + n ≤ 256) (ht : t + n ≤ 256) (hd : t + n ≤ b ∨ b + n ≤ t) : MovesF xs l n b t := by
  have h1 : (aStore xs b l).length = 256 := by rw [aStore_length _ _ _ (by omega)]; exact h0
  have h2 : (aStore (aStore xs b l) t l).length = 256 := by rw [aStore_length _ _ _ (by omega)]; exact h1
  have h3 : (aStore (aStore (aStore xs b l) t l) b (List.replicate n 0)).length = 256 := by rw [aStore_length _ _ _ (by simp; omega)]; exact h2
  have r1 := aRow_same xs b l n hl (by omega)
  have r2 := aRow_same (aStore xs b l) t l n hl (by omega)
  refine ⟨r1, r2, ?_, ?_, aRow_same _ b l n hl (by omega)⟩
  · rw [aRow_other _ _ _ _ _ (by omega) (by omega)]; exact r1
  · rw [aRow_other _ _ _ _ _ (by simp; omega) (by simp; omega)]; exact r2

theorem arenaMoves_out (A : Option Addr) (n c : Nat) (from' to : Int) (w : World) (hn : n ≤ 9223372036854775807) (h0 : in64 from') (h1 : in64 to)
    (h : 100 < n ∨ from' < 0 ∨ to < 0 ∨ 256 - (n : Int) < from' ∨ 256 - (n : Int) < to) :
    Calls Try.prog 7 #[.slice A n c, .int .i64 from', .int .i64 to] w fun e w' => e = .returned (.bool true) ∧ Below w.heap.size w w' := by
  have ca := fun W => awake_any W
  obtain ⟨h00, h01⟩ := h0
  obtain ⟨h10, h11⟩ := h1
  by_cases g1 : 100 < n
  · clear h
    go_enter Try.func7, Try.ntmps7
    go_wp2_with (go_at_call 8; refine (ca _).mono ?_; rintro e w1 ⟨rfl, hb1⟩)
    go_ret
    exact ⟨rfl, hb1⟩
  have hw1 : wrap64 (256 - (n : Int)) = 256 - (n : Int) := by unfold wrap64; omega
  by_cases g2 : from' < 0
  · clear h
    go_enter Try.func7, Try.ntmps7
    go_wp2_with (go_at_call 8; refine (ca _).mono ?_; rintro e w1 ⟨rfl, hb1⟩)
    go_ret
    exact ⟨rfl, hb1⟩
  by_cases g3 : to < 0
  · clear h
    go_enter Try.func7, Try.ntmps7
    go_wp2_with (go_at_call 8; refine (ca _).mono ?_; rintro e w1 ⟨rfl, hb1⟩)
    go_ret
    exact ⟨rfl, hb1⟩
  by_cases g4 : 256 - (n : Int) < from'
  · clear h
    go_enter Try.func7, Try.ntmps7
    go_wp2_with (go_at_call 8; refine (ca _).mono ?_; rintro e w1 ⟨rfl, hb1⟩)
    go_ret
    exact ⟨rfl, hb1⟩
  have g5 : 256 - (n : Int) < to := by omega
  clear h
  go_enter Try.func7, Try.ntmps7
  go_wp2_with (go_at_call 8; refine (ca _).mono ?_; rintro e w1 ⟨rfl, hb1⟩)
  go_ret
  exact ⟨rfl, hb1⟩

theorem arenaMoves_meet (A : Option Addr) (n c b t : Nat) (w : World) (hn : n ≤ 100) (hbn : b + n ≤ 256) (htn : t + n ≤ 256) (hd : b < t + n ∧ t < b + n) :
    Calls Try.prog 7 #[.slice A n c, .int .i64 (b : Int), .int .i64 (t : Int)] w fun e w' => e = .returned (.bool true) ∧ Below w.heap.size w w' := by
  have ca := fun W => awake_any W
  have hw1 : wrap64 (256 - (n : Int)) = 256 - (n : Int) := by unfold wrap64; omega
  have hw2 : wrap64 ((t : Int) + (n : Int)) = (t : Int) + (n : Int) := by unfold wrap64; omega
  have hw3 : wrap64 ((b : Int) + (n : Int)) = (b : Int) + (n : Int) := by unfold wrap64; omega
  have g1 : ¬ 100 < n := by omega
  have g2 : ¬ (b : Int) < 0 := by omega
  have g3 : ¬ (t : Int) < 0 := by omega
  have g4 : ¬ 256 - (n : Int) < (b : Int) := by omega
  have g5 : ¬ 256 - (n : Int) < (t : Int) := by omega
  have d1 : (b : Int) < (t : Int) + (n : Int) := by omega
  have d2 : (t : Int) < (b : Int) + (n : Int) := by omega
  clear hd
  go_enter Try.func7, Try.ntmps7
  go_wp2_with (go_at_call 8; refine (ca _).mono ?_; rintro e w1 ⟨rfl, hb1⟩)
  go_ret
  exact ⟨rfl, hb1⟩

set_option maxHeartbeats 4000000 in
theorem arenaMoves_in (A : Option Addr) (n c b t : Nat) (l : List Nat) (w : World) (hs : Sl w w.heap.size A n (l.map wv)) (hn : n ≤ 100) (hbn : b + n ≤ 256) (htn : t + n ≤ 256) (hd : t + n ≤ b ∨ b + n ≤ t) :
    Calls Try.prog 7 #[.slice A n c, .int .i64 (b : Int), .int .i64 (t : Int)] w fun e w' => e = .returned (.bool true) ∧ Below w.heap.size w w' := by
  have ca := fun W => awake_any W
  have hw1 : wrap64 (256 - (n : Int)) = 256 - (n : Int) := by unfold wrap64; omega
  have hw2 : wrap64 ((t : Int) + (n : Int)) = (t : Int) + (n : Int) := by unfold wrap64; omega
  have hw3 : wrap64 ((b : Int) + (n : Int)) = (b : Int) + (n : Int) := by unfold wrap64; omega
  have g1 : ¬ 100 < n := by omega
  have g2 : ¬ (b : Int) < 0 := by omega
  have g3 : ¬ (t : Int) < 0 := by omega
  have g4 : ¬ 256 - (n : Int) < (b : Int) := by omega
  have g5 : ¬ 256 - (n : Int) < (t : Int) := by omega
  have c1 := code_anew4 w
  have HS := hidb hs
  have hl : l.length = n := by have := hs.1; simpa using this
  have HD := hidb hd
  have HL := hidb hl
  clear hs hl
  by_cases d1 : b < t + n
  · have d2 : ¬ (t : Int) < (b : Int) + (n : Int) := by omega
    have d3 : (b : Int) < (t : Int) + (n : Int) := by omega
    clear hd
    go_enter Try.func7, Try.ntmps7
    go_wp2_with (go_at_call 9; (with_reducible refine c1.mono ?_); rintro e w1 ⟨p, g, xs, rfl, hxs, har1, hb1⟩)
    have F := movesF xs l n b t hxs HL.out hbn htn HD.out
    clear hxs
    have hsz1 := hb1.size
    have c2 := code_astore b A n c har1 ((HS.out.below hb1).more hsz1) (by omega)
    have HB1 := hidb hb1
    have HP := hidb har1.geg
    clear c1 har1 hb1
    go_wp2_with (go_at_call 13; (with_reducible refine c2.mono ?_); rintro e w2 ⟨rfl, har2, hg2⟩)
    have hsz2 := hg2.size
    have HB2 : Hid (Below w.heap.size w w2) := hidb (HB1.out.grown hg2 hsz1 (fun k hk => by cases hk; exact HP.out))
    have c3 := code_amove t b n har2 (by omega) (by omega)
    rw [F.r1] at c3
    clear c2 har2 hg2
    go_wp2_with (go_at_call 15; (with_reducible refine c3.mono ?_); rintro e w3 ⟨rfl, har3, hg3⟩)
    have hsz3 := hg3.size
    have HB3 : Hid (Below w.heap.size w w3) := hidb (HB2.out.grown hg3 (by omega) (fun k hk => by cases hk; exact HP.out))
    have HA3 := hidb har3
    have c4 := code_arow_ok t n har3 (by omega)
    rw [F.r2] at c4
    unfold OwnWNo at c4
    rw [HL.out] at c4
    clear c3 har3 hg3
    go_wp2_with (go_at_call 19; (with_reducible refine c4.mono ?_); rintro e w4 ⟨X, cx, rfl, hox, hb4⟩)
    have hsz4 := hb4.size
    have HB4 := hidb (HB3.out.trans (hb4.mono (by omega)))
    have HA4 := hidb (HA3.out.below hb4 (Nat.le_refl _))
    have c5 := code_arow_ok b n HA4.out (by omega)
    rw [F.r3] at c5
    unfold OwnWNo at c5
    rw [HL.out] at c5
    have HX4 := hidb hox
    clear c4 hb4 hox
    go_wp2_with (go_at_call 19; (with_reducible refine c5.mono ?_); rintro e w5 ⟨Y, cy, rfl, hoy, hb5⟩)
    have hsz5 := hb5.size
    have HB5 := hidb (HB4.out.trans (hb5.mono (by omega)))
    have HA5 := hidb (HA4.out.below hb5 (Nat.le_refl _))
    have HX5 := hidb (HX4.out.kept (below_to_grown hb5 none) (by cases (Value.slice X n cx).ownBlock <;> simp))
    have HY5 := hidb hoy
    have c6 := code_azero b n HA5.out (by omega)
    have HG3 := hidb (Nat.lt_of_lt_of_le HA3.out.lt (Nat.le_refl _))
    have HG4 := hidb (Nat.lt_of_lt_of_le HA4.out.lt (Nat.le_refl _))
    clear c5 hb5 hoy
    go_wp2_with (go_at_call 17; (with_reducible refine c6.mono ?_); rintro e w6 ⟨rfl, har6, hg6⟩)
    have hsz6 := hg6.size
    have HB6 : Hid (Below w.heap.size w w6) := hidb (HB5.out.grown hg6 (by omega) (fun k hk => by cases hk; exact HP.out))
    have HX6 := hidb (own_grown HX5.out hg6 HG3.out)
    have HY6 := hidb (own_grown HY5.out hg6 HG4.out)
    have c7 := code_amove b t n har6 (by omega) (by omega)
    rw [F.r4] at c7
    clear c6 har6 hg6
    go_wp2_with (go_at_call 15; (with_reducible refine c7.mono ?_); rintro e w7 ⟨rfl, har7, hg7⟩)
    have hsz7 := hg7.size
    have HB7 : Hid (Below w.heap.size w w7) := hidb (HB6.out.grown hg7 (by omega) (fun k hk => by cases hk; exact HP.out))
    have HX7 := hidb (own_grown HX6.out hg7 HG3.out)
    have HY7 := hidb (own_grown HY6.out hg7 HG4.out)
    have c8 := code_arow_ok b n har7 (by omega)
    rw [F.r5] at c8
    unfold OwnWNo at c8
    rw [HL.out] at c8
    clear c7 har7 hg7
    go_wp2_with (go_at_call 19; (with_reducible refine c8.mono ?_); rintro e w8 ⟨Z, cz, rfl, hoz, hb8⟩)
    have hsz8 := hb8.size
    have HB8 := hidb (HB7.out.trans (hb8.mono (by omega)))
    have hX := (Sl.of_own HX7.out).below hb8
    have hY := (Sl.of_own HY7.out).below hb8
    have hZ := Sl.of_own hoz
    have hA := (HS.out.below HB8.out)
    have s1 := ref_asame X A n cx n c l l w8 _ _ hX hA (by omega) (by omega)
    have s2 := fun q => ref_asame Y A n cy n c l l (w8.drewN q) _ _ (hY.drewN q) (hA.drewN q) (by omega) (by omega)
    have s3 := fun q => ref_asame Z A n cz n c l l (w8.drewN q) _ _ (hZ.drewN q) (hA.drewN q) (by omega) (by omega)
    rw [show decide (l = l) = true by simp] at s1 s2 s3
    clear c8 hoz hb8 hX hY hZ hA
    go_wp2_with (first
      | (go_at_call 20; (with_reducible refine s1.mono ?_); rintro e w' ⟨rfl, q1, rfl⟩)
      | (go_at_call 20; (with_reducible refine (s2 _).mono ?_); rintro e w' ⟨rfl, q2, rfl⟩)
      | (go_at_call 20; (with_reducible refine (s3 _).mono ?_); rintro e w' ⟨rfl, q3, rfl⟩)
      | (go_at_call 8; refine (ca _).mono ?_; rintro e w9 ⟨rfl, hb9⟩))
    go_ret
    exact ⟨rfl, (belowN HB8.out _).trans (hb9.mono (by show _ ≤ w8.heap.size; omega))⟩
  · have d2 : ¬ (b : Int) < (t : Int) + (n : Int) := by omega
    clear hd
    go_enter Try.func7, Try.ntmps7
    go_wp2_with (go_at_call 9; (with_reducible refine c1.mono ?_); rintro e w1 ⟨p, g, xs, rfl, hxs, har1, hb1⟩)
    have F := movesF xs l n b t hxs HL.out hbn htn HD.out
    clear hxs
    have hsz1 := hb1.size
    have c2 := code_astore b A n c har1 ((HS.out.below hb1).more hsz1) (by omega)
    have HB1 := hidb hb1
    have HP := hidb har1.geg
    clear c1 har1 hb1
    go_wp2_with (go_at_call 13; (with_reducible refine c2.mono ?_); rintro e w2 ⟨rfl, har2, hg2⟩)
    have hsz2 := hg2.size
    have HB2 : Hid (Below w.heap.size w w2) := hidb (HB1.out.grown hg2 hsz1 (fun k hk => by cases hk; exact HP.out))
    have c3 := code_amove t b n har2 (by omega) (by omega)
    rw [F.r1] at c3
    clear c2 har2 hg2
    go_wp2_with (go_at_call 15; (with_reducible refine c3.mono ?_); rintro e w3 ⟨rfl, har3, hg3⟩)
    have hsz3 := hg3.size
    have HB3 : Hid (Below w.heap.size w w3) := hidb (HB2.out.grown hg3 (by omega) (fun k hk => by cases hk; exact HP.out))
    have HA3 := hidb har3
    have c4 := code_arow_ok t n har3 (by omega)
    rw [F.r2] at c4
    unfold OwnWNo at c4
    rw [HL.out] at c4
    clear c3 har3 hg3
    go_wp2_with (go_at_call 19; (with_reducible refine c4.mono ?_); rintro e w4 ⟨X, cx, rfl, hox, hb4⟩)
    have hsz4 := hb4.size
    have HB4 := hidb (HB3.out.trans (hb4.mono (by omega)))
    have HA4 := hidb (HA3.out.below hb4 (Nat.le_refl _))
    have c5 := code_arow_ok b n HA4.out (by omega)
    rw [F.r3] at c5
    unfold OwnWNo at c5
    rw [HL.out] at c5
    have HX4 := hidb hox
    clear c4 hb4 hox
    go_wp2_with (go_at_call 19; (with_reducible refine c5.mono ?_); rintro e w5 ⟨Y, cy, rfl, hoy, hb5⟩)
    have hsz5 := hb5.size
    have HB5 := hidb (HB4.out.trans (hb5.mono (by omega)))
    have HA5 := hidb (HA4.out.below hb5 (Nat.le_refl _))
    have HX5 := hidb (HX4.out.kept (below_to_grown hb5 none) (by cases (Value.slice X n cx).ownBlock <;> simp))
    have HY5 := hidb hoy
    have c6 := code_azero b n HA5.out (by omega)
    have HG3 := hidb (Nat.lt_of_lt_of_le HA3.out.lt (Nat.le_refl _))
    have HG4 := hidb (Nat.lt_of_lt_of_le HA4.out.lt (Nat.le_refl _))
    clear c5 hb5 hoy
    go_wp2_with (go_at_call 17; (with_reducible refine c6.mono ?_); rintro e w6 ⟨rfl, har6, hg6⟩)
    have hsz6 := hg6.size
    have HB6 : Hid (Below w.heap.size w w6) := hidb (HB5.out.grown hg6 (by omega) (fun k hk => by cases hk; exact HP.out))
    have HX6 := hidb (own_grown HX5.out hg6 HG3.out)
    have HY6 := hidb (own_grown HY5.out hg6 HG4.out)
    have c7 := code_amove b t n har6 (by omega) (by omega)
    rw [F.r4] at c7
    clear c6 har6 hg6
    go_wp2_with (go_at_call 15; (with_reducible refine c7.mono ?_); rintro e w7 ⟨rfl, har7, hg7⟩)
    have hsz7 := hg7.size
    have HB7 : Hid (Below w.heap.size w w7) := hidb (HB6.out.grown hg7 (by omega) (fun k hk => by cases hk; exact HP.out))
    have HX7 := hidb (own_grown HX6.out hg7 HG3.out)
    have HY7 := hidb (own_grown HY6.out hg7 HG4.out)
    have c8 := code_arow_ok b n har7 (by omega)
    rw [F.r5] at c8
    unfold OwnWNo at c8
    rw [HL.out] at c8
    clear c7 har7 hg7
    go_wp2_with (go_at_call 19; (with_reducible refine c8.mono ?_); rintro e w8 ⟨Z, cz, rfl, hoz, hb8⟩)
    have hsz8 := hb8.size
    have HB8 := hidb (HB7.out.trans (hb8.mono (by omega)))
    have hX := (Sl.of_own HX7.out).below hb8
    have hY := (Sl.of_own HY7.out).below hb8
    have hZ := Sl.of_own hoz
    have hA := (HS.out.below HB8.out)
    have s1 := ref_asame X A n cx n c l l w8 _ _ hX hA (by omega) (by omega)
    have s2 := fun q => ref_asame Y A n cy n c l l (w8.drewN q) _ _ (hY.drewN q) (hA.drewN q) (by omega) (by omega)
    have s3 := fun q => ref_asame Z A n cz n c l l (w8.drewN q) _ _ (hZ.drewN q) (hA.drewN q) (by omega) (by omega)
    rw [show decide (l = l) = true by simp] at s1 s2 s3
    clear c8 hoz hb8 hX hY hZ hA
    go_wp2_with (first
      | (go_at_call 20; (with_reducible refine s1.mono ?_); rintro e w' ⟨rfl, q1, rfl⟩)
      | (go_at_call 20; (with_reducible refine (s2 _).mono ?_); rintro e w' ⟨rfl, q2, rfl⟩)
      | (go_at_call 20; (with_reducible refine (s3 _).mono ?_); rintro e w' ⟨rfl, q3, rfl⟩)
      | (go_at_call 8; refine (ca _).mono ?_; rintro e w9 ⟨rfl, hb9⟩))
    go_ret
    exact ⟨rfl, (belowN HB8.out _).trans (hb9.mono (by show _ ≤ w8.heap.size; omega))⟩

theorem arenaMoves_any (A : Option Addr) (n c : Nat) (l : List Nat) (from' to : Int) (w : World) (hs : Sl w w.heap.size A n (l.map wv)) (hn : n ≤ 9223372036854775807) (h0 : in64 from') (h1 : in64 to) :
    Calls Try.prog 7 #[.slice A n c, .int .i64 from', .int .i64 to] w fun e w' => e = .returned (.bool true) ∧ Below w.heap.size w w' := by
  by_cases h : 100 < n ∨ from' < 0 ∨ to < 0 ∨ 256 - (n : Int) < from' ∨ 256 - (n : Int) < to
  · exact arenaMoves_out A n c from' to w hn h0 h1 h
  obtain ⟨b, rfl⟩ : ∃ b : Nat, from' = (b : Int) := ⟨from'.toNat, by omega⟩
  obtain ⟨t, rfl⟩ : ∃ t : Nat, to = (t : Int) := ⟨to.toNat, by omega⟩
  by_cases hd : b < t + n ∧ t < b + n
  · exact arenaMoves_meet A n c b t w (by omega) (by omega) (by omega) hd
  · exact arenaMoves_in A n c b t l w hs (by omega) (by omega) (by omega) (by omega)

end Go.Proofs.Ytpfhmccafcpflaa
