/- The walk of layer 9's statement on nil pools. -/
import Derived.Test.YthdjgmankcegpaaGreatPoolLaws0
import Derived.Test.YthdjgmankcegpaaGreatPoolNils2
namespace Go.Proofs.YthdjgmankcegpaaGreat
open Go.RowKit
set_option linter.unusedVariables false

/-- Numbers that came in. -/
theorem read_ids9 {H : Type} {enc : TypeId × Value → H} {W : World} {sp : Nat → Bool} {hd : Bool} {v : Value} {d : DataW H} {ps : List MemPlace} (h : DataW.Trod enc Tryz.prog W 0 sp hd 38 v d ps) :
    ∃ (A : Option Addr) (len cap : Nat) (l : List Int), v.cells.toList = [.slice A len cap] ∧ len ≤ maxLen ∧ Sl W W.heap.size A len (l.map iv) ∧ ∀ i ∈ l, in64 i := by
  obtain ⟨fuel, hf⟩ := h
  obtain ⟨A, len, cap, zs, e1, hlen, hsl, hwf⟩ := read_ints Tryz.underlying38 Tryz.underlying3 (by kernel_rfl) hf
  exact ⟨A, len, cap, zs, e1, hlen, hsl, fun x hx => wf_in64 (hwf x hx)⟩

theorem mono_below {f : Nat} {args : Array Value} {W w : World} {Q : Ending → World → Prop} (h : Calls Tryz.prog f args W Q) {Q' : Ending → World → Prop} (hq : ∀ e w', Q e w' → Q' e w') : Calls Tryz.prog f args W Q' := h.mono hq
/-- A heap, an arena, and no pool of both. -/
theorem parts_no (pages other : Int) (w : World) (hp : in64 pages) (ho : in64 other) (h1 : pages ≤ 1024) (h : ¬ (4 ≤ pages ∧ pages = other)) :
    Calls Tryz.prog 32 #[.int .i64 pages] w fun e w1 => ∃ a eo, e = .returned (.tuple #[.pointer a, .int .i64 eo]) ∧ Below w.heap.size w w1 ∧
      Calls Tryz.prog 33 #[.int .i64 other] w1 fun e w2 => ∃ b fo, e = .returned (.tuple #[.pointer b, .int .i64 fo]) ∧ Below w.heap.size w w2 ∧
        Calls Tryz.prog 34 #[.pointer a, .pointer b] w2 fun e w3 => e = .returned (.pointer none) ∧ Below w.heap.size w w3 := by
  by_cases g : pages < 4
  · refine (code_hnew_no pages w (Or.inl g)).mono ?_
    rintro e w1 ⟨rfl, rfl⟩
    refine ⟨none, 1, rfl, Below.refl _ _, ?_⟩
    by_cases g2 : other < 4 ∨ 1024 < other
    · refine (code_anew_no other w g2).mono ?_
      rintro e w2 ⟨rfl, rfl⟩
      refine ⟨none, 1, rfl, Below.refl _ _, (code_pnew_hnil none w).mono ?_⟩
      rintro e w3 ⟨rfl, rfl⟩
      exact ⟨rfl, Below.refl _ _⟩
    · obtain ⟨n, rfl⟩ : ∃ n : Nat, other = n := ⟨other.toNat, by omega⟩
      refine (code_anew n w (by omega) (by omega)).mono ?_
      rintro e w2 ⟨ap, gg, rfl, ha, hb2⟩
      refine ⟨_, 0, rfl, hb2, (code_pnew_hnil _ w2).mono ?_⟩
      rintro e w3 ⟨rfl, rfl⟩
      exact ⟨rfl, hb2⟩
  · obtain ⟨F, _, c1⟩ := t_hnew pages w (by omega) h1
    refine c1.mono ?_
    rintro e w1 ⟨q, S, rfl, s1⟩
    refine ⟨_, 0, rfl, s1.bel, ?_⟩
    by_cases g2 : other < 4 ∨ 1024 < other
    · refine (code_anew_no other w1 g2).mono ?_
      rintro e w2 ⟨rfl, rfl⟩
      refine ⟨none, 1, rfl, s1.bel, (code_pnew_anil _ w1).mono ?_⟩
      rintro e w3 ⟨rfl, rfl⟩
      exact ⟨rfl, s1.bel⟩
    · obtain ⟨n, rfl⟩ : ∃ n : Nat, other = n := ⟨other.toNat, by omega⟩
      refine (code_anew n w1 (by omega) (by omega)).mono ?_
      rintro e w2 ⟨ap, gg, rfl, ha, hb2⟩
      have hb := s1.bel.trans (hb2.mono s1.bel.size)
      refine ⟨_, 0, rfl, hb, (code_pnew_no (s1.hp.below hb2) (ha.more (Nat.zero_le _)) (by show ((64 * n : Nat) : Int) ≠ 64 * pages; omega)).mono ?_⟩
      rintro e w3 ⟨rfl, hb3⟩
      exact ⟨rfl, hb.trans (hb3.mono hb.size)⟩
/-- A heap, an arena, and a pool of both. -/
theorem parts_yes (pages : Int) (w : World) (h0 : 4 ≤ pages) (h1 : pages ≤ 1024) :
    Calls Tryz.prog 32 #[.int .i64 pages] w fun e w1 => ∃ a eo, e = .returned (.tuple #[.pointer a, .int .i64 eo]) ∧ Below w.heap.size w w1 ∧
      Calls Tryz.prog 33 #[.int .i64 pages] w1 fun e w2 => ∃ b fo, e = .returned (.tuple #[.pointer b, .int .i64 fo]) ∧ Below w.heap.size w w2 ∧
        Calls Tryz.prog 34 #[.pointer a, .pointer b] w2 fun e w3 => (∃ p, e = .returned (.pointer (some p))) ∧ Below w.heap.size w w3 := by
  obtain ⟨F, _, c1⟩ := t_hnew pages w h0 h1
  refine c1.mono ?_
  rintro e w1 ⟨q, S, rfl, s1⟩
  refine ⟨_, 0, rfl, s1.bel, ?_⟩
  obtain ⟨n, rfl⟩ : ∃ n : Nat, pages = n := ⟨pages.toNat, by omega⟩
  refine (code_anew n w1 (by omega) (by omega)).mono ?_
  rintro e w2 ⟨ap, gg, rfl, ha, hb2⟩
  have hb := s1.bel.trans (hb2.mono s1.bel.size)
  have hSl := s1.hp.lt
  have hge := ha.ge
  have hgg := ha.geg
  refine ⟨_, 0, rfl, hb, (code_pnew (s1.hp.below hb2) (ha.more (Nat.zero_le _)) (by show ((64 * n : Nat) : Int) = 64 * (n : Int); omega) (fun x hx => by rw [(List.mem_replicate.1 hx).2]; decide) (fun h => by have := hSl _ h; omega) (fun h => by have := hSl _ h; omega)).mono ?_⟩
  rintro e w3 ⟨p, mb, rfl, _, _, hb3, _⟩
  exact ⟨⟨_, rfl⟩, hb.trans (hb3.mono hb.size)⟩

set_option maxRecDepth 100000 in
set_option maxHeartbeats 4000000 in
theorem poolNil_any (pages other order : Int) (A : Option Addr) (m c : Nat) (ids : List Int) (w : World) (h0 : in64 pages) (h1 : in64 other) (h2 : in64 order) (hm : m ≤ maxLen) (hs : Sl w w.heap.size A m (ids.map iv)) (hid : ∀ i ∈ ids, in64 i) :
    Calls Tryz.prog 6 #[.int .i64 pages, .int .i64 other, .int .i64 order, .slice A m c] w fun e w' => e = .returned (.bool true) ∧ Below w.heap.size w w' := by
  have cw := fun W => awake9 W
  unfold maxLen at hm
  by_cases g0 : 1024 < pages
  · clear hs hid
    go_enter Tryz.func6, Tryz.ntmps6
    go_wp2_with (go_at_call 8; (with_reducible refine (cw _).mono ?_); rintro e w1 ⟨rfl, hb⟩)
    go_ret
    exact ⟨rfl, hb⟩
  by_cases g1 : 5 < m
  · have g2 : (5 : Int) < (m : Int) := by omega
    clear hs hid
    go_enter Tryz.func6, Tryz.ntmps6
    go_wp2_with (go_at_call 8; (with_reducible refine (cw _).mono ?_); rintro e w1 ⟨rfl, hb⟩)
    go_ret
    exact ⟨rfl, hb⟩
  have g2 : ¬ (5 : Int) < (m : Int) := by omega
  by_cases g3 : 4 ≤ pages ∧ pages = other
  · obtain ⟨g4, rfl⟩ := g3
    have c1 := parts_yes pages w g4 (by omega)
    clear hs hid
    go_enter Tryz.func6, Tryz.ntmps6
    go_wp2_with (first
      | (go_at_call 32; (with_reducible refine c1.mono ?_); rintro e w1 ⟨a, eo, rfl, hb1, c2⟩)
      | (go_at_call 33; (with_reducible refine c2.mono ?_); rintro e w2 ⟨b, fo, rfl, hb2, c3⟩)
      | (go_at_call 34; (with_reducible refine c3.mono ?_); rintro e w3 ⟨⟨p, rfl⟩, hb3⟩)
      | (go_at_call 8; (with_reducible refine (cw _).mono ?_); rintro e w4 ⟨rfl, hb4⟩))
    go_ret
    exact ⟨rfl, hb3.trans (hb4.mono hb3.size)⟩
  have c1 := parts_no pages other w h0 h1 (by omega) g3
  have HG : Hid (∀ W, Below w.heap.size w W → Calls Tryz.prog 31 #[.pointer none, .slice A m c] W fun e w' => e = .returned (.int .i64 (if 0 < m then 2 else 0)) ∧ Below W.heap.size W w') := hidb (fun W hb => code_pgive_nil A m c ids W ((hs.below hb).more hb.size) (by omega) hid)
  have cl := fun W => code_plist_nil order W
  have csp := fun W => code_pspans_nil order W
  have co := fun W => code_pout_nil W
  have cor := fun W => code_porder_nil 0 ⟨by omega, by omega⟩ W
  have ch := fun W => code_phold_nil true W
  have ch2 := fun W => code_phold_nil false W
  obtain ⟨want, hw, ct⟩ : ∃ want : Int, ((order < 0 ∨ 3 < order) ∧ want = 1 ∨ (¬ order < 0 ∧ ¬ 3 < order) ∧ want = 3) ∧ ∀ W, Calls Tryz.prog 30 #[.pointer none, .int .i64 order] W fun e w' => e = .returned (.tuple #[.int .i64 0, .int .i64 want]) ∧ Below W.heap.size W w' := by
    by_cases c : order < 0 ∨ 3 < order
    · exact ⟨1, Or.inl ⟨c, rfl⟩, fun W => code_ptake_arg none order h2 c W⟩
    · exact ⟨3, Or.inr ⟨⟨by omega, by omega⟩, rfl⟩, fun W => code_ptake_nil order (by omega) W⟩
  have g4 : (decide (4 ≤ pages) && (pages == other)) = false := by
    rw [Bool.eq_false_iff]
    intro h
    rw [Bool.and_eq_true, beq_iff_eq] at h
    exact g3 ⟨of_decide_eq_true h.1, h.2⟩
  have g5 : 4 ≤ pages → ¬ pages = other := fun h h' => g3 ⟨h, h'⟩
  obtain ⟨gv, hgv⟩ : ∃ gv : Int, (if 0 < m then (2 : Int) else 0) = gv := ⟨_, rfl⟩
  rw [hgv] at HG
  clear hs hid g3
  have hmz : (0 : Int) < (m : Int) ↔ 0 < m := by omega
  rcases hw with ⟨hc, rfl⟩ | ⟨⟨hc1, hc2⟩, rfl⟩
  · by_cases q1 : order < 0
    · by_cases q3 : 0 < m
      · rw [if_pos q3] at hgv
        subst hgv
        have q5 := hmz.2 q3
        clear hmz
        by_cases q4 : 4 ≤ pages
        · have q6 := g5 q4
          clear g5
          go_enter Tryz.func6, Tryz.ntmps6
          go_wp2_with (first
            | (go_at_call 32; (with_reducible refine c1.mono ?_); rintro e w1 ⟨a, eo, rfl, hb1, c2⟩)
            | (go_at_call 33; (with_reducible refine c2.mono ?_); rintro e w2 ⟨b, fo, rfl, hb2, c3⟩)
            | (go_at_call 34; (with_reducible refine c3.mono ?_); rintro e w3 ⟨rfl, hb3⟩)
            | (go_at_call 30; (with_reducible refine (ct _).mono ?_); rintro e w4 ⟨rfl, hb4'⟩; have hb4 := hb3.trans (hb4'.mono hb3.size); have cg := HG.out _ hb4)
            | (go_at_call 31; (with_reducible refine cg.mono ?_); rintro e w5 ⟨rfl, hb5'⟩; have hb5 := hb4.trans (hb5'.mono hb4.size))
            | (go_at_call 29; (with_reducible refine (ch _).mono ?_); rintro e w6 ⟨rfl, rfl⟩)
            | (go_at_call 29; (with_reducible refine (ch2 _).mono ?_); rintro e w7 ⟨rfl, rfl⟩)
            | (go_at_call 15; (with_reducible refine (cl _).mono ?_); rintro e w8 ⟨rfl, hb8'⟩; have hb8 := hb5.trans (hb8'.mono hb5.size))
            | (go_at_call 12; (with_reducible refine (csp _).mono ?_); rintro e w9 ⟨rfl, hb9'⟩; have hb9 := hb8.trans (hb9'.mono hb8.size))
            | (go_at_call 19; (with_reducible refine (co _).mono ?_); rintro e wa ⟨rfl, hba'⟩; have hba := hb9.trans (hba'.mono hb9.size))
            | (go_at_call 17; (with_reducible refine (cor _).mono ?_); rintro e wb ⟨rfl, hbb'⟩; have hbb := hba.trans (hbb'.mono hba.size))
            | (go_at_call 8; (with_reducible refine (cw _).mono ?_); rintro e wc ⟨rfl, hbc⟩))
          go_ret
          exact ⟨rfl, hbb.trans (hbc.mono hbb.size)⟩
        · clear g5
          go_enter Tryz.func6, Tryz.ntmps6
          go_wp2_with (first
            | (go_at_call 32; (with_reducible refine c1.mono ?_); rintro e w1 ⟨a, eo, rfl, hb1, c2⟩)
            | (go_at_call 33; (with_reducible refine c2.mono ?_); rintro e w2 ⟨b, fo, rfl, hb2, c3⟩)
            | (go_at_call 34; (with_reducible refine c3.mono ?_); rintro e w3 ⟨rfl, hb3⟩)
            | (go_at_call 30; (with_reducible refine (ct _).mono ?_); rintro e w4 ⟨rfl, hb4'⟩; have hb4 := hb3.trans (hb4'.mono hb3.size); have cg := HG.out _ hb4)
            | (go_at_call 31; (with_reducible refine cg.mono ?_); rintro e w5 ⟨rfl, hb5'⟩; have hb5 := hb4.trans (hb5'.mono hb4.size))
            | (go_at_call 29; (with_reducible refine (ch _).mono ?_); rintro e w6 ⟨rfl, rfl⟩)
            | (go_at_call 29; (with_reducible refine (ch2 _).mono ?_); rintro e w7 ⟨rfl, rfl⟩)
            | (go_at_call 15; (with_reducible refine (cl _).mono ?_); rintro e w8 ⟨rfl, hb8'⟩; have hb8 := hb5.trans (hb8'.mono hb5.size))
            | (go_at_call 12; (with_reducible refine (csp _).mono ?_); rintro e w9 ⟨rfl, hb9'⟩; have hb9 := hb8.trans (hb9'.mono hb8.size))
            | (go_at_call 19; (with_reducible refine (co _).mono ?_); rintro e wa ⟨rfl, hba'⟩; have hba := hb9.trans (hba'.mono hb9.size))
            | (go_at_call 17; (with_reducible refine (cor _).mono ?_); rintro e wb ⟨rfl, hbb'⟩; have hbb := hba.trans (hbb'.mono hba.size))
            | (go_at_call 8; (with_reducible refine (cw _).mono ?_); rintro e wc ⟨rfl, hbc⟩))
          go_ret
          exact ⟨rfl, hbb.trans (hbc.mono hbb.size)⟩
      · rw [if_neg q3] at hgv
        subst hgv
        have q5 : ¬ (0 : Int) < (m : Int) := fun h => q3 (hmz.1 h)
        clear hmz
        by_cases q4 : 4 ≤ pages
        · have q6 := g5 q4
          clear g5
          go_enter Tryz.func6, Tryz.ntmps6
          go_wp2_with (first
            | (go_at_call 32; (with_reducible refine c1.mono ?_); rintro e w1 ⟨a, eo, rfl, hb1, c2⟩)
            | (go_at_call 33; (with_reducible refine c2.mono ?_); rintro e w2 ⟨b, fo, rfl, hb2, c3⟩)
            | (go_at_call 34; (with_reducible refine c3.mono ?_); rintro e w3 ⟨rfl, hb3⟩)
            | (go_at_call 30; (with_reducible refine (ct _).mono ?_); rintro e w4 ⟨rfl, hb4'⟩; have hb4 := hb3.trans (hb4'.mono hb3.size); have cg := HG.out _ hb4)
            | (go_at_call 31; (with_reducible refine cg.mono ?_); rintro e w5 ⟨rfl, hb5'⟩; have hb5 := hb4.trans (hb5'.mono hb4.size))
            | (go_at_call 29; (with_reducible refine (ch _).mono ?_); rintro e w6 ⟨rfl, rfl⟩)
            | (go_at_call 29; (with_reducible refine (ch2 _).mono ?_); rintro e w7 ⟨rfl, rfl⟩)
            | (go_at_call 15; (with_reducible refine (cl _).mono ?_); rintro e w8 ⟨rfl, hb8'⟩; have hb8 := hb5.trans (hb8'.mono hb5.size))
            | (go_at_call 12; (with_reducible refine (csp _).mono ?_); rintro e w9 ⟨rfl, hb9'⟩; have hb9 := hb8.trans (hb9'.mono hb8.size))
            | (go_at_call 19; (with_reducible refine (co _).mono ?_); rintro e wa ⟨rfl, hba'⟩; have hba := hb9.trans (hba'.mono hb9.size))
            | (go_at_call 17; (with_reducible refine (cor _).mono ?_); rintro e wb ⟨rfl, hbb'⟩; have hbb := hba.trans (hbb'.mono hba.size))
            | (go_at_call 8; (with_reducible refine (cw _).mono ?_); rintro e wc ⟨rfl, hbc⟩))
          go_ret
          exact ⟨rfl, hbb.trans (hbc.mono hbb.size)⟩
        · clear g5
          go_enter Tryz.func6, Tryz.ntmps6
          go_wp2_with (first
            | (go_at_call 32; (with_reducible refine c1.mono ?_); rintro e w1 ⟨a, eo, rfl, hb1, c2⟩)
            | (go_at_call 33; (with_reducible refine c2.mono ?_); rintro e w2 ⟨b, fo, rfl, hb2, c3⟩)
            | (go_at_call 34; (with_reducible refine c3.mono ?_); rintro e w3 ⟨rfl, hb3⟩)
            | (go_at_call 30; (with_reducible refine (ct _).mono ?_); rintro e w4 ⟨rfl, hb4'⟩; have hb4 := hb3.trans (hb4'.mono hb3.size); have cg := HG.out _ hb4)
            | (go_at_call 31; (with_reducible refine cg.mono ?_); rintro e w5 ⟨rfl, hb5'⟩; have hb5 := hb4.trans (hb5'.mono hb4.size))
            | (go_at_call 29; (with_reducible refine (ch _).mono ?_); rintro e w6 ⟨rfl, rfl⟩)
            | (go_at_call 29; (with_reducible refine (ch2 _).mono ?_); rintro e w7 ⟨rfl, rfl⟩)
            | (go_at_call 15; (with_reducible refine (cl _).mono ?_); rintro e w8 ⟨rfl, hb8'⟩; have hb8 := hb5.trans (hb8'.mono hb5.size))
            | (go_at_call 12; (with_reducible refine (csp _).mono ?_); rintro e w9 ⟨rfl, hb9'⟩; have hb9 := hb8.trans (hb9'.mono hb8.size))
            | (go_at_call 19; (with_reducible refine (co _).mono ?_); rintro e wa ⟨rfl, hba'⟩; have hba := hb9.trans (hba'.mono hb9.size))
            | (go_at_call 17; (with_reducible refine (cor _).mono ?_); rintro e wb ⟨rfl, hbb'⟩; have hbb := hba.trans (hbb'.mono hba.size))
            | (go_at_call 8; (with_reducible refine (cw _).mono ?_); rintro e wc ⟨rfl, hbc⟩))
          go_ret
          exact ⟨rfl, hbb.trans (hbc.mono hbb.size)⟩
    · have q2 : 3 < order := by omega
      by_cases q3 : 0 < m
      · rw [if_pos q3] at hgv
        subst hgv
        have q5 := hmz.2 q3
        clear hmz hc
        by_cases q4 : 4 ≤ pages
        · have q6 := g5 q4
          clear g5
          go_enter Tryz.func6, Tryz.ntmps6
          go_wp2_with (first
            | (go_at_call 32; (with_reducible refine c1.mono ?_); rintro e w1 ⟨a, eo, rfl, hb1, c2⟩)
            | (go_at_call 33; (with_reducible refine c2.mono ?_); rintro e w2 ⟨b, fo, rfl, hb2, c3⟩)
            | (go_at_call 34; (with_reducible refine c3.mono ?_); rintro e w3 ⟨rfl, hb3⟩)
            | (go_at_call 30; (with_reducible refine (ct _).mono ?_); rintro e w4 ⟨rfl, hb4'⟩; have hb4 := hb3.trans (hb4'.mono hb3.size); have cg := HG.out _ hb4)
            | (go_at_call 31; (with_reducible refine cg.mono ?_); rintro e w5 ⟨rfl, hb5'⟩; have hb5 := hb4.trans (hb5'.mono hb4.size))
            | (go_at_call 29; (with_reducible refine (ch _).mono ?_); rintro e w6 ⟨rfl, rfl⟩)
            | (go_at_call 29; (with_reducible refine (ch2 _).mono ?_); rintro e w7 ⟨rfl, rfl⟩)
            | (go_at_call 15; (with_reducible refine (cl _).mono ?_); rintro e w8 ⟨rfl, hb8'⟩; have hb8 := hb5.trans (hb8'.mono hb5.size))
            | (go_at_call 12; (with_reducible refine (csp _).mono ?_); rintro e w9 ⟨rfl, hb9'⟩; have hb9 := hb8.trans (hb9'.mono hb8.size))
            | (go_at_call 19; (with_reducible refine (co _).mono ?_); rintro e wa ⟨rfl, hba'⟩; have hba := hb9.trans (hba'.mono hb9.size))
            | (go_at_call 17; (with_reducible refine (cor _).mono ?_); rintro e wb ⟨rfl, hbb'⟩; have hbb := hba.trans (hbb'.mono hba.size))
            | (go_at_call 8; (with_reducible refine (cw _).mono ?_); rintro e wc ⟨rfl, hbc⟩))
          go_ret
          exact ⟨rfl, hbb.trans (hbc.mono hbb.size)⟩
        · clear g5
          go_enter Tryz.func6, Tryz.ntmps6
          go_wp2_with (first
            | (go_at_call 32; (with_reducible refine c1.mono ?_); rintro e w1 ⟨a, eo, rfl, hb1, c2⟩)
            | (go_at_call 33; (with_reducible refine c2.mono ?_); rintro e w2 ⟨b, fo, rfl, hb2, c3⟩)
            | (go_at_call 34; (with_reducible refine c3.mono ?_); rintro e w3 ⟨rfl, hb3⟩)
            | (go_at_call 30; (with_reducible refine (ct _).mono ?_); rintro e w4 ⟨rfl, hb4'⟩; have hb4 := hb3.trans (hb4'.mono hb3.size); have cg := HG.out _ hb4)
            | (go_at_call 31; (with_reducible refine cg.mono ?_); rintro e w5 ⟨rfl, hb5'⟩; have hb5 := hb4.trans (hb5'.mono hb4.size))
            | (go_at_call 29; (with_reducible refine (ch _).mono ?_); rintro e w6 ⟨rfl, rfl⟩)
            | (go_at_call 29; (with_reducible refine (ch2 _).mono ?_); rintro e w7 ⟨rfl, rfl⟩)
            | (go_at_call 15; (with_reducible refine (cl _).mono ?_); rintro e w8 ⟨rfl, hb8'⟩; have hb8 := hb5.trans (hb8'.mono hb5.size))
            | (go_at_call 12; (with_reducible refine (csp _).mono ?_); rintro e w9 ⟨rfl, hb9'⟩; have hb9 := hb8.trans (hb9'.mono hb8.size))
            | (go_at_call 19; (with_reducible refine (co _).mono ?_); rintro e wa ⟨rfl, hba'⟩; have hba := hb9.trans (hba'.mono hb9.size))
            | (go_at_call 17; (with_reducible refine (cor _).mono ?_); rintro e wb ⟨rfl, hbb'⟩; have hbb := hba.trans (hbb'.mono hba.size))
            | (go_at_call 8; (with_reducible refine (cw _).mono ?_); rintro e wc ⟨rfl, hbc⟩))
          go_ret
          exact ⟨rfl, hbb.trans (hbc.mono hbb.size)⟩
      · rw [if_neg q3] at hgv
        subst hgv
        have q5 : ¬ (0 : Int) < (m : Int) := fun h => q3 (hmz.1 h)
        clear hmz hc
        by_cases q4 : 4 ≤ pages
        · have q6 := g5 q4
          clear g5
          go_enter Tryz.func6, Tryz.ntmps6
          go_wp2_with (first
            | (go_at_call 32; (with_reducible refine c1.mono ?_); rintro e w1 ⟨a, eo, rfl, hb1, c2⟩)
            | (go_at_call 33; (with_reducible refine c2.mono ?_); rintro e w2 ⟨b, fo, rfl, hb2, c3⟩)
            | (go_at_call 34; (with_reducible refine c3.mono ?_); rintro e w3 ⟨rfl, hb3⟩)
            | (go_at_call 30; (with_reducible refine (ct _).mono ?_); rintro e w4 ⟨rfl, hb4'⟩; have hb4 := hb3.trans (hb4'.mono hb3.size); have cg := HG.out _ hb4)
            | (go_at_call 31; (with_reducible refine cg.mono ?_); rintro e w5 ⟨rfl, hb5'⟩; have hb5 := hb4.trans (hb5'.mono hb4.size))
            | (go_at_call 29; (with_reducible refine (ch _).mono ?_); rintro e w6 ⟨rfl, rfl⟩)
            | (go_at_call 29; (with_reducible refine (ch2 _).mono ?_); rintro e w7 ⟨rfl, rfl⟩)
            | (go_at_call 15; (with_reducible refine (cl _).mono ?_); rintro e w8 ⟨rfl, hb8'⟩; have hb8 := hb5.trans (hb8'.mono hb5.size))
            | (go_at_call 12; (with_reducible refine (csp _).mono ?_); rintro e w9 ⟨rfl, hb9'⟩; have hb9 := hb8.trans (hb9'.mono hb8.size))
            | (go_at_call 19; (with_reducible refine (co _).mono ?_); rintro e wa ⟨rfl, hba'⟩; have hba := hb9.trans (hba'.mono hb9.size))
            | (go_at_call 17; (with_reducible refine (cor _).mono ?_); rintro e wb ⟨rfl, hbb'⟩; have hbb := hba.trans (hbb'.mono hba.size))
            | (go_at_call 8; (with_reducible refine (cw _).mono ?_); rintro e wc ⟨rfl, hbc⟩))
          go_ret
          exact ⟨rfl, hbb.trans (hbc.mono hbb.size)⟩
        · clear g5
          go_enter Tryz.func6, Tryz.ntmps6
          go_wp2_with (first
            | (go_at_call 32; (with_reducible refine c1.mono ?_); rintro e w1 ⟨a, eo, rfl, hb1, c2⟩)
            | (go_at_call 33; (with_reducible refine c2.mono ?_); rintro e w2 ⟨b, fo, rfl, hb2, c3⟩)
            | (go_at_call 34; (with_reducible refine c3.mono ?_); rintro e w3 ⟨rfl, hb3⟩)
            | (go_at_call 30; (with_reducible refine (ct _).mono ?_); rintro e w4 ⟨rfl, hb4'⟩; have hb4 := hb3.trans (hb4'.mono hb3.size); have cg := HG.out _ hb4)
            | (go_at_call 31; (with_reducible refine cg.mono ?_); rintro e w5 ⟨rfl, hb5'⟩; have hb5 := hb4.trans (hb5'.mono hb4.size))
            | (go_at_call 29; (with_reducible refine (ch _).mono ?_); rintro e w6 ⟨rfl, rfl⟩)
            | (go_at_call 29; (with_reducible refine (ch2 _).mono ?_); rintro e w7 ⟨rfl, rfl⟩)
            | (go_at_call 15; (with_reducible refine (cl _).mono ?_); rintro e w8 ⟨rfl, hb8'⟩; have hb8 := hb5.trans (hb8'.mono hb5.size))
            | (go_at_call 12; (with_reducible refine (csp _).mono ?_); rintro e w9 ⟨rfl, hb9'⟩; have hb9 := hb8.trans (hb9'.mono hb8.size))
            | (go_at_call 19; (with_reducible refine (co _).mono ?_); rintro e wa ⟨rfl, hba'⟩; have hba := hb9.trans (hba'.mono hb9.size))
            | (go_at_call 17; (with_reducible refine (cor _).mono ?_); rintro e wb ⟨rfl, hbb'⟩; have hbb := hba.trans (hbb'.mono hba.size))
            | (go_at_call 8; (with_reducible refine (cw _).mono ?_); rintro e wc ⟨rfl, hbc⟩))
          go_ret
          exact ⟨rfl, hbb.trans (hbc.mono hbb.size)⟩
  · by_cases q3 : 0 < m
    · rw [if_pos q3] at hgv
      subst hgv
      have q5 := hmz.2 q3
      clear hmz
      by_cases q4 : 4 ≤ pages
      · have q6 := g5 q4
        clear g5
        go_enter Tryz.func6, Tryz.ntmps6
        go_wp2_with (first
          | (go_at_call 32; (with_reducible refine c1.mono ?_); rintro e w1 ⟨a, eo, rfl, hb1, c2⟩)
          | (go_at_call 33; (with_reducible refine c2.mono ?_); rintro e w2 ⟨b, fo, rfl, hb2, c3⟩)
          | (go_at_call 34; (with_reducible refine c3.mono ?_); rintro e w3 ⟨rfl, hb3⟩)
          | (go_at_call 30; (with_reducible refine (ct _).mono ?_); rintro e w4 ⟨rfl, hb4'⟩; have hb4 := hb3.trans (hb4'.mono hb3.size); have cg := HG.out _ hb4)
          | (go_at_call 31; (with_reducible refine cg.mono ?_); rintro e w5 ⟨rfl, hb5'⟩; have hb5 := hb4.trans (hb5'.mono hb4.size))
          | (go_at_call 29; (with_reducible refine (ch _).mono ?_); rintro e w6 ⟨rfl, rfl⟩)
          | (go_at_call 29; (with_reducible refine (ch2 _).mono ?_); rintro e w7 ⟨rfl, rfl⟩)
          | (go_at_call 15; (with_reducible refine (cl _).mono ?_); rintro e w8 ⟨rfl, hb8'⟩; have hb8 := hb5.trans (hb8'.mono hb5.size))
          | (go_at_call 12; (with_reducible refine (csp _).mono ?_); rintro e w9 ⟨rfl, hb9'⟩; have hb9 := hb8.trans (hb9'.mono hb8.size))
          | (go_at_call 19; (with_reducible refine (co _).mono ?_); rintro e wa ⟨rfl, hba'⟩; have hba := hb9.trans (hba'.mono hb9.size))
          | (go_at_call 17; (with_reducible refine (cor _).mono ?_); rintro e wb ⟨rfl, hbb'⟩; have hbb := hba.trans (hbb'.mono hba.size))
          | (go_at_call 8; (with_reducible refine (cw _).mono ?_); rintro e wc ⟨rfl, hbc⟩))
        go_ret
        exact ⟨rfl, hbb.trans (hbc.mono hbb.size)⟩
      · clear g5
        go_enter Tryz.func6, Tryz.ntmps6
        go_wp2_with (first
          | (go_at_call 32; (with_reducible refine c1.mono ?_); rintro e w1 ⟨a, eo, rfl, hb1, c2⟩)
          | (go_at_call 33; (with_reducible refine c2.mono ?_); rintro e w2 ⟨b, fo, rfl, hb2, c3⟩)
          | (go_at_call 34; (with_reducible refine c3.mono ?_); rintro e w3 ⟨rfl, hb3⟩)
          | (go_at_call 30; (with_reducible refine (ct _).mono ?_); rintro e w4 ⟨rfl, hb4'⟩; have hb4 := hb3.trans (hb4'.mono hb3.size); have cg := HG.out _ hb4)
          | (go_at_call 31; (with_reducible refine cg.mono ?_); rintro e w5 ⟨rfl, hb5'⟩; have hb5 := hb4.trans (hb5'.mono hb4.size))
          | (go_at_call 29; (with_reducible refine (ch _).mono ?_); rintro e w6 ⟨rfl, rfl⟩)
          | (go_at_call 29; (with_reducible refine (ch2 _).mono ?_); rintro e w7 ⟨rfl, rfl⟩)
          | (go_at_call 15; (with_reducible refine (cl _).mono ?_); rintro e w8 ⟨rfl, hb8'⟩; have hb8 := hb5.trans (hb8'.mono hb5.size))
          | (go_at_call 12; (with_reducible refine (csp _).mono ?_); rintro e w9 ⟨rfl, hb9'⟩; have hb9 := hb8.trans (hb9'.mono hb8.size))
          | (go_at_call 19; (with_reducible refine (co _).mono ?_); rintro e wa ⟨rfl, hba'⟩; have hba := hb9.trans (hba'.mono hb9.size))
          | (go_at_call 17; (with_reducible refine (cor _).mono ?_); rintro e wb ⟨rfl, hbb'⟩; have hbb := hba.trans (hbb'.mono hba.size))
          | (go_at_call 8; (with_reducible refine (cw _).mono ?_); rintro e wc ⟨rfl, hbc⟩))
        go_ret
        exact ⟨rfl, hbb.trans (hbc.mono hbb.size)⟩
    · rw [if_neg q3] at hgv
      subst hgv
      have q5 : ¬ (0 : Int) < (m : Int) := fun h => q3 (hmz.1 h)
      clear hmz
      by_cases q4 : 4 ≤ pages
      · have q6 := g5 q4
        clear g5
        go_enter Tryz.func6, Tryz.ntmps6
        go_wp2_with (first
          | (go_at_call 32; (with_reducible refine c1.mono ?_); rintro e w1 ⟨a, eo, rfl, hb1, c2⟩)
          | (go_at_call 33; (with_reducible refine c2.mono ?_); rintro e w2 ⟨b, fo, rfl, hb2, c3⟩)
          | (go_at_call 34; (with_reducible refine c3.mono ?_); rintro e w3 ⟨rfl, hb3⟩)
          | (go_at_call 30; (with_reducible refine (ct _).mono ?_); rintro e w4 ⟨rfl, hb4'⟩; have hb4 := hb3.trans (hb4'.mono hb3.size); have cg := HG.out _ hb4)
          | (go_at_call 31; (with_reducible refine cg.mono ?_); rintro e w5 ⟨rfl, hb5'⟩; have hb5 := hb4.trans (hb5'.mono hb4.size))
          | (go_at_call 29; (with_reducible refine (ch _).mono ?_); rintro e w6 ⟨rfl, rfl⟩)
          | (go_at_call 29; (with_reducible refine (ch2 _).mono ?_); rintro e w7 ⟨rfl, rfl⟩)
          | (go_at_call 15; (with_reducible refine (cl _).mono ?_); rintro e w8 ⟨rfl, hb8'⟩; have hb8 := hb5.trans (hb8'.mono hb5.size))
          | (go_at_call 12; (with_reducible refine (csp _).mono ?_); rintro e w9 ⟨rfl, hb9'⟩; have hb9 := hb8.trans (hb9'.mono hb8.size))
          | (go_at_call 19; (with_reducible refine (co _).mono ?_); rintro e wa ⟨rfl, hba'⟩; have hba := hb9.trans (hba'.mono hb9.size))
          | (go_at_call 17; (with_reducible refine (cor _).mono ?_); rintro e wb ⟨rfl, hbb'⟩; have hbb := hba.trans (hbb'.mono hba.size))
          | (go_at_call 8; (with_reducible refine (cw _).mono ?_); rintro e wc ⟨rfl, hbc⟩))
        go_ret
        exact ⟨rfl, hbb.trans (hbc.mono hbb.size)⟩
      · clear g5
        go_enter Tryz.func6, Tryz.ntmps6
        go_wp2_with (first
          | (go_at_call 32; (with_reducible refine c1.mono ?_); rintro e w1 ⟨a, eo, rfl, hb1, c2⟩)
          | (go_at_call 33; (with_reducible refine c2.mono ?_); rintro e w2 ⟨b, fo, rfl, hb2, c3⟩)
          | (go_at_call 34; (with_reducible refine c3.mono ?_); rintro e w3 ⟨rfl, hb3⟩)
          | (go_at_call 30; (with_reducible refine (ct _).mono ?_); rintro e w4 ⟨rfl, hb4'⟩; have hb4 := hb3.trans (hb4'.mono hb3.size); have cg := HG.out _ hb4)
          | (go_at_call 31; (with_reducible refine cg.mono ?_); rintro e w5 ⟨rfl, hb5'⟩; have hb5 := hb4.trans (hb5'.mono hb4.size))
          | (go_at_call 29; (with_reducible refine (ch _).mono ?_); rintro e w6 ⟨rfl, rfl⟩)
          | (go_at_call 29; (with_reducible refine (ch2 _).mono ?_); rintro e w7 ⟨rfl, rfl⟩)
          | (go_at_call 15; (with_reducible refine (cl _).mono ?_); rintro e w8 ⟨rfl, hb8'⟩; have hb8 := hb5.trans (hb8'.mono hb5.size))
          | (go_at_call 12; (with_reducible refine (csp _).mono ?_); rintro e w9 ⟨rfl, hb9'⟩; have hb9 := hb8.trans (hb9'.mono hb8.size))
          | (go_at_call 19; (with_reducible refine (co _).mono ?_); rintro e wa ⟨rfl, hba'⟩; have hba := hb9.trans (hba'.mono hb9.size))
          | (go_at_call 17; (with_reducible refine (cor _).mono ?_); rintro e wb ⟨rfl, hbb'⟩; have hbb := hba.trans (hbb'.mono hba.size))
          | (go_at_call 8; (with_reducible refine (cw _).mono ?_); rintro e wc ⟨rfl, hbc⟩))
        go_ret
        exact ⟨rfl, hbb.trans (hbc.mono hbb.size)⟩

end Go.Proofs.YthdjgmankcegpaaGreat
