/- Layer 12's statement on nil stacks. -/
import Derived.Test.YtlcdgmjinhbncaaGreatP2StkNil0
namespace Go.Proofs.YtlcdgmjinhbncaaGreat
open Go.RowKit
set_option linter.unusedVariables false

/-- Numbers that came in. -/
theorem read_ids12 {H : Type} {enc : TypeId × Value → H} {W : World} {sp : Nat → Bool} {hd : Bool} {v : Value} {d : DataW H} {ps : List MemPlace} (h : DataW.Trod enc Tryz.prog W 0 sp hd 38 v d ps) :
    ∃ (A : Option Addr) (len cap : Nat) (l : List Int), v.cells.toList = [.slice A len cap] ∧ len ≤ maxLen ∧ Sl W W.heap.size A len (l.map iv) ∧ ∀ i ∈ l, in64 i := by
  obtain ⟨fuel, hf⟩ := h
  obtain ⟨A, len, cap, zs, e1, hlen, hsl, hwf⟩ := read_ints Tryz.underlying38 Tryz.underlying3 (by kernel_rfl) hf
  exact ⟨A, len, cap, zs, e1, hlen, hsl, fun x hx => wf_in64 (hwf x hx)⟩
theorem bel_tr12 {W X Y : World} (h : Below W.heap.size W X) (k : Below X.heap.size X Y) : Below W.heap.size W Y := h.trans (k.mono h.size)
theorem bad_step {l : List Int} {j : Nat} {x : Int} (h : l[j]? = some x) : badSizes l (j + 1) = (badSizes l j || !stkSize x) := by
  have hx : l.getD j 0 = x := by rw [List.getD_eq_getElem?_getD, h]; rfl
  unfold badSizes
  rw [List.range_succ, List.any_append]
  show (_ || ((!stkSize (l.getD j 0)) || false)) = _
  rw [hx, Bool.or_false]
set_option maxRecDepth 100000 in
set_option maxHeartbeats 4000000 in
theorem stacksNil_any (proc at' words : Int) (A : Option Addr) (m c : Nat) (l : List Int) (w : World) (h0 : in64 proc) (h1 : in64 at') (h2 : in64 words) (hm : m ≤ maxLen) (hs : Sl w w.heap.size A m (l.map iv)) (hid : ∀ i ∈ l, in64 i) :
    Calls Tryz.prog 9 #[.int .i64 proc, .int .i64 at', .int .i64 words, .slice A m c] w fun e w' => e = .returned (.bool true) ∧ Below w.heap.size w w' := by
  have cw := fun W => awake12 W
  unfold maxLen at hm
  by_cases g0 : (10 : Int) < (m : Int)
  · clear hs hid
    --@1
    go_enter Tryz.func9, Tryz.ntmps9
    go_wp2_with (go_at_call 43; (with_reducible refine (cw _).mono ?_); rintro e w1 ⟨rfl, hb⟩)
    go_ret
    exact ⟨rfl, hb⟩
  have hN0 : ∀ W X : World, Below W.heap.size W X → ∀ a, (none : Option Addr) = some a → ∃ q, a = ⟨q, 0, none⟩ ∧ X.cell? ⟨q, 5, none⟩ = some (.int .i64 0) := fun W X hb a h => by cases h
  have cm := c_smake_bad none 0 proc words w (hN0 w) h2 (Or.inl rfl)
  have cf := fun W => c_sfree_bad none 0 proc at' words W (hN0 W) h2 (Or.inl rfl)
  have cp := fun W => c_proc1 none 0 proc W (hN0 W) false rfl
  have cpp := fun W => sn_procs0 W
  have cpa := fun W => sn_parts W
  have cop := fun W => sn_open W
  have ccl := fun W => sn_close W
  have cco := fun W => sn_collects W
  have cfl := fun W => sn_flush W
  have HR := hidb hs
  have HID := hidb hid
  have CS : Hid (∀ W, Below w.heap.size w W → Calls Tryz.prog 59 #[.slice A m c] W fun e w' => e = .returned (.bool (!badSizes l m)) ∧ Below W.heap.size W w') := hidb (fun W hb => c_sizes A m c l W ((hs.below hb).more hb.size) hid (by omega))
  clear hs hid hN0
  go_enter Tryz.func9, Tryz.ntmps9
  go_wp2_with (first
    | (go_at_call 55; (with_reducible refine cm.mono ?_); rintro e w1 ⟨rfl, hb1⟩)
    | (go_at_call 48; (with_reducible refine (cpa _).mono ?_); rintro e w2 ⟨rfl, rfl⟩))
  go_loopw [17, 18] (fun y x wr => ∃ j : Nat, j ≤ m ∧ x = .int .i64 j ∧ y = .bool (!badSizes l j) ∧ wr = w2) (fun _ x _ => (m - intOf x).toNat)
  case atStart => exact ⟨0, Nat.zero_le _, rfl, rfl, rfl⟩
  case round =>
    obtain ⟨j, hj, rfl, rfl, rfl⟩ := hrel
    by_cases hlt : j < m
    · obtain ⟨b, off, x, rfl, hx, hc⟩ := (HR.out.below hb1).int_ hlt
      have hi0 : (0 : Int) ≤ (j : Int) := by omega
      have hi1 : (j : Int) < (m : Int) := by omega
      have cr := fun W => ref_size x W (HID.out x (List.mem_of_getElem? hx)) _ rfl
      have hst := bad_step hx
      clear hx
      cases hbs : badSizes l j with
      | true =>
        rw [hbs, Bool.true_or] at hst
        have HST := hidb hst
        clear hst hbs cr
        --@2
        go_wp2
        go_roundw
        case rel => exact ⟨j + 1, by omega, by go_num, by rw [HST.out]; rfl, by first | rfl | trivial⟩
        case measure => simp [intOf]; omega
      | false =>
        rw [hbs, Bool.false_or] at hst
        cases hbz : stkSize x with
        | true =>
          rw [hbz] at hst cr
          have HST := hidb hst
          clear hst hbs hbz
          --@3
          go_wp2_with (first | (go_at_call 56; (with_reducible refine (cr _).mono ?_); rintro e w3 ⟨rfl, rfl⟩))
          go_roundw
          case rel => exact ⟨j + 1, by omega, by go_num, by rw [HST.out]; rfl, by first | rfl | trivial⟩
          case measure => simp [intOf]; omega
        | false =>
          rw [hbz] at hst cr
          have HST := hidb hst
          clear hst hbs hbz
          --@5
          go_wp2_with (first | (go_at_call 56; (with_reducible refine (cr _).mono ?_); rintro e w3 ⟨rfl, rfl⟩))
          go_roundw
          case rel => exact ⟨j + 1, by omega, by go_num, by rw [HST.out]; rfl, by first | rfl | trivial⟩
          case measure => simp [intOf]; omega
    · obtain rfl : j = m := by omega
      obtain ⟨bb, hbb⟩ : ∃ bb, badSizes l j = bb := ⟨_, rfl⟩
      rw [hbb] at CS
      rw [hbb]
      clear hbb hlt hj
      have hbq : ((!bb) == (!bb)) = true := by simp
      --@4
      go_wp2_with (first
        | (go_at_call 52; (with_reducible refine (cf _).mono ?_); rintro e w3 ⟨rfl, hb3⟩)
        | (go_at_call 57; (with_reducible refine (cop _).mono ?_); rintro e w4 ⟨rfl, rfl⟩)
        | (go_at_call 51; (with_reducible refine (ccl _).mono ?_); rintro e w4 ⟨rfl, rfl⟩)
        | (go_at_call 54; (with_reducible refine (cco _).mono ?_); rintro e w4 ⟨rfl, rfl⟩)
        | (go_at_call 53; (with_reducible refine (cfl _).mono ?_); rintro e w4 ⟨rfl, rfl⟩)
        | (go_at_call 58; (with_reducible refine (cp _).mono ?_); rintro e w5 ⟨rfl, hb5⟩)
        | (go_at_call 58; (with_reducible refine (cpp _).mono ?_); rintro e w6 ⟨rfl, hb6⟩; have cs := CS.out w6 (bel_tr12 (bel_tr12 (bel_tr12 hb1 hb3) hb5) hb6))
        | (go_at_call 59; (with_reducible refine cs.mono ?_); rintro e w7 ⟨rfl, hb7⟩)
        | (go_at_call 43; (with_reducible refine (cw _).mono ?_); rintro e w8 ⟨rfl, hb8⟩))
      go_ret
      exact ⟨rfl, bel_tr12 (bel_tr12 (bel_tr12 (bel_tr12 (bel_tr12 hb1 hb3) hb5) hb6) hb7) hb8⟩
end Go.Proofs.YtlcdgmjinhbncaaGreat
