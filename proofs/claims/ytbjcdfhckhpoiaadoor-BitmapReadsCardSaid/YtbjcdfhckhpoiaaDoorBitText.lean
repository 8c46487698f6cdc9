/- What bitmap.Text returns. -/
import Derived.Test.YtbjcdfhckhpoiaaDoorBitCode
import Derived.Test.YtbjcdfhckhpoiaaDoorBuilder
import Derived.Test.YtbjcdfhckhpoiaaDoorShelf
namespace Go.Proofs.YtbjcdfhckhpoiaaDoor
open Go.RowKit
set_option linter.unusedVariables false

theorem code_btext (A : Option Addr) (n c : Nat) (ws : List Nat) (m : Int) (w : World) (hs : Sl w w.heap.size A n (ws.map wv)) (hn : n ≤ 9223372036854775807) (hw : Wd ws) (h0 : -9223372036854775808 ≤ m) (h1 : m ≤ 9223372036854775807) :
    Calls Tryd.prog 10 #[.slice A n c, .int .i64 m] w fun e w' => e = .returned (.string ⟨(bText ws (min m 4096).toNat).toArray⟩) ∧ Below w.heap.size w w' := by
  obtain ⟨M, hM⟩ : ∃ M, M = (min m 4096).toNat := ⟨_, rfl⟩
  rw [← hM]
  have HS := hidb hs
  have HW := hidb hw
  clear hs hw
  go_enter Tryd.func10, Tryd.ntmps10
  go_wp2
  go_loopw [9] (fun k wr => ∃ j : Nat, j ≤ M ∧ k = .int .i64 j ∧ Hid (Lib.IsBuilder 46 5 w.heap.size w.heap.size (Lib.byteCells (bText ws j)) wr) ∧ Hid (Below w.heap.size w wr)) (fun k _ => (4096 - intOf k).toNat)
  case atStart =>
    exact ⟨0, by omega, rfl, hidb (Lib.fresh_isBuilder _ _ _), hidb ((Below.refl _ _).alloc (Nat.le_refl _) _)⟩
  case round =>
    obtain ⟨j, hj, rfl, HB, HBEL⟩ := hrel
    by_cases hlt : j < M
    · have ch := code_bhas A n c ws (j : Int) wr _ (HS.out.below HBEL.out) hn HW.out (by omega) (by omega)
      have hsucc := bText_succ ws j
      have cb := fun x => builder_byte w.heap.size w.heap.size _ x wr HB.out (by rw [Lib.byteCells_length, bText_length]; omega) HBEL.out.size
      cases hB : bHas ws (j : Int) with
      | true =>
        rw [hB] at ch hsucc
        have E : Hid (Lib.byteCells (bText ws (j + 1)) = Lib.byteCells (bText ws j) ++ [.int .u8 49]) := hidb (by rw [hsucc, Lib.byteCells_append]; rfl)
        clear hB hsucc
        have cb1 := cb 49
        clear cb
        go_wp2_with (first
          | (go_at_call 22; refine ch.mono ?_; rintro e w' ⟨rfl, rfl⟩)
          | (go_at_call 23; refine cb1.mono ?_; rintro e w2 ⟨rfl, h2, hb2⟩))
        have H2 := hidb h2
        have HB2 := hidb hb2
        clear h2 hb2 cb1
        go_roundw
        case rel => exact ⟨j + 1, by omega, by go_num, hidb (by rw [E.out]; exact H2.out), hidb (HBEL.out.trans HB2.out)⟩
        case measure => simp [intOf]; omega
      | false =>
        rw [hB] at ch hsucc
        have E : Hid (Lib.byteCells (bText ws (j + 1)) = Lib.byteCells (bText ws j) ++ [.int .u8 48]) := hidb (by rw [hsucc, Lib.byteCells_append]; rfl)
        clear hB hsucc
        have cb1 := cb 48
        clear cb
        go_wp2_with (first
          | (go_at_call 22; refine ch.mono ?_; rintro e w' ⟨rfl, rfl⟩)
          | (go_at_call 23; refine cb1.mono ?_; rintro e w2 ⟨rfl, h2, hb2⟩))
        have H2 := hidb h2
        have HB2 := hidb hb2
        clear h2 hb2 cb1
        go_roundw
        case rel => exact ⟨j + 1, by omega, by go_num, hidb (by rw [E.out]; exact H2.out), hidb (HBEL.out.trans HB2.out)⟩
        case measure => simp [intOf]; omega
    · have hje : j = M := by omega
      rw [hje] at HB
      have cs := Tryd.Builder_String_any w.heap.size w.heap.size (bText ws M) wr HB.out HBEL.out.size
      have hge : min m 4096 ≤ (j : Int) := by omega
      clear hM hj hje
      go_wp2_with (go_at_call 24; refine cs.mono ?_; rintro e w2 ⟨rfl, hb2⟩)
      go_ret
      exact ⟨rfl, HBEL.out.trans hb2⟩

end Go.Proofs.YtbjcdfhckhpoiaaDoor
