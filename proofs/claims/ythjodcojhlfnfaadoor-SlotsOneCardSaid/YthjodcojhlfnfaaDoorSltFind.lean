/- What the document's own Find of layer 16 (slots) returns. -/
import Derived.Test.YthjodcojhlfnfaaDoorSltRef
namespace Go.Proofs.YthjodcojhlfnfaaDoor
open Go.RowKit
set_option linter.unusedVariables false

/-- What Find answers. -/
def findC : Option (Nat × Nat) → Value
  | none => .tuple #[.int .i64 0, .int .i64 0, .bool false]
  | some (d, i) => .tuple #[.int .i64 d, .int .i64 i, .bool true]

set_option maxRecDepth 100000 in
set_option maxHeartbeats 2000000 in
theorem ref_slfind {w : World} {A2 : Option Addr} {n2 c2 lo' hi' : Nat} {ys : List FnV} {A : Option Addr} {m c : Nat} {L : List FrV} (hr : FnRow w lo' hi' A2 n2 ys) (hhi : hi' ≤ w.heap.size) (hn2 : n2 ≤ 1000) (hl : ∀ x ∈ vals ys, 0 ≤ x.1 ∧ x.1 ≤ 1000) (hs : FrRow w w.heap.size A m L) (hm : m ≤ 1000000) (a : Int) :
    Calls Tryd.prog 12 #[.slice A2 n2 c2, .slice A m c, .int .i64 a] w fun e w' => e = .returned (findC (slFind (vals ys) 0 L a)) ∧ Below w.heap.size w w' := by
  have HS := hidb hs
  have HL := hidb hl
  have KS : Hid (∀ W x, Below w.heap.size w W → Calls Tryd.prog 22 #[.slice A2 n2 c2, .agg #[.int .i64 x.at_, .int .i64 x.fn, .int .i64 x.link]] W fun e w' => e = .returned (.int .i64 (slSize (vals ys) x)) ∧ Below W.heap.size W w') := hidb (fun W x hb => ref_slsize (hr.below (hb.mono hhi)) (Nat.le_trans hhi hb.size) hn2 x)
  clear hr hl hs
  go_enter Tryd.func12, Tryd.ntmps12
  go_wp2
  go_loopw [13, 9, 10] (fun k _ _ wr => ∃ j : Nat, j ≤ m ∧ k = .int .i64 j ∧ Hid (slFind (vals ys) 0 L a = slFind (vals ys) j (L.drop j) a) ∧ Hid (Below w.heap.size w wr)) (fun k _ _ _ => (m - intOf k).toNat)
  case atStart => exact ⟨0, by omega, rfl, hidb rfl, hidb (Below.refl _ _)⟩
  case round =>
    obtain ⟨j, hj, rfl, HF, HB⟩ := hrel
    by_cases hlt : j < m
    · obtain ⟨b, off, x, rfl, hbl, hx, hc0, hc1, hc2⟩ := HS.out.at_ hlt
      have HX := hidb hx
      have HC : Hid (∀ W, Below w.heap.size w W → W.cell? ⟨b, off + j * 3, none⟩ = some (.int .i64 x.at_) ∧ W.cell? ⟨b, off + j * 3 + 1, none⟩ = some (.int .i64 x.fn) ∧ W.cell? ⟨b, off + j * 3 + 2, none⟩ = some (.int .i64 x.link)) := hidb (fun W hb => ⟨(hb.cell (p := ⟨b, off + j * 3, none⟩) hbl).trans hc0, (hb.cell (p := ⟨b, off + j * 3 + 1, none⟩) hbl).trans hc1, (hb.cell (p := ⟨b, off + j * 3 + 2, none⟩) hbl).trans hc2⟩)
      have ks := fun W hb => KS.out W x hb
      have hz := slSize_range (vals ys) HL.out x
      obtain ⟨z, hze⟩ : ∃ z, slSize (vals ys) x = z := ⟨_, rfl⟩
      rw [hze] at ks hz
      have HSt := hidb (slFind_at (l := vals ys) (a := a) hx j)
      rw [hze] at HSt
      obtain ⟨xa, xf, xl⟩ := x
      simp only at *
      have KSX := hidb ks
      have hi0 : (0 : Int) ≤ (j : Int) := by omega
      have hi1 : (j : Int) < (m : Int) := by omega
      have hz0 := hz.1
      have HZ := hidb hz
      clear hx hc0 hc1 hc2 ks hze hz
      go_wp2
      go_loopw [10] (fun v wq => ∃ i : Nat, (i : Int) ≤ z ∧ v = .int .i64 i ∧ Hid (∀ i2 : Nat, i2 < i → xa + 2 + (i2 : Int) ≠ a) ∧ Hid (Below w.heap.size w wq)) (fun v _ => (z - intOf v).toNat)
      case atStart => exact ⟨0, by omega, rfl, hidb (fun i2 h => absurd h (Nat.not_lt_zero _)), HB⟩
      case round =>
        obtain ⟨i, hiz, rfl, HN, HBQ⟩ := hrel
        obtain ⟨q0, q1, q2⟩ := HC.out _ HBQ.out
        by_cases hil : (i : Int) < z
        · have hzz := HZ.out.2.2 (by omega)
          have hw0 : wrap64 (xa + 2) = xa + 2 := by unfold wrap64; omega
          have hw1 : wrap64 (xa + 2 + (i : Int)) = xa + 2 + (i : Int) := by have := HZ.out; unfold wrap64; omega
          by_cases heq : xa + 2 + (i : Int) = a
          · have HR : Hid (slFind (vals ys) 0 L a = some (j, i)) := hidb (by
              rw [HF.out, HSt.out, if_pos (by omega)]
              congr 2; omega)
            have heqb : (xa + 2 + (i : Int) == a) = true := by simpa using heq
            have PR : Hid (∀ W, Below w.heap.size w W → Ending.returned (.tuple #[.int .i64 (j : Int), .int .i64 (i : Int), .bool true]) = Ending.returned (findC (slFind (vals ys) 0 L a)) ∧ Below w.heap.size w W) := hidb (fun W hb => ⟨by rw [HR.out]; rfl, hb⟩)
            clear heq hzz
            --@1
            go_wp2_with (first | (go_at_call 22; (with_reducible refine (KSX.out _ HBQ.out).mono ?_); rintro e w1 ⟨rfl, hb1⟩; obtain ⟨r0, r1, r2⟩ := HC.out _ (belF_tr HBQ.out hb1)))
            exact bodyPost_ret (v := .tuple #[.int .i64 (j : Int), .int .i64 (i : Int), .bool true]) (by simp [results, Tryd.results12, go_sem]) rfl (PR.out _ (belF_tr HBQ.out hb1))
          · have heqb : (xa + 2 + (i : Int) == a) = false := by simpa using heq
            have HN2 : Hid (∀ i2 : Nat, i2 < i + 1 → xa + 2 + (i2 : Int) ≠ a) := hidb (fun i2 h => by
              by_cases e : i2 = i
              · subst e; exact heq
              · exact HN.out i2 (by omega))
            have HIL := hidb hil
            have hz9 : z ≤ 1000 := HZ.out.2.1
            clear heq hzz
            --@2
            go_wp2_with (first | (go_at_call 22; (with_reducible refine (KSX.out _ HBQ.out).mono ?_); rintro e w1 ⟨rfl, hb1⟩; obtain ⟨r0, r1, r2⟩ := HC.out _ (belF_tr HBQ.out hb1)))
            go_roundw
            case rel => exact ⟨i + 1, by have := HIL.out; omega, by go_num, HN2, hidb (belF_tr HBQ.out hb1)⟩
            case measure => have := HIL.out; simp [intOf]; omega
        · have HNX : Hid (slFind (vals ys) 0 L a = slFind (vals ys) (j + 1) (L.drop (j + 1)) a) := hidb (by
            rw [HF.out, HSt.out, if_neg]
            rintro ⟨h1, h2⟩
            exact HN.out (a - (xa + 2)).toNat (by omega) (by omega))
          --@3
          go_wp2_with (first | (go_at_call 22; (with_reducible refine (KSX.out _ HBQ.out).mono ?_); rintro e w1 ⟨rfl, hb1⟩))
          go_roundw
          case rel => exact ⟨j + 1, by omega, by go_num, HNX, hidb (belF_tr HBQ.out hb1)⟩
          case measure => simp [intOf]; omega
    · have HR : Hid (slFind (vals ys) 0 L a = none) := hidb (by rw [HF.out, List.drop_of_length_le (by rw [HS.out.len]; omega)]; rfl)
      have PR : Hid (Ending.returned (.tuple #[.int .i64 0, .int .i64 0, .bool false]) = Ending.returned (findC (slFind (vals ys) 0 L a)) ∧ Below w.heap.size w wr) := hidb ⟨by rw [HR.out]; rfl, HB.out⟩
      --@4
      go_wp2
      exact bodyPost_ret (v := .tuple #[.int .i64 0, .int .i64 0, .bool false]) (by simp [results, Tryd.results12, go_sem]) rfl PR.out
end Go.Proofs.YthjodcojhlfnfaaDoor
