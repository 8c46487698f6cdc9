/- What write of layer 5 (index) does. -/
import Derived.Test.YtoghahldlnhpdaaIndexCode
import Derived.RegionTactic
import Derived.ChangeAlike
namespace Go.Proofs.Ytoghahldlnhpdaa
open Go.RowKit
set_option linter.unusedVariables false

/-- The numbers are written. -/
def Wrote (w : World) (B p g n : Nat) (ids : List Int) (e : Ending) (w' : World) : Prop := e = .returned (.tuple #[]) ∧ Ix w' B p g n ids ∧ w.grownBy w' (some g)

theorem Ix.drew {w : World} {B p g n : Nat} {ids : List Int} (h : Ix w B p g n ids) : Ix w.drew B p g n ids := ⟨h.cell, h.heap, h.hlen, h.ge, h.geg, h.ne, h.small⟩

/-- A row of runs that isn't the one that is written. -/
theorem Rn.grown {w w' : World} {g m : Nat} {A : Option Addr} {rs : List (Int × Int)} (h : Rn w w.heap.size A m rs) (hap : ∀ b off, 0 < m → A = some ⟨b, off, none⟩ → b ≠ g) (hg : w.grownBy w' (some g)) : Rn w' w'.heap.size A m rs :=
  ⟨h.1, fun hn => by
    obtain ⟨b, off, e, hb, hc⟩ := h.2 hn
    have hne := hap b off hn e
    refine ⟨b, off, e, Nat.lt_of_lt_of_le hb hg.size, fun j r hj => ?_⟩
    obtain ⟨h1, h2⟩ := hc j r hj
    exact ⟨hg.cell h1 (fun e => hne (by injection e)), hg.cell h2 (fun e => hne (by injection e))⟩⟩

set_option maxHeartbeats 1000000 in
theorem code_xwrite {p g n B : Nat} {ids : List Int} (id : Int) (A : Option Addr) (m c : Nat) (rs : List (Int × Int)) (w : World) (hx : Ix w B p g n ids) (hap : ∀ b off, 0 < m → A = some ⟨b, off, none⟩ → b ≠ g)
    (hs : Rn w w.heap.size A m rs) (hm : m ≤ 65536) (hT : rs.all (xThere n) = true) :
    Calls Try.prog 25 #[.pointer (some ⟨p, 0, none⟩), .int .i64 id, .slice A m c] w (Wrote w B p g n (writeAll ids id (pgs rs))) := by
  have HS := hidb hs
  have HL := hidb hs.1
  have HT := hidb hT
  have HX := hidb hx
  have HAP := hidb hap
  have hne := hx.ne
  have hn := hx.small
  clear hs hT hx hap
  go_enter Try.func25, Try.ntmps25
  go_wp2
  go_loopw [11] (fun k wr => ∃ j : Nat, j ≤ m ∧ k = .int .i64 j ∧ Hid (Ix wr B p g n (writeAll ids id (pgs (rs.take j)))) ∧ Hid (w.grownBy wr (some g))) (fun k _ => (m - intOf k).toNat)
  case atStart => exact ⟨0, by omega, rfl, HX, hidb (grown_refl _)⟩
  case round =>
    obtain ⟨j, hj, rfl, HI, HG⟩ := hrel
    by_cases hlt : j < m
    · obtain ⟨b, off, s, l, rfl, _, hx, hc1, hc2⟩ := (HS.out.grown HAP.out HG.out).at_ hlt
      obtain ⟨t1, t2, t3, t4, t5⟩ := of_decide_eq_true (List.all_eq_true.1 HT.out (s, l) (List.mem_of_getElem? hx))
      simp only at t1 t2 t3 t4 t5
      obtain ⟨S, rfl⟩ : ∃ S : Nat, s = S := ⟨s.toNat, by omega⟩
      obtain ⟨L, rfl⟩ : ∃ L : Nat, l = L := ⟨l.toNat, by omega⟩
      have HTK : Hid (∀ i, pgs (rs.take j) ++ (List.range i).map (S + ·) ++ [S + i] = pgs (rs.take j) ++ (List.range (i + 1)).map (S + ·)) := hidb (fun i => by rw [List.range_succ, List.map_append, List.append_assoc]; rfl)
      have HTJ : Hid (pgs (rs.take j) ++ (List.range L).map (S + ·) = pgs (rs.take (j + 1))) := hidb (by
        rw [List.take_add_one, hx]
        show _ = pgs (rs.take j ++ [((S : Int), (L : Int))])
        rw [pgs_snoc]; rfl)
      have hj0 : (0 : Int) ≤ (j : Int) := by omega
      have hj1 : (j : Int) < (m : Int) := by omega
      have hlg := HI.out.lt
      have hlp := HI.out.ltp
      have HI2 : Hid (Ix (wr.alloc (.cells #[.int .i64 (S : Int), .int .i64 (L : Int)] 44)) B p g n (writeAll ids id (pgs (rs.take j)))) := hidb (HI.out.alloc _)
      have HG2 : Hid (w.grownBy (wr.alloc (.cells #[.int .i64 (S : Int), .int .i64 (L : Int)] 44)) (some g)) := hidb (grown_alloc HG.out _)
      clear hx
      obtain ⟨wo, rfl⟩ : ∃ wo : World, wo = wr := ⟨_, rfl⟩
      go_wp2
      go_loopw [17] (fun k wr => ∃ i : Nat, i ≤ L ∧ k = .int .i64 i ∧ Hid (Ix wr B p g n (writeAll ids id (pgs (rs.take j) ++ (List.range i).map (S + ·)))) ∧ Hid (w.grownBy wr (some g)) ∧ wr.cell? ⟨wo.heap.size, 0, none⟩ = some (.int .i64 S)) (fun k _ => (L - intOf k).toNat)
      case atStart => exact ⟨0, by omega, rfl, by simpa using HI2, HG2, by simp⟩
      case round =>
        obtain ⟨i, hi, rfl, HI3, HG3, hcs⟩ := hrel
        by_cases hil : i < L
        · have hcp := HI3.out.cell
          have hf := HI3.out.free (S + i)
          have hcg := HI3.out.int_ (j := S + i) (by omega)
          obtain ⟨y, hy⟩ : ∃ y, (writeAll ids id (pgs (rs.take j) ++ (List.range i).map (S + ·))).getD (S + i) 0 = y := ⟨_, rfl⟩
          rw [hy] at hcg
          have hso0 : (0 : Int) ≤ (S : Int) + (i : Int) := by omega
          have hso1 : (S : Int) + (i : Int) < (n : Int) := by omega
          have hbn : ((S : Int) + (i : Int)).toNat = S + i := by omega
          have HI4 : Hid (Ix ((wr.setCell ⟨g, S + i, none⟩ (.int .i64 id)).drew) B p g n (writeAll ids id (pgs (rs.take j) ++ (List.range (i + 1)).map (S + ·)))) := hidb (by
            rw [← HTK.out, writeAll_snoc]; exact (HI3.out.set (S + i) id).drew)
          have HG4 : Hid (w.grownBy ((wr.setCell ⟨g, S + i, none⟩ (.int .i64 id)).drew) (some g)) := hidb (grown_draw (grown_row HG3.out (S + i) _))
          have HC4 : Hid (((wr.setCell ⟨g, S + i, none⟩ (.int .i64 id)).drew).cell? ⟨wo.heap.size, 0, none⟩ = some (.int .i64 S)) := hidb (by
            show (wr.setCell _ _).cell? _ = _
            rw [World.cell?_setCell_other _ _ _ _ (fun e => by injection e with e1; omega)]; exact hcs)
          clear hy
          go_wp2
          go_region
          go_wp2
          go_roundw
          case rel => exact ⟨i + 1, by omega, by go_num, HI4, HG4, HC4.out⟩
          case measure => simp [intOf]; omega
        · have hiL : Hid (i = L) := hidb (by omega)
          have HI5 : Hid (Ix wr B p g n (writeAll ids id (pgs (rs.take (j + 1))))) := hidb (by rw [← HTJ.out, ← hiL.out]; exact HI3.out)
          go_wp2
          go_roundw
          case rel => exact ⟨j + 1, by omega, by go_num, HI5, HG3⟩
          case measure => simp [intOf]; omega
    · have hall : Hid (rs.take j = rs) := hidb (List.take_of_length_le (by have := HL.out; omega))
      have P : Hid (Wrote w B p g n (writeAll ids id (pgs rs)) (.returned (.tuple #[])) wr) := hidb ⟨rfl, by have := HI.out; rwa [hall.out] at this, HG.out⟩
      go_wp2
      exact bodyPost_ret (v := .tuple #[]) (by simp [results, Try.results25, go_sem]) rfl P.out

end Go.Proofs.Ytoghahldlnhpdaa
