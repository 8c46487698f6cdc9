/- The tightest run: what Best returns. -/
import Derived.Test.YtcngcibiibchiaaGreatRunsObj
namespace Go.Proofs.YtcngcibiibchiaaGreat
open Go.RowKit
set_option linter.unusedVariables false

/-- The cells of the result, and of the tightest so far. -/
structure BIn (w wr : World) (r : Int × Int) : Prop where
  p0 : wr.cell? ⟨w.heap.size, 0, none⟩ = some (.int .i64 0)
  p1 : wr.cell? ⟨w.heap.size, 1, none⟩ = some (.int .i64 0)
  f0 : wr.frozen? ⟨w.heap.size, 0, none⟩ = false
  f1 : wr.frozen? ⟨w.heap.size, 1, none⟩ = false
  q0 : wr.cell? ⟨w.heap.size + 1, 0, none⟩ = some (.int .i64 r.1)
  q1 : wr.cell? ⟨w.heap.size + 1, 1, none⟩ = some (.int .i64 r.2)
  g0 : wr.frozen? ⟨w.heap.size + 1, 0, none⟩ = false
  g1 : wr.frozen? ⟨w.heap.size + 1, 1, none⟩ = false
  hz : w.heap.size + 1 < wr.heap.size
theorem BIn.alloc {w wr : World} {r : Int × Int} (h : BIn w wr r) (u : Obj) : BIn w (wr.alloc u) r := by
  have hb : Below wr.heap.size wr (wr.alloc u) := (Below.refl _ _).alloc (Nat.le_refl _) u
  have kc := fun (a : Addr) (ha : a.block < wr.heap.size) => hb.cell ha
  have kf := fun (a : Addr) (ha : a.block < wr.heap.size) => hb.frozen ha
  have hz := h.hz
  have z0 : w.heap.size < wr.heap.size := by omega
  exact ⟨(kc ⟨w.heap.size, 0, none⟩ z0).trans h.p0, (kc ⟨w.heap.size, 1, none⟩ z0).trans h.p1, (kf ⟨w.heap.size, 0, none⟩ z0).trans h.f0, (kf ⟨w.heap.size, 1, none⟩ z0).trans h.f1,
    (kc ⟨w.heap.size + 1, 0, none⟩ hz).trans h.q0, (kc ⟨w.heap.size + 1, 1, none⟩ hz).trans h.q1, (kf ⟨w.heap.size + 1, 0, none⟩ hz).trans h.g0, (kf ⟨w.heap.size + 1, 1, none⟩ hz).trans h.g1, by simp; omega⟩
theorem BIn.set {w wr : World} {r : Int × Int} (h : BIn w wr r) (s l : Int) : BIn w ((wr.setCell ⟨w.heap.size + 1, 0, none⟩ (.int .i64 s)).setCell ⟨w.heap.size + 1, 1, none⟩ (.int .i64 l)) (s, l) := by
  obtain ⟨s0, s1⟩ := two_cells wr (w.heap.size + 1) (.int .i64 s) (.int .i64 l) _ _ h.q0 h.q1
  have kc : ∀ j, ((wr.setCell ⟨w.heap.size + 1, 0, none⟩ (.int .i64 s)).setCell ⟨w.heap.size + 1, 1, none⟩ (.int .i64 l)).cell? ⟨w.heap.size, j, none⟩ = wr.cell? ⟨w.heap.size, j, none⟩ := fun j => by
    rw [World.cell?_setCell_other _ _ _ _ (by simp), World.cell?_setCell_other _ _ _ _ (by simp)]
  have hz := h.hz
  exact ⟨(kc 0).trans h.p0, (kc 1).trans h.p1, by simpa [go_sem] using h.f0, by simpa [go_sem] using h.f1, s0, s1, by simpa [go_sem] using h.g0, by simpa [go_sem] using h.g1, by simpa using hz⟩

set_option maxRecDepth 100000 in
set_option maxHeartbeats 4000000 in
theorem code_rbest_of (v : Value) (A : Option Addr) (n c : Nat) (rs : List (Int × Int)) (k : Int) (w : World) (hall : ∀ W, Below w.heap.size w W → Calls Tryz.prog 64 #[v] W fun e w' => e = .returned (.slice A n c) ∧ W = w')
    (hs : Rn w w.heap.size A n rs) (hn : n ≤ 65536) (hk : in64 k) :
    Calls Tryz.prog 53 #[v, .int .i64 k] w (RunIs w (if k < 1 then none else bestOf k rs)) := by
  obtain ⟨k0, k1⟩ := hk
  by_cases hk1 : k < 1
  · rw [if_pos hk1]
    clear hall hs
    go_enter Tryz.func53, Tryz.ntmps53
    go_wp2
    refine bodyPost_ret (v := .tuple #[.agg #[.int .i64 0, .int .i64 0], .bool false]) (by simp [results, Tryz.results53, go_sem]) rfl ⟨rfl, ?_⟩
    exact (((Below.refl _ _).alloc (Nat.le_refl _) _).alloc (by simp) _)
  rw [if_neg hk1]
  have l1 : rs.length = n := hs.1
  obtain ⟨W2, hW2⟩ : ∃ W2, W2 = (w.alloc (.cells #[.int .i64 0, .int .i64 0] 41)).alloc (.cells #[.int .i64 0, .int .i64 0] 41) := ⟨_, rfl⟩
  have hz : W2.heap.size = w.heap.size + 1 + 1 := by rw [hW2]; simp
  have hb2 : Below w.heap.size w W2 := by rw [hW2]; exact ((Below.refl _ _).alloc (Nat.le_refl _) _).alloc (by simp) _
  have p0 : W2.cell? ⟨w.heap.size, 0, none⟩ = some (.int .i64 0) := by rw [hW2, World.cell?_alloc_lt _ _ ⟨w.heap.size, 0, none⟩ (by simp)]; simp
  have p1 : W2.cell? ⟨w.heap.size, 1, none⟩ = some (.int .i64 0) := by rw [hW2, World.cell?_alloc_lt _ _ ⟨w.heap.size, 1, none⟩ (by simp)]; simp
  have q0 : W2.cell? ⟨w.heap.size + 1, 0, none⟩ = some (.int .i64 0) := by rw [hW2]; exact World.cell?_alloc_at _ _ _ 0 (by simp)
  have q1 : W2.cell? ⟨w.heap.size + 1, 1, none⟩ = some (.int .i64 0) := by rw [hW2]; exact World.cell?_alloc_at _ _ _ 1 (by simp)
  have f0 : ∀ j, W2.frozen? ⟨w.heap.size, j, none⟩ = false := fun j => by rw [hW2]; simp [go_sem]
  have f1 : ∀ j, W2.frozen? ⟨w.heap.size + 1, j, none⟩ = false := fun j => by rw [hW2]; simp [go_sem]
  have ca := hall W2 hb2
  have HW2 := hidb hW2
  have HB2 := hidb hb2
  have L1 := hidb l1
  have HS := hidb hs
  have START : Hid (BIn w W2 (0, 0)) := hidb ⟨p0, p1, f0 0, f0 1, q0, q1, f1 0, f1 1, by omega⟩
  clear hW2 hb2 p0 p1 q0 q1 f0 f1 hz hall hs l1
  go_enter Tryz.func53, Tryz.ntmps53
  go_wp2_with (first | (go_at_call 64; rw [← HW2.out]; (with_reducible refine ca.mono ?_); rintro e w' ⟨rfl, rfl⟩))
  go_loopw [7, 18] (fun fd i wr => ∃ (j : Nat) (o : Option (Int × Int)), j ≤ n ∧ i = .int .i64 j ∧ fd = .bool o.isSome ∧ Hid (bestOf k (rs.take j) = o) ∧ Hid (Below w.heap.size w wr) ∧
      Hid (BIn w wr (o.getD (0, 0)))) (fun _ i _ => (n - intOf i).toNat)
  case atStart => exact ⟨0, none, by omega, rfl, rfl, hidb rfl, HB2, START⟩
  case round =>
    obtain ⟨j, o, hj, rfl, rfl, HO, HB, HC⟩ := hrel
    by_cases hlt : j < n
    · obtain ⟨b, off, s, l, rfl, hbB, hx, hc1, hc2⟩ := (HS.out.below HB.out).at_ hlt
      have HN : Hid (bestOf k (rs.take (j + 1)) = bestStep k o (s, l)) := hidb (by rw [List.take_add_one, hx, show (some (s, l)).toList = [(s, l)] from rfl, bestOf_snoc, HO.out])
      have hi0 : (0 : Int) ≤ (j : Int) := by omega
      have hi1 : (j : Int) < (n : Int) := by omega
      have ⟨p0, p1, f0, f1, q0, q1, g0, g1, hz⟩ := HC.out
      have hne : ¬ w.heap.size = wr.heap.size := by omega
      have hne1 : ¬ w.heap.size + 1 = wr.heap.size := by omega
      have SKIP : Hid (∀ u, Below w.heap.size w (wr.alloc u) ∧ BIn w (wr.alloc u) (o.getD (0, 0))) := hidb (fun u => ⟨HB.out.alloc HB.out.size u, HC.out.alloc u⟩)
      have TAKE : Hid (∀ u, Below w.heap.size w (((wr.setCell ⟨w.heap.size + 1, 0, none⟩ (.int .i64 s)).setCell ⟨w.heap.size + 1, 1, none⟩ (.int .i64 l)).alloc u) ∧ BIn w (((wr.setCell ⟨w.heap.size + 1, 0, none⟩ (.int .i64 s)).setCell ⟨w.heap.size + 1, 1, none⟩ (.int .i64 l)).alloc u) (s, l)) := hidb (fun u => ⟨((HB.out.setCell (p := ⟨w.heap.size + 1, 0, none⟩) (by show w.heap.size ≤ w.heap.size + 1; omega) _).setCell (p := ⟨w.heap.size + 1, 1, none⟩) (by show w.heap.size ≤ w.heap.size + 1; omega) _).alloc (by have := HB.out.size; simpa using this) u, (HC.out.set s l).alloc u⟩)
      clear hx
      by_cases c1 : k ≤ l
      · cases o with
        | none =>
          have E : Hid (bestStep k none (s, l) = some (s, l)) := hidb (by unfold bestStep; simp only [if_pos c1])
          go_wp2
          go_roundw
          case rel => exact ⟨j + 1, some (s, l), by omega, by go_num, rfl, hidb (by rw [HN.out, E.out]), hidb (TAKE.out _).1, hidb (TAKE.out _).2⟩
          case measure => simp [intOf]; omega
        | some y =>
          obtain ⟨ys, yl⟩ := y
          by_cases c2 : l < yl
          · have E : Hid (bestStep k (some (ys, yl)) (s, l) = some (s, l)) := hidb (by unfold bestStep; simp only [if_pos (show k ≤ l ∧ l < yl from ⟨c1, c2⟩)])
            go_wp2
            go_roundw
            case rel => exact ⟨j + 1, some (s, l), by omega, by go_num, rfl, hidb (by rw [HN.out, E.out]), hidb (TAKE.out _).1, hidb (TAKE.out _).2⟩
            case measure => simp [intOf]; omega
          · have E : Hid (bestStep k (some (ys, yl)) (s, l) = some (ys, yl)) := hidb (by unfold bestStep; simp only [if_neg (show ¬ (k ≤ l ∧ l < yl) from fun h => c2 h.2)])
            go_wp2
            go_roundw
            case rel => exact ⟨j + 1, some (ys, yl), by omega, by go_num, rfl, hidb (by rw [HN.out, E.out]), hidb (SKIP.out _).1, hidb (SKIP.out _).2⟩
            case measure => simp [intOf]; omega
      · have E : Hid (bestStep k o (s, l) = o) := hidb (by
          unfold bestStep
          cases o with
          | none => simp only [if_neg c1]
          | some y => simp only [if_neg (fun h : k ≤ l ∧ l < y.2 => c1 h.1)])
        go_wp2
        go_roundw
        case rel => exact ⟨j + 1, o, by omega, by go_num, rfl, hidb (by rw [HN.out, E.out]), hidb (SKIP.out _).1, hidb (SKIP.out _).2⟩
        case measure => simp [intOf]; omega
    · have E : Hid (bestOf k rs = o) := hidb (by rw [← HO.out, List.take_of_length_le (by rw [L1.out]; omega)])
      have ⟨p0, p1, f0, f1, q0, q1, g0, g1, hz⟩ := HC.out
      obtain ⟨s0, s1⟩ := two_cells wr w.heap.size (.int .i64 (o.getD (0, 0)).1) (.int .i64 (o.getD (0, 0)).2) _ _ p0 p1
      go_wp2
      refine bodyPost_ret (v := .tuple #[.agg #[.int .i64 (o.getD (0, 0)).1, .int .i64 (o.getD (0, 0)).2], .bool o.isSome]) (by simp [results, Tryz.results53, go_sem, s0, s1]) rfl ?_
      rw [E.out]
      exact ⟨rfl, (HB.out.setCell (p := ⟨w.heap.size, 0, none⟩) (Nat.le_refl _) _).setCell (p := ⟨w.heap.size, 1, none⟩) (Nat.le_refl _) _⟩

theorem code_rbest {w : World} {S : Nat → Prop} {p : Nat} {f : List Bool} (h : Fr w S p f) (k : Int) (hk : in64 k) :
    Calls Tryz.prog 53 #[.pointer (some ⟨p, 0, none⟩), .int .i64 k] w (RunIs w (fBest f k)) := by
  obtain ⟨A, n, c, ha, hn, hall⟩ := h.all_
  rw [fBest_is f (by have := ha.flen; omega)]
  exact code_rbest_of _ A n c (fList f) k w hall ha.rn (by omega) hk
theorem code_rbest_nil (w : World) (k : Int) (hk : in64 k) : Calls Tryz.prog 53 #[.pointer none, .int .i64 k] w (RunIs w none) := by
  have := code_rbest_of (.pointer none) none 0 0 [] k w (fun W _ => code_all_nil W) Rn.nil_ (by omega) hk
  rwa [show (if k < 1 then none else bestOf k []) = (none : Option (Int × Int)) by split <;> rfl] at this

end Go.Proofs.YtcngcibiibchiaaGreat
