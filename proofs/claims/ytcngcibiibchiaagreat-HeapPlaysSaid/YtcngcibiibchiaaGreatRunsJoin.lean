/- Runs that touch are joined: what the code makes of rising runs that share no page. -/
import Derived.Test.YtcngcibiibchiaaGreatRunsClone
import Derived.Laws.NewBlocks
namespace Go.Proofs.YtcngcibiibchiaaGreat
open Go.RowKit Go.Shelf
set_option linter.unusedVariables false

theorem rcells_last (init : List (Int × Int)) (y : Int × Int) (v : Int) : (rcells (init ++ [y])).set (init.length * 2 + 1) (iv v) = rcells (init ++ [(y.1, v)]) := by
  rw [rcells_append, rcells_append, List.set_append_right _ _ (by rw [rcells_length]; omega), rcells_length]
  rw [show init.length * 2 + 1 - init.length * 2 = 1 by omega]; rfl

set_option maxRecDepth 100000 in
set_option maxHeartbeats 4000000 in
theorem code_joined (A : Option Addr) (n c : Nat) (rs : List (Int × Int)) (w : World) (hs : Rn w w.heap.size A n rs) (hn : n ≤ 65536) (hm : ∀ r ∈ rs, 0 ≤ r.1 ∧ 1 ≤ r.2 ∧ r.1 + r.2 ≤ 1024) (hp : rs.Pairwise fun a b => a.1 + a.2 ≤ b.1) :
    Calls Tryz.prog 52 #[.slice A n c] w (OwnRuns w (joinedL rs)) := by
  obtain ⟨i0, hi, hz0, hz1, hz2⟩ := info_parts info_run
  have l1 : rs.length = n := hs.1
  have L1 := hidb l1
  have HS := hidb hs
  have HM := hidb hm
  have HI : Hid (∀ k, JoinInv ((rs.take k).foldl joinOn []) (rs.take k)) := hidb (fun k => joined_inv (l := rs.take k) (fun r hr => hm r (List.mem_of_mem_take hr)) (hp.sublist (List.take_sublist _ _)))
  have HLE : Hid (∀ k, ((rs.take k).foldl joinOn []).length ≤ 65536) := hidb (fun k => by
    have key : ∀ l acc : List (Int × Int), (l.foldl joinOn acc).length ≤ acc.length + l.length := fun l => by
      induction l with
      | nil => intro acc; simp
      | cons x l ih =>
        intro acc
        have h1 := ih (joinOn acc x)
        have h2 : (joinOn acc x).length ≤ acc.length + 1 := by
          unfold joinOn
          split
          · split
            · simp
            · simp
          · simp
        simp only [List.foldl_cons, List.length_cons]
        omega
    have := key (rs.take k) []
    rw [List.length_take, List.length_nil] at this
    omega)
  clear hs hm hp l1
  go_enter Tryz.func52, Tryz.ntmps52
  go_wp2
  go_loopw [3, 9] (fun v k wr => ∃ (j : Nat) (acc : List (Int × Int)) (A' : Option Addr) (c' : Nat), j ≤ n ∧ k = .int .i64 (j : Int) ∧ v = .slice A' acc.length c' ∧ Hid ((rs.take j).foldl joinOn [] = acc) ∧ Hid (wr.ownsRow w.heap.size 41 2 (.slice A' acc.length c') acc.length (rcells acc)) ∧ Hid (Below w.heap.size w wr)) (fun _ k _ => (n - intOf k).toNat)
  case atStart => exact ⟨0, [], none, 0, by omega, rfl, rfl, hidb rfl, hidb (World.ownsRow_nil _ _ _ _), hidb (Below.refl _ _)⟩
  case round =>
    obtain ⟨j, acc, A', c', hj, rfl, rfl, HA, HO, HB⟩ := hrel
    by_cases hlt : j < n
    · obtain ⟨b, off, s, l, rfl, hbB, hx, hc1, hc2⟩ := (HS.out.below HB.out).at_ hlt
      have hxm := HM.out (s, l) (List.mem_of_getElem? hx)
      simp only at hxm
      have HNX : Hid ((rs.take (j + 1)).foldl joinOn [] = joinOn acc (s, l)) := hidb (by
        rw [List.take_add_one, hx, List.foldl_append, HA.out]; rfl)
      have hi0 : (0 : Int) ≤ (j : Int) := by omega
      have hi1 : (j : Int) < (n : Int) := by omega
      have hsz := HB.out.size
      have hacl : acc.length ≤ 65536 := by have := HLE.out j; rw [HA.out] at this; exact this
      clear hx
      have HBW : Hid (∀ (o1 o2 : Obj) q W5, (((wr.alloc o1).alloc o2).drewN q).grownBy W5 (Value.slice A' acc.length c').ownBlock → Below w.heap.size w W5) := hidb (fun o1 o2 q W5 hg =>
        (belowN ((HB.out.alloc hsz o1).alloc (by simp; omega) o2) q).grown hg (by show w.heap.size ≤ ((wr.heap.push o1).push o2).size; simp; omega) (fun k hk => (HO.out.lt k hk).1))
      have HNW : Hid (∀ b q, b = wr.heap.size + 1 → CellsAt (((wr.alloc (.cells #[.int .i64 s, .int .i64 l] 41)).alloc (.cells #[.int .i64 s, .int .i64 l] 41)).drewN q) (some ⟨b, 0, none⟩) [iv s, iv l]) := hidb (fun b q e => cells_new' (wr.alloc _) [iv s, iv l] _ b (by simpa using e))
      have hone : Hid (∀ u ∈ [iv s, iv l], u.oneCell' = true) := hidb (rcells_one [(s, l)])
      cases he : acc.getLast? with
      | none =>
        obtain rfl : acc = [] := List.getLast?_eq_none_iff.1 he
        have hdd : decide ((0 : Int) ≤ -1) = false := by decide
        clear he
        go_wp2
        go_quiet (fail)
        go_wp2_with (first | (at_builtin; refine wpList_append_row _ rfl (.tmp 38) (.tmp 40) 54 rfl w.heap.size 41 i0 (.agg #[.int .i64 0, .int .i64 0]) 2 16 Tryz.underlying54 hi hz0 hz1 hz2 rfl (by decide) _ 0 [] rfl (by exact (HO.out.alloc _).alloc _) (by show w.heap.size ≤ ((wr.heap.push _).push _).size; simp; omega) _ 1 1 [iv s, iv l] rfl rfl (fun h => by cases h) (by exact HNW.out _ _ rfl) hone.out (by unfold maxLen; omega) (by omega) ?_; intro A5 c5 w5 hown5 hg5))
        have HO5 : Hid (w5.ownsRow w.heap.size 41 2 (.slice A5 [(s, l)].length c5) [(s, l)].length (rcells [(s, l)])) := hidb hown5
        have HB5 := hidb (HBW.out _ _ _ _ hg5)
        clear hown5 hg5
        go_roundw
        case rel => exact ⟨j + 1, [(s, l)], A5, c5, by omega, by go_num, rfl, HNX, HO5, HB5⟩
        case measure => simp [intOf]; omega
      | some y =>
        obtain ⟨init, hacc⟩ := List.getLast?_eq_some_iff.1 he
        obtain ⟨m, hm⟩ : ∃ m, init.length = m := ⟨_, rfl⟩
        have hlen : acc.length = m + 1 := by rw [hacc, List.length_append, hm]; rfl
        rw [hlen] at HO HBW hacl ⊢
        obtain ⟨g, rfl, hgb, hglt⟩ : ∃ g, A' = some ⟨g, 0, none⟩ ∧ w.heap.size ≤ g ∧ g < wr.heap.size := by
          rcases HO.out.2 with ⟨_, h0⟩ | ⟨g, cap, cur, h1, h2, h3, h4, _⟩
          · omega
          · injection h1 with e1 e2 e3
            exact ⟨g, e1, h2, (Array.getElem?_eq_some_iff.1 h3).1⟩
        obtain ⟨ys, yl⟩ := y
        have hym := (HI.out j).may (ys, yl) (by rw [HA.out, hacc]; simp)
        simp only at hym
        have hyat := rcells_at acc m (ys, yl) (by rw [hacc, ← hm]; simp)
        have hy0 : wr.cell? ⟨g, m * 2, none⟩ = some (.int .i64 ys) := by rw [HO.out.cellAt (m * 2) (by omega)]; exact hyat.1
        have hy1 : wr.cell? ⟨g, m * 2 + 1, none⟩ = some (.int .i64 yl) := by rw [HO.out.cellAt (m * 2 + 1) (by omega)]; exact hyat.2
        have HJ : Hid (joinOn acc (s, l) = if ys + yl = s then init ++ [(ys, yl + l)] else acc ++ [(s, l)]) := hidb (by
          unfold joinOn
          rw [he]
          simp only [hacc, List.dropLast_concat])
        have HACC := hidb hacc
        have HM2 := hidb hm
        have HLEN := hidb hlen
        obtain ⟨W1, hW1⟩ : ∃ W1, W1 = wr.alloc (.cells #[.int .i64 s, .int .i64 l] 41) := ⟨_, rfl⟩
        have hz : W1.heap.size = wr.heap.size + 1 := by rw [hW1]; simp
        have HW1 := hidb hW1
        have q0 : W1.cell? ⟨g, m * 2, none⟩ = some (.int .i64 ys) := by rw [hW1, World.cell?_alloc_lt _ _ ⟨g, _, none⟩ hglt]; exact hy0
        have q1 : W1.cell? ⟨g, m * 2 + 1, none⟩ = some (.int .i64 yl) := by rw [hW1, World.cell?_alloc_lt _ _ ⟨g, _, none⟩ hglt]; exact hy1
        have q2 : W1.cell? ⟨wr.heap.size, 0, none⟩ = some (.int .i64 s) := by rw [hW1]; simp
        have q3 : W1.cell? ⟨wr.heap.size, 1, none⟩ = some (.int .i64 l) := by rw [hW1]; simp
        have HQ : Hid (∀ W', Below W1.heap.size W1 W' → W'.cell? ⟨g, m * 2, none⟩ = some (.int .i64 ys) ∧ W'.cell? ⟨g, m * 2 + 1, none⟩ = some (.int .i64 yl) ∧ W'.cell? ⟨wr.heap.size, 0, none⟩ = some (.int .i64 s) ∧ W'.cell? ⟨wr.heap.size, 1, none⟩ = some (.int .i64 l)) := hidb (fun W' hb => by
          have k := fun (p : Addr) (hp : p.block < W1.heap.size) => hb.cell hp
          rw [k ⟨g, _, none⟩ (by show g < _; omega), k ⟨g, _, none⟩ (by show g < _; omega), k ⟨wr.heap.size, 0, none⟩ (by show wr.heap.size < _; omega), k ⟨wr.heap.size, 1, none⟩ (by show wr.heap.size < _; omega)]
          exact ⟨q0, q1, q2, q3⟩)
        have cy := fun W => code_end ys yl W (by omega) (by omega)
        have hge : decide ((0 : Int) ≤ (m : Int)) = true := decide_eq_true (by omega)
        have hm0 : (0 : Int) ≤ (m : Int) := by omega
        have hm1 : (m : Int) < (m : Int) + 1 := by omega
        have hza : wr.heap.size < W1.heap.size := by omega
        have hzb : g < W1.heap.size := by omega
        have hgw : ¬ g = wr.heap.size := by omega
        have HZ := hidb hz
        clear hacc hm hlen hyat he hW1 hz hy0 hy1
        by_cases heq : ys + yl = s
        · have heb : (ys + yl == s) = true := by simpa using heq
          have E : Hid (joinOn acc (s, l) = init ++ [(ys, yl + l)]) := hidb (by rw [HJ.out, if_pos heq])
          have HEQ := hidb heq
          clear heq
          go_wp2
          rw [← HW1.out]
          go_region_held3 (fun W' => W'.cell? ⟨g, m * 2, none⟩ = some (.int .i64 ys) ∧ W'.cell? ⟨g, m * 2 + 1, none⟩ = some (.int .i64 yl) ∧ W'.cell? ⟨wr.heap.size, 0, none⟩ = some (.int .i64 s) ∧ W'.cell? ⟨wr.heap.size, 1, none⟩ = some (.int .i64 l))
            (first | (go_keep; done) | (refine HQ.out _ ?_; repeat (first | apply Below.drew | exact Below.refl _ _ | refine Below.setCell ?_ (by first | (simp; done) | (simp; omega)) _ | refine Below.alloc ?_ (by first | (simp; done) | (simp; omega)) _)))
            (first | (go_at_call 72; ((with_reducible refine (cy _).mono ?_); rintro e w3 ⟨rfl, rfl⟩)))
          have hwr : IntKind.i64.wrap (yl + l) = yl + l := IntWalk.i64_in _ (by omega)
          have HEND : Hid (∀ W', Below W1.heap.size W1 W' → Hid ((W'.setCell ⟨g, m * 2 + 1, none⟩ (.int .i64 (yl + l))).ownsRow w.heap.size 41 2 (.slice (some ⟨g, 0, none⟩) (init ++ [(ys, yl + l)]).length c') (init ++ [(ys, yl + l)]).length (rcells (init ++ [(ys, yl + l)]))) ∧ Hid (Below w.heap.size w (W'.setCell ⟨g, m * 2 + 1, none⟩ (.int .i64 (yl + l))))) := hidb (fun W' hb => by
            have hzz := HZ.out
            have ho1 : W'.ownsRow w.heap.size 41 2 (.slice (some ⟨g, 0, none⟩) (m + 1) c') (m + 1) (rcells acc) := by
              have h0 := HO.out.alloc (.cells #[.int .i64 s, .int .i64 l] 41)
              rw [← HW1.out] at h0
              exact h0.kept (grownBelow hb none) (Or.inr (by simp [Value.ownBlock]))
            have hB1 : Below w.heap.size w W' := by
              have h1 : Below w.heap.size w W1 := by rw [HW1.out]; exact HB.out.alloc hsz _
              exact h1.trans (hb.mono (by omega))
            refine ⟨?_, hB1.setCell hgb _⟩
            have h := (ho1.stored (m * 2 + 1) (.int .i64 (yl + l))).1
            have hl2 : (init ++ [(ys, yl + l)]).length = m + 1 := by rw [List.length_append, HM2.out]; rfl
            show World.ownsRow _ _ _ _ _ _ _
            rw [hl2]
            have e2 : (rcells acc).set (m * 2 + 1) (.int .i64 (yl + l)) = rcells (init ++ [(ys, yl + l)]) := by
              rw [HACC.out, ← HM2.out]; exact rcells_last init (ys, yl) (yl + l)
            rw [← e2]
            exact h)
          have hl2 : Hid ((init ++ [(ys, yl + l)]).length = m + 1) := hidb (by rw [List.length_append, HM2.out]; rfl)
          have fz : W1.frozen? ⟨g, m * 2 + 1, none⟩ = false := by
            have h0 := (HO.out.alloc (.cells #[.int .i64 s, .int .i64 l] 41)).frozenAt (m * 2 + 1)
            rw [← HW1.out] at h0
            exact h0
          go_wp2
          go_region
          go_wp2
          have HO6 : Hid ((((W1.setCell ⟨g, m * 2 + 1, none⟩ (.int .i64 (yl + l))).alloc (.cells #[.int .i64 ys, .int .i64 yl] 41)).drew.drew).ownsRow w.heap.size 41 2 (.slice (some ⟨g, 0, none⟩) (init ++ [(ys, yl + l)]).length c') (init ++ [(ys, yl + l)]).length (rcells (init ++ [(ys, yl + l)]))) := hidb ((HEND.out W1 (Below.refl _ _)).1.out.alloc _)
          have HB6 : Hid (Below w.heap.size w (((W1.setCell ⟨g, m * 2 + 1, none⟩ (.int .i64 (yl + l))).alloc (.cells #[.int .i64 ys, .int .i64 yl] 41)).drew.drew)) := hidb ((((HEND.out W1 (Below.refl _ _)).2.out.alloc (by have := HZ.out; simp; omega) _).drew).drew)
          go_roundw
          case rel => exact ⟨j + 1, init ++ [(ys, yl + l)], some ⟨g, 0, none⟩, c', by omega, by go_num, by rw [hl2.out], hidb (by rw [HNX.out, E.out]), HO6, HB6⟩
          case measure => simp [intOf]; omega
        · have heb : (ys + yl == s) = false := by simpa using heq
          have E : Hid (joinOn acc (s, l) = acc ++ [(s, l)]) := hidb (by rw [HJ.out, if_neg heq])
          have HLN : Hid ((acc ++ [(s, l)]).length = m + 1 + 1) := hidb (by rw [List.length_append, HLEN.out]; rfl)
          have HRC : Hid (rcells (acc ++ [(s, l)]) = rcells acc ++ [iv s, iv l]) := hidb (by rw [rcells_append]; rfl)
          clear heq
          go_wp2
          rw [← HW1.out]
          go_region_held3 (fun W' => W'.cell? ⟨g, m * 2, none⟩ = some (.int .i64 ys) ∧ W'.cell? ⟨g, m * 2 + 1, none⟩ = some (.int .i64 yl) ∧ W'.cell? ⟨wr.heap.size, 0, none⟩ = some (.int .i64 s) ∧ W'.cell? ⟨wr.heap.size, 1, none⟩ = some (.int .i64 l))
            (first | (go_keep; done) | (refine HQ.out _ ?_; repeat (first | apply Below.drew | exact Below.refl _ _ | refine Below.setCell ?_ (by first | (simp; done) | (simp; omega)) _ | refine Below.alloc ?_ (by first | (simp; done) | (simp; omega)) _)))
            (first | (go_at_call 72; ((with_reducible refine (cy _).mono ?_); rintro e w3 ⟨rfl, rfl⟩)))
          have HOA : Hid (∀ o1 o2, (((W1.alloc o1).alloc o2).drew).ownsRow w.heap.size 41 2 (.slice (some ⟨g, 0, none⟩) (m + 1) c') (m + 1) (rcells acc)) := hidb (fun o1 o2 => by
            have h0 := HO.out.alloc (.cells #[.int .i64 s, .int .i64 l] 41)
            rw [← HW1.out] at h0
            exact (h0.alloc o1).alloc o2)
          have HBA : Hid (∀ o1 o2 W5, (((W1.alloc o1).alloc o2).drew).grownBy W5 (Value.slice (some ⟨g, 0, none⟩) (m + 1) c').ownBlock → Below w.heap.size w W5) := hidb (fun o1 o2 W5 hg => by
            have hzz := HZ.out
            have h1 : Below w.heap.size w W1 := by rw [HW1.out]; exact HB.out.alloc hsz _
            exact ((h1.alloc (by omega) o1).alloc (by simp; omega) o2).drew.grown hg (by show w.heap.size ≤ ((W1.heap.push o1).push o2).size; simp; omega) (fun k hk => by cases hk; exact hgb))
          have HNB : Hid (∀ o1 b, b = W1.heap.size + 1 → CellsAt (((W1.alloc o1).alloc (.cells #[.int .i64 s, .int .i64 l] 41)).drew) (some ⟨b, 0, none⟩) [iv s, iv l]) := hidb (fun o1 b e => cells_new' (W1.alloc o1) [iv s, iv l] _ b (by simpa using e))
          have hbs : Hid (∀ o1 o2, w.heap.size ≤ (((W1.alloc o1).alloc o2).drew).heap.size) := hidb (fun o1 o2 => by have := HZ.out; show w.heap.size ≤ ((W1.heap.push o1).push o2).size; simp; omega)
          go_wp2_with (first | (at_builtin; refine wpList_append_row _ rfl (.tmp 38) (.tmp 40) 54 rfl w.heap.size 41 i0 (.agg #[.int .i64 0, .int .i64 0]) 2 16 Tryz.underlying54 hi hz0 hz1 hz2 rfl (by decide) _ (m + 1) (rcells acc) rfl (by exact HOA.out _ _) (by exact hbs.out _ _) _ 1 1 [iv s, iv l] rfl rfl (fun h => by cases h) (by exact HNB.out _ _ rfl) hone.out (by unfold maxLen; omega) (by omega) ?_; intro A5 c5 w5 hown5 hg5))
          have HO5 : Hid (w5.ownsRow w.heap.size 41 2 (.slice A5 (acc ++ [(s, l)]).length c5) (acc ++ [(s, l)]).length (rcells (acc ++ [(s, l)]))) := hidb (by rw [HLN.out, HRC.out]; exact hown5)
          have HB5 := hidb (HBA.out _ _ _ hg5)
          clear hown5 hg5
          go_roundw
          case rel => exact ⟨j + 1, acc ++ [(s, l)], A5, c5, by omega, by go_num, by rw [HLN.out], hidb (by rw [HNX.out, E.out]), HO5, HB5⟩
          case measure => simp [intOf]; omega
    · have E : Hid (joinedL rs = acc) := hidb (by
        rw [← HA.out, List.take_of_length_le (by rw [L1.out]; omega)]; rfl)
      go_wp2
      go_ret
      rw [E.out]
      exact ⟨A', c', rfl, HO.out, HB.out⟩

end Go.Proofs.YtcngcibiibchiaaGreat
