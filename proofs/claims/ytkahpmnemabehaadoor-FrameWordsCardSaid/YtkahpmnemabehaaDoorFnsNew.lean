/- What New of layer 13 (fns) returns: a table, in blocks of its own. -/
import Derived.Test.YtkahpmnemabehaaDoorFnsCode2
import Derived.Test.YtkahpmnemabehaaDoorAppendAt
namespace Go.Proofs.YtkahpmnemabehaaDoor
open Go.RowKit
set_option linter.unusedVariables false

theorem info_entry : (Tryd.prog.info? 69).map (fun i => (i.zero, i.size, i.bytes)) = some (some (.agg #[.int .i64 0, .slice none 0 0]), 2, 32) := by kernel_rfl
/-- A row's block, and of which type it is. -/
theorem own_type {w : World} {base n s : Nat} {e : TypeId} {v : Value} {xs : List Value} (h : w.ownsRow base e s v n xs) : ∀ k, v.ownBlock = some k → ∃ cur, w.heap[k]? = some (.cells cur e (0, 0)) := fun k hk => by
  rcases h.2 with ⟨h0, _⟩ | ⟨g, cap, cur, e1, e2, e3, e4⟩
  · rw [h0] at hk; cases hk
  · rw [e1] at hk
    injection hk with hk
    subst hk
    exact ⟨cur, e3⟩
theorem own_grown {w w' : World} {base n s : Nat} {e : TypeId} {v : Value} {xs : List Value} {r : Option Nat} (h : w.ownsRow base e s v n xs) (hg : w.grownBy w' r) (hr : ∀ k, r = some k → v.ownBlock ≠ some k) : w'.ownsRow base e s v n xs :=
  own_same h fun k hk => hg.block k (h.lt k hk).2 (fun c => hr k c.symm hk)
/-- A table that is made: its block, its row, its functions' bitmaps. -/
structure NewF (w wr : World) (p : Nat) (v : Value) (ys : List FnV) : Prop where
  bel : Below w.heap.size w wr
  tab : wr.heap[p]? = some (.cells #[v] 66 (0, 0))
  low : w.heap.size ≤ p
  own : wr.ownsRow w.heap.size 69 2 v ys.length (cellsAll fcells ys)
  fns : ∀ y ∈ ys, wr.ownsRow w.heap.size 49 1 (.slice y.A y.n y.c) y.n (y.ws.map wv) ∧ Wd y.ws ∧ in64 y.sz
section
variable {w wr X w6 : World} {p : Nat} {v : Value} {ys : List FnV} {y : FnV}
theorem NewF.below (h : NewF w wr p v ys) (hb : Below wr.heap.size wr X) : NewF w X p v ys :=
  ⟨h.bel.trans (hb.mono h.bel.size), (hb.block p (Array.getElem?_eq_some_iff.1 h.tab).1).trans h.tab, h.low, own_same h.own fun k hk => hb.block k (h.own.lt k hk).2, fun y hy => ⟨own_same (h.fns y hy).1 fun k hk => hb.block k ((h.fns y hy).1.lt k hk).2, (h.fns y hy).2⟩⟩
theorem NewF.cell (h : NewF w wr p v ys) : wr.cell? ⟨p, 0, none⟩ = some v := by
  have := h.tab
  simp [World.cell?, this]
theorem NewF.free (h : NewF w wr p v ys) : wr.frozen? ⟨p, 0, none⟩ = false := by
  have := h.tab
  simp [World.frozen?, this]
theorem NewF.apart (h : NewF w X p v ys) : some p ≠ v.ownBlock := fun e => by
  obtain ⟨cur, hc⟩ := own_type h.own p e.symm
  rw [h.tab] at hc
  injection hc with hc
  injection hc with _ hc _
  revert hc; decide
theorem NewF.aside (h : NewF w X p v ys) {base n s : Nat} {u : Value} {xs : List Value} (hu : X.ownsRow base 49 s u n xs) : ∀ k, v.ownBlock = some k → u.ownBlock ≠ some k := fun k hk e => by
  obtain ⟨c1, h1⟩ := own_type h.own k hk
  obtain ⟨c2, h2⟩ := own_type hu k e
  rw [h1] at h2
  injection h2 with h2
  injection h2 with _ h2 _
  revert h2; decide
theorem NewF.asideP (h : NewF w X p v ys) {base n s : Nat} {u : Value} {xs : List Value} (hu : X.ownsRow base 49 s u n xs) : u.ownBlock ≠ some p := fun e => by
  obtain ⟨c2, h2⟩ := own_type hu p e
  rw [h.tab] at h2
  injection h2 with h2
  injection h2 with _ h2 _
  revert h2; decide
theorem NewF.push (h : NewF w X p v ys) {A6 : Option Addr} {c6 : Nat} (hy : X.ownsRow w.heap.size 49 1 (.slice y.A y.n y.c) y.n (y.ws.map wv) ∧ Wd y.ws ∧ in64 y.sz)
    (ho : w6.ownsRow w.heap.size 69 2 (.slice A6 (ys.length + 1) c6) (ys.length + 1) (cellsAll fcells ys ++ fcells y)) (hg : X.grownBy w6 v.ownBlock) :
    (w6.cell? ⟨p, 0, none⟩ = some v ∧ w6.frozen? ⟨p, 0, none⟩ = false) ∧ NewF w (w6.setCell ⟨p, 0, none⟩ (.slice A6 (ys.length + 1) c6)) p (.slice A6 (ys.length + 1) c6) (ys ++ [y]) := by
  have hp : p < X.heap.size := (Array.getElem?_eq_some_iff.1 h.tab).1
  have t6 : w6.heap[p]? = some (.cells #[v] 66 (0, 0)) := (hg.block p hp h.apart).trans h.tab
  refine ⟨⟨by simp [World.cell?, t6], by simp [World.frozen?, t6]⟩, ?_, one_setCell t6, h.low, ?_, ?_⟩
  · refine Below.setCell ?_ h.low _
    exact h.bel.grown hg h.bel.size (fun k hk => (h.own.lt k hk).1)
  · have ho' : w6.ownsRow w.heap.size 69 2 (.slice A6 (ys.length + 1) c6) (ys ++ [y]).length (cellsAll fcells (ys ++ [y])) := by
      rw [List.length_append, cellsAll_append, cellsAll_one]; exact ho
    refine own_same ho' fun k hk => Below.heap_setCell _ _ _ _ ?_
    intro e
    obtain ⟨cur, hc⟩ := own_type ho k hk
    have e : k = p := e
    subst e
    rw [t6] at hc
    injection hc with hc
    injection hc with _ hc _
    revert hc; decide
  · intro z hz
    have hz' : X.ownsRow w.heap.size 49 1 (.slice z.A z.n z.c) z.n (z.ws.map wv) ∧ Wd z.ws ∧ in64 z.sz := by
      rcases List.mem_append.1 hz with hz | hz
      · exact h.fns z hz
      · rw [List.mem_singleton.1 hz]; exact hy
    refine ⟨own_same (own_grown hz'.1 hg (h.aside hz'.1)) fun k hk => Below.heap_setCell _ _ _ _ (fun e => ?_), hz'.2⟩
    have e : k = p := e
    subst e
    exact h.asideP hz'.1 hk
theorem NewF.row {A : Option Addr} {n c : Nat} (h : NewF w wr p (.slice A n c) ys) (hn : ys.length = n) : FnRow wr w.heap.size wr.heap.size A n ys := by
  have ho := h.own
  rw [hn] at ho
  refine ⟨RowOf.of_own fcells_len ho hn, fun h0 a e => ?_, fun y hy => ?_⟩
  · subst e
    rcases ho.2 with ⟨_, h1⟩ | ⟨g, cap, cur, e1, e2, _⟩
    · omega
    · injection e1 with e1
      injection e1 with e1
      subst e1; exact e2
  · obtain ⟨h1, h2, h3⟩ := h.fns y hy
    obtain ⟨q1, q2, q3⟩ := own_caps h1
    refine ⟨Sl.of_own h1, fun h0 a e => ?_, q1, q2, q3, h2, h3⟩
    rw [e] at h1
    rcases h1.2 with ⟨_, h1⟩ | ⟨g, cap, cur, e1, e2, _⟩
    · omega
    · injection e1 with e1
      injection e1 with e1
      subst e1; exact e2
end

set_option maxRecDepth 100000 in
set_option maxHeartbeats 2000000 in
theorem code_fNew_loop (A : Option Addr) (n c : Nat) (ys : List FnV) (lo : Nat) (w : World) (hs : FnRow w lo w.heap.size A n ys) (h1 : 1 ≤ n) (hn : n ≤ 100) (hw : ∀ y ∈ ys, y.n ≤ 1000) (ht : TabDB w) (hm : fAll (vals ys) = true) :
    Calls Tryd.prog 13 #[.slice A n c] w fun e w' => ∃ p v zs, e = .returned (.tuple #[.pointer (some ⟨p, 0, none⟩), .int .i64 0]) ∧ NewF w w' p v zs ∧ vals zs = fOwns (vals ys) := by
  obtain ⟨i0, hi, hz0, hz1, hz2⟩ := info_parts info_entry
  have cm := code_fMay A n c ys lo w hs (by omega) hw
  rw [hm] at cm
  have HM := hidb hm
  have HL := hidb hs.len
  have HW := hidb hw
  have HS := hidb hs
  have HT := hidb ht
  have g1 : (1 : Int) ≤ (n : Int) := by omega
  have g2 : (n : Int) ≤ 100 := by omega
  clear hs hw ht hm
  go_enter Tryd.func13, Tryd.ntmps13
  go_wp2_with (go_at_call 28; (with_reducible refine cm.mono ?_); rintro e w1 ⟨rfl, hb1⟩)
  have HB1 := hidb hb1
  have hz1s := hb1.size
  clear hb1 cm
  go_loopw [24] (fun k wr => ∃ (j : Nat) (v : Value) (zs : List FnV), j ≤ n ∧ k = .int .i64 j ∧ NewF w wr w1.heap.size v zs ∧ Hid (vals zs = (fOwns (vals ys)).take j)) (fun k _ => (n - intOf k).toNat)
  case atStart =>
    refine ⟨0, .slice none 0 0, [], by omega, rfl, ⟨HB1.out.alloc hz1s _, ?_, hz1s, World.ownsRow_nil _ _ _ _, fun y hy => by cases hy⟩, hidb rfl⟩
    show (w1.heap.push _)[w1.heap.size]? = _
    simp
  case round =>
    obtain ⟨j, v, zs, hj, rfl, hN, HV⟩ := hrel
    by_cases hlt : j < n
    · obtain ⟨b, off, y, rfl, _, hy, hc0, hc1, hok⟩ := (HS.out.below (hN.bel)).at_ hlt
      have hyn := HW.out y (List.mem_of_getElem? hy)
      have hmy := fAll_at HM.out j _ (vals_at hy)
      have hin := hok.inn
      have HVN : Hid (vals (zs ++ [⟨y.sz, none, 0, 0, fOwn y.sz y.ws⟩]) = (fOwns (vals ys)).take (j + 1)) := hidb (by
        rw [List.take_add_one, ← HV.out, fOwns_at _ _ _ (vals_at hy)]
        unfold vals; rw [List.map_append]; rfl)
      have hzl : zs.length = j := by
        have := congrArg List.length HV.out
        rw [vals_length, List.length_take, fOwns_length, vals_length, HL.out] at this; omega
      obtain ⟨W0, hW0⟩ : ∃ W0, W0 = wr.alloc (.cells #[.int .i64 y.sz, .slice y.A y.n y.c] 47) := ⟨_, rfl⟩
      have hB0 : Below wr.heap.size wr W0 := by rw [hW0]; exact belF_al (Below.refl _ _) _
      obtain ⟨x0, x1⟩ : C2 W0 wr.heap.size (.int .i64 y.sz) (.slice y.A y.n y.c) := by rw [hW0]; exact new2 _ _ _ _
      have hN0 := hN.below hB0
      have HP0 : Hid (w.heap.size ≤ W0.heap.size) := hidb hN0.bel.size
      have hcp := hN0.cell
      have CO : Hid (∀ W, Below W0.heap.size W0 W → Calls Tryd.prog 29 #[.agg #[.int .i64 y.sz, .slice y.A y.n y.c]] W fun e w5 => ∃ A2 c2, e = .returned (.agg #[.int .i64 y.sz, .slice A2 (fOwn y.sz y.ws).length c2]) ∧ w5.cell? ⟨w1.heap.size, 0, none⟩ = some v ∧ (w5.alloc (.cells #[.int .i64 y.sz, .slice A2 (fOwn y.sz y.ws).length c2] 69)).cell? ⟨w1.heap.size, 0, none⟩ = some v ∧ Hid (NewF w (w5.alloc (.cells #[.int .i64 y.sz, .slice A2 (fOwn y.sz y.ws).length c2] 69)) w1.heap.size v zs ∧ (w5.alloc (.cells #[.int .i64 y.sz, .slice A2 (fOwn y.sz y.ws).length c2] 69)).ownsRow w.heap.size 49 1 (.slice A2 (fOwn y.sz y.ws).length c2) (fOwn y.sz y.ws).length ((fOwn y.sz y.ws).map wv))) := hidb (fun W hb => by
        have hN1 := hN0.below hb
        refine (code_fown y lo W ((hok.below (hB0.trans (hb.mono hB0.size) |>.mono hN.bel.size)).more (Nat.le_refl _) hN1.bel.size) (by omega) (TabDB.below HT.out hN1.bel)).mono ?_
        rintro e w5 ⟨A2, c2, rfl, ho, hb5⟩
        have hN5 := hN1.below hb5
        have hN6 := hN5.below (belF_al (Below.refl _ _) (.cells #[.int .i64 y.sz, .slice A2 (fOwn y.sz y.ws).length c2] 69))
        exact ⟨A2, c2, rfl, hN5.cell, hN6.cell, hidb ⟨hN6, (ho.mono hN1.bel.size).alloc _⟩⟩)
      have HPUSH : Hid (∀ (A2 : Option Addr) (c2 : Nat) (X w6 : World) (A6 : Option Addr) (c6 : Nat), NewF w X w1.heap.size v zs → X.ownsRow w.heap.size 49 1 (.slice A2 (fOwn y.sz y.ws).length c2) (fOwn y.sz y.ws).length ((fOwn y.sz y.ws).map wv) → w6.ownsRow w.heap.size 69 2 (.slice A6 (j + 1) c6) (j + 1) (cellsAll fcells zs ++ [.int .i64 y.sz, .slice A2 (fOwn y.sz y.ws).length c2]) → X.grownBy w6 v.ownBlock → (w6.cell? ⟨w1.heap.size, 0, none⟩ = some v ∧ w6.frozen? ⟨w1.heap.size, 0, none⟩ = false) ∧ Hid (∃ us, NewF w (w6.setCell ⟨w1.heap.size, 0, none⟩ (.slice A6 (j + 1) c6)) w1.heap.size (.slice A6 (j + 1) c6) us ∧ vals us = (fOwns (vals ys)).take (j + 1))) := hidb (fun A2 c2 X w6 A6 c6 k1 k2 k3 k4 => by
        rw [← hzl] at k3 ⊢
        obtain ⟨q1, q2⟩ := k1.push (y := ⟨y.sz, A2, _, c2, fOwn y.sz y.ws⟩) ⟨k2, fOwn_wd _ _, hin⟩ k3 k4
        refine ⟨q1, hidb ⟨_, q2, ?_⟩⟩
        rw [hzl, ← HVN.out]
        unfold vals; simp [FnV.v])
      have HON : Hid (∀ (A2 : Option Addr) (c2 : Nat), ∀ u ∈ [Value.int .i64 y.sz, Value.slice A2 (fOwn y.sz y.ws).length c2], u.oneCell' = true) := hidb (fun A2 c2 u hu => by
        rcases List.mem_cons.1 hu with rfl | hu
        · rfl
        · obtain rfl := List.mem_singleton.1 hu; rfl)
      have HZL := hidb hzl
      have HW0 := hidb hW0
      have hpl : w1.heap.size < W0.heap.size := (Array.getElem?_eq_some_iff.1 hN0.tab).1
      clear hy hok hB0 hN0 hW0 hzl hN hyn hmy hin
      generalize hL : fOwn y.sz y.ws = L at *
      clear hL
      go_wp2
      rw [← HW0.out]
      go_region_law (first
        | (go_simp; go_at_call 29; (with_reducible refine (CO.out _ (by first | exact Below.refl _ _ | exact (Below.refl _ _).drew)).mono ?_); rintro e w5 ⟨A2, c2, rfl, hp5, hp6, HN5⟩)
        | (refine step_append_row rfl (.tmp 32) (.tmp 36) 64 rfl w.heap.size 69 i0 (.agg #[.int .i64 0, .slice none 0 0]) 2 32 Tryd.underlying64 hi hz0 hz1 hz2 rfl (by decide) _ j (cellsAll fcells zs) rfl (by have := HN5.out.1.own; rw [HZL.out] at this; exact this) HN5.out.1.bel.size (some ⟨w5.heap.size, 0, none⟩) 1 1 [.int .i64 y.sz, .slice A2 L.length c2] rfl rfl (fun h => by cases h) (cells_new w5 [.int .i64 y.sz, .slice A2 L.length c2] _) (HON.out A2 c2) (by unfold maxLen; omega) (by omega) ?_; intro A6 c6 w6 ho6 hg6; obtain ⟨⟨hp7, hf7⟩, HN6⟩ := HPUSH.out A2 c2 _ w6 A6 c6 HN5.out.1 HN5.out.2 ho6 hg6; clear ho6 hg6))
      all_goals clear hp5 hp6 hp7 hf7 x0 x1 hcp hc0 hc1
      all_goals go_wp2
      all_goals go_roundw
      all_goals first
        | (obtain ⟨us, hu1, hu2⟩ := HN6.out; exact ⟨j + 1, _, us, by omega, by go_num, hu1, hidb hu2⟩)
        | (simp [intOf]; omega)
    · have hje : j = n := by omega
      have P : Hid (NewF w wr w1.heap.size v zs ∧ vals zs = fOwns (vals ys)) := hidb ⟨hN, by rw [HV.out, List.take_of_length_le (by rw [fOwns_length, vals_length, HL.out]; omega)]⟩
      clear hN hje
      go_wp2
      go_ret2
      exact ⟨_, _, _, rfl, P.out.1, P.out.2⟩

/-- A table in memory: its functions lie in blocks from lo on, below hi. -/
def TbIs (w : World) (lo hi p : Nat) (l : Fns) : Prop := lo ≤ p ∧ p < hi ∧ ∃ A n c ys, w.cell? ⟨p, 0, none⟩ = some (.slice A n c) ∧ FnRow w lo hi A n ys ∧ vals ys = l ∧ n ≤ 100 ∧ ∀ y ∈ ys, y.n ≤ 64
theorem TbIs.keep {w w' : World} {lo hi p : Nat} {l : Fns} (h : TbIs w lo hi p l) (hk : ∀ b, lo ≤ b → b < hi → w'.heap[b]? = w.heap[b]?) : TbIs w' lo hi p l := by
  obtain ⟨h1, h2, A, n, c, ys, h3, h4, h5⟩ := h
  exact ⟨h1, h2, A, n, c, ys, (World.cell?_of_block (hk p h1 h2)).trans h3, h4.keep hk, h5⟩
theorem TbIs.below {w w' : World} {lo hi p : Nat} {l : Fns} (h : TbIs w lo hi p l) (hb : Below hi w w') : TbIs w' lo hi p l := h.keep fun b _ hl => hb.block b hl
theorem TbIs.drewN {w : World} {lo hi p : Nat} {l : Fns} (h : TbIs w lo hi p l) (q : Nat) : TbIs (w.drewN q) lo hi p l := h.keep fun _ _ _ => rfl

theorem code_fNew (A : Option Addr) (n c : Nat) (ys : List FnV) (lo : Nat) (w : World) (hs : FnRow w lo w.heap.size A n ys) (hn : n ≤ 1000) (hw : ∀ y ∈ ys, y.n ≤ 1000) (ht : TabDB w) (hm : fTab (vals ys) = true) :
    Calls Tryd.prog 13 #[.slice A n c] w fun e w' => ∃ p, e = .returned (.tuple #[.pointer (some ⟨p, 0, none⟩), .int .i64 0]) ∧ TbIs w' w.heap.size w'.heap.size p (fOwns (vals ys)) ∧ Below w.heap.size w w' := by
  have hl := hs.len
  unfold fTab at hm
  rw [Bool.and_eq_true, decide_eq_true_iff, vals_length, hl] at hm
  refine (code_fNew_loop A n c ys lo w hs hm.2.1 hm.2.2 hw ht hm.1).mono ?_
  rintro e w' ⟨p, v, zs, rfl, hN, hv⟩
  have hzl : zs.length = n := by
    have := congrArg List.length hv
    rw [vals_length, fOwns_length, vals_length, hl] at this; exact this
  obtain ⟨A', c', rfl⟩ : ∃ A' c', v = .slice A' n c' := by
    obtain ⟨A', c', e⟩ : ∃ A' c', v = .slice A' zs.length c' := by
      rcases hN.own.2 with ⟨rfl, h0⟩ | ⟨g, cap, cur, rfl, _⟩
      · exact ⟨none, 0, by rw [h0]⟩
      · exact ⟨_, _, rfl⟩
    rw [hzl] at e; exact ⟨A', c', e⟩
  refine ⟨p, rfl, ⟨hN.low, (Array.getElem?_eq_some_iff.1 hN.tab).1, A', n, c', zs, hN.cell, hN.row hzl, hv, hm.2.2, fun y hy => ?_⟩, hN.bel⟩
  have hwd := (hN.fns y hy).1.1
  have hlen : y.ws.length = y.n := by simpa using hwd
  rw [← hlen]
  have hm2 : (y.sz, y.ws) ∈ vals zs := List.mem_map.2 ⟨y, hy, rfl⟩
  rw [hv] at hm2
  obtain ⟨f, _, hf⟩ := List.mem_map.1 hm2
  injection hf with _ hf
  rw [← hf]; exact fOwn_length _ _
theorem code_fNew_no (A : Option Addr) (n c : Nat) (ys : List FnV) (lo : Nat) (w : World) (hs : FnRow w lo w.heap.size A n ys) (hn : n ≤ 1000) (hw : ∀ y ∈ ys, y.n ≤ 1000) (hm : fTab (vals ys) = false) :
    Calls Tryd.prog 13 #[.slice A n c] w fun e w' => e = .returned (.tuple #[.pointer none, .int .i64 1]) ∧ Below w.heap.size w w' := by
  have hl := hs.len
  have cm := code_fMay A n c ys lo w hs hn hw
  unfold fTab at hm
  rw [vals_length, hl] at hm
  by_cases g1 : 1 ≤ n
  · have g1' : (1 : Int) ≤ (n : Int) := by omega
    by_cases g2 : n ≤ 100
    · have g2' : (n : Int) ≤ 100 := by omega
      rw [decide_eq_true ⟨g1, g2⟩, Bool.and_true] at hm
      rw [hm] at cm
      clear hs hw hm
      go_enter Tryd.func13, Tryd.ntmps13
      go_wp2_with (go_at_call 28; (with_reducible refine cm.mono ?_); rintro e w1 ⟨rfl, hb1⟩)
      go_ret2
      exact ⟨rfl, hb1⟩
    · have g2' : (100 : Int) < (n : Int) := by omega
      clear hs hw hm cm
      go_enter Tryd.func13, Tryd.ntmps13
      go_wp2
      go_ret2
      exact ⟨rfl, Below.refl _ _⟩
  · obtain rfl : n = 0 := by omega
    clear hs hw hm cm
    go_enter Tryd.func13, Tryd.ntmps13
    go_wp2
    go_ret2
    exact ⟨rfl, Below.refl _ _⟩
end Go.Proofs.YtkahpmnemabehaaDoor
