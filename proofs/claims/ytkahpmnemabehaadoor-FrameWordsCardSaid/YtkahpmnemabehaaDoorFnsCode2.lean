/- What each function of layer 13 (fns) returns: a table's own functions, and New. -/
import Derived.Test.YtkahpmnemabehaaDoorFnsCode
namespace Go.Proofs.YtkahpmnemabehaaDoor
open Go.RowKit
set_option linter.unusedVariables false

/-- A row of the call's own is so as long as its block is. -/
theorem own_same {w w' : World} {base n s : Nat} {e : TypeId} {v : Value} {xs : List Value} (h : w.ownsRow base e s v n xs) (hk : ∀ k, v.ownBlock = some k → w'.heap[k]? = w.heap[k]?) : w'.ownsRow base e s v n xs := by
  refine ⟨h.1, ?_⟩
  rcases h.2 with h0 | ⟨g, cap, cur, e1, e2, e3, e4⟩
  · exact Or.inl h0
  · refine Or.inr ⟨g, cap, cur, e1, e2, ?_, e4⟩
    rw [hk g (by rw [e1]; rfl)]; exact e3
/-- A function that own answers, and where its bitmap lies. -/
def OwnFn (w : World) (s : Int) (ws : List Nat) (e : Ending) (w' : World) : Prop := ∃ A c, e = .returned (.agg #[.int .i64 s, .slice A ws.length c]) ∧ w'.ownsRow w.heap.size 49 1 (.slice A ws.length c) ws.length (ws.map wv) ∧ Below w.heap.size w w'
theorem own_set2 {w : World} {base n s b : Nat} {e : TypeId} {v u0 u1 : Value} {xs : List Value} (h : w.ownsRow base e s v n xs) (hb : b < base) : ((w.setCell ⟨b, 0, none⟩ u0).setCell ⟨b, 1, none⟩ u1).ownsRow base e s v n xs :=
  own_same h fun k hk => by
    have := (h.lt k hk).1
    rw [Below.heap_setCell _ _ _ _ (by show k ≠ b; omega), Below.heap_setCell _ _ _ _ (by show k ≠ b; omega)]

set_option maxHeartbeats 1000000 in
theorem code_fown (y : FnV) (lo : Nat) (w : World) (hy : FvOk w lo w.heap.size y) (hn : y.n ≤ 1000) (ht : TabDB w) :
    Calls Tryd.prog 29 #[.agg #[.int .i64 y.sz, .slice y.A y.n y.c]] w (OwnFn w y.sz (fOwn y.sz y.ws)) := by
  obtain ⟨s, A, n, c, ws⟩ := y
  have hin : in64 s := hy.inn
  unfold in64 at hin
  simp only at hn
  obtain ⟨W0, hW0⟩ : ∃ W0, W0 = (w.alloc (.cells #[.int .i64 s, .slice A n c] 47)).alloc (.cells #[.int .i64 0, .slice none 0 0] 47) := ⟨_, rfl⟩
  have HB0 : Hid (Below w.heap.size w W0) := hidb (by rw [hW0]; exact belF_al (belF_al (Below.refl _ _) _) _)
  have hzz : W0.heap.size = w.heap.size + 2 := by rw [hW0]; simp
  have hC0 : C2 W0 w.heap.size (.int .i64 s) (.slice A n c) := by rw [hW0]; simp [C2]
  have HX : Hid (∀ W, Below W0.heap.size W0 W → W.cell? ⟨w.heap.size, 0, none⟩ = some (.int .i64 s) ∧ W.cell? ⟨w.heap.size, 1, none⟩ = some (.slice A n c)) := hidb (fun W hb => hC0.below hb)
  have HR : Hid (∀ W, Below W0.heap.size W0 W → W.cell? ⟨w.heap.size + 1, 0, none⟩ = some (.int .i64 0) ∧ W.cell? ⟨w.heap.size + 1, 1, none⟩ = some (.slice none 0 0) ∧ W.frozen? ⟨w.heap.size + 1, 0, none⟩ = false ∧ W.frozen? ⟨w.heap.size + 1, 1, none⟩ = false) := hidb (fun W hb => by
    have h2 : C2 W0 (w.heap.size + 1) (.int .i64 0) (.slice none 0 0) := by rw [hW0]; simp [C2]
    have q : ∀ j, W.frozen? ⟨w.heap.size + 1, j, none⟩ = W0.frozen? ⟨w.heap.size + 1, j, none⟩ := fun j => hb.frozen (p := ⟨w.heap.size + 1, j, none⟩) (by show w.heap.size + 1 < _; omega)
    refine ⟨(h2.below hb).1, (h2.below hb).2, ?_, ?_⟩
    · rw [q, hW0]; simp [go_sem]
    · rw [q, hW0]; simp [go_sem])
  have hok0 := hy.below HB0.out
  have hl : ws.length = n := hok0.len
  have htd := TabDB.below ht HB0.out
  have hbl : (bBits ws (min s.toNat (64 * n))).length ≤ 64000 := Nat.le_trans (bBits_length _ _) (by omega)
  have HC1 : Hid (∀ W, Below W0.heap.size W0 W → Calls Tryd.prog 44 #[.slice A n c, .int .i64 s] W fun e w' => ∃ A1 c1, e = .returned (.slice A1 (bBits ws (min s.toNat (64 * n))).length c1) ∧ Sl w' w'.heap.size A1 (bBits ws (min s.toNat (64 * n))).length ((bBits ws (min s.toNat (64 * n))).map iv) ∧ Below W0.heap.size W0 w') := hidb (fun W hb => by
    have hbz := hb.size
    refine (code_bbits A n c ws s W ((hok0.sl.more (by omega)).below hb |>.more (by omega)) (by omega) hok0.nc hok0.cm hok0.na hok0.wd hin.1 hin.2 (TabDB.below htd hb)).mono ?_
    rintro e w' ⟨A1, c1, rfl, ho, h⟩
    exact ⟨A1, c1, rfl, Sl.of_own ho, belF_tr hb h⟩)
  have HC2 : Hid (∀ W A1 c1, Below W0.heap.size W0 W → Sl W W.heap.size A1 (bBits ws (min s.toNat (64 * n))).length ((bBits ws (min s.toNat (64 * n))).map iv) → Calls Tryd.prog 43 #[.slice A1 (bBits ws (min s.toNat (64 * n))).length c1] W fun e w' => ∃ A2 c2, e = .returned (.slice A2 (fOwn s ws).length c2) ∧ w'.ownsRow W0.heap.size 49 1 (.slice A2 (fOwn s ws).length c2) (fOwn s ws).length ((fOwn s ws).map wv) ∧ Below W0.heap.size W0 w') := hidb (fun W A1 c1 hb hsl => by
    refine (code_bof A1 _ c1 (bBits ws (min s.toNat (64 * n))) W hsl (by omega)).mono ?_
    have e : cOf (bBits ws (min s.toNat (64 * n))) = fOwn s ws := by unfold fOwn; rw [hl]
    rw [e]
    rintro e w' ⟨A2, c2, rfl, ho, h⟩
    exact ⟨A2, c2, rfl, ho.mono hb.size, belF_tr hb h⟩)
  have HW0 := hidb hW0
  have HZZ := hidb hzz
  clear hW0 hC0 hy hzz hok0 htd hl
  show Calls _ _ #[.agg #[.int .i64 s, .slice A n c]] w (OwnFn w s (fOwn s ws))
  generalize (bBits ws (min s.toNat (64 * n))).length = bl at *
  generalize (bBits ws (min s.toNat (64 * n))).map iv = bs at *
  generalize fOwn s ws = L at *
  go_enter Tryd.func29, Tryd.ntmps29
  go_wp2
  rw [← HW0.out]
  obtain ⟨c0, c1⟩ := HX.out W0 (Below.refl _ _)
  go_region_held3 (fun W => W.cell? ⟨w.heap.size, 0, none⟩ = some (.int .i64 s) ∧ W.cell? ⟨w.heap.size, 1, none⟩ = some (.slice A n c))
    (first | ((with_reducible refine HX.out _ ?_); (repeat (first | with_reducible exact Below.refl _ _ | with_reducible exact Hid.out (by assumption) | with_reducible apply belF_al | with_reducible apply belF_dr)); done) | (go_keep; done))
    (first
      | (go_at_call 44; ((with_reducible refine (HC1.out _ (by repeat (first | with_reducible exact Below.refl _ _ | with_reducible exact Hid.out (by assumption) | with_reducible apply belF_al | with_reducible apply belF_dr))).mono ?_); rintro e w1 ⟨A1, c1, rfl, hs1, hb1⟩; have HB1 := hidb hb1; have HS1 := hidb hs1; clear hb1 hs1))
      | (go_at_call 43; ((with_reducible refine (HC2.out _ _ _ HB1.out HS1.out).mono ?_); rintro e w2 ⟨A2, c2, rfl, ho2, hb2⟩; obtain ⟨r0, r1, rf0, rf1⟩ := HR.out _ hb2; have HB2 := hidb hb2; have HO2 := hidb ho2; clear hb2 ho2)))
  have P : Hid (OwnFn w s L (.returned (.agg #[.int .i64 s, .slice A2 L.length c2])) ((w2.setCell ⟨w.heap.size + 1, 0, none⟩ (.int .i64 s)).setCell ⟨w.heap.size + 1, 1, none⟩ (.slice A2 L.length c2))) := hidb (by
    have hz := HZZ.out
    exact ⟨A2, c2, rfl, (own_set2 HO2.out (by omega)).mono (by omega), ((HB0.out.trans (HB2.out.mono (by omega))).setCell (p := ⟨w.heap.size + 1, 0, none⟩) (by show w.heap.size ≤ w.heap.size + 1; omega) _).setCell (p := ⟨w.heap.size + 1, 1, none⟩) (by show w.heap.size ≤ w.heap.size + 1; omega) _⟩)
  have s0 : ((w2.setCell ⟨w.heap.size + 1, 0, none⟩ (.int .i64 s)).setCell ⟨w.heap.size + 1, 1, none⟩ (.slice A2 L.length c2)).cell? ⟨w.heap.size + 1, 0, none⟩ = some (.int .i64 s) := by
    rw [World.cell?_setCell_other _ _ _ _ (by simp), World.cell?_setCell_same _ _ _ (by rw [r0])]
  have s1 : ((w2.setCell ⟨w.heap.size + 1, 0, none⟩ (.int .i64 s)).setCell ⟨w.heap.size + 1, 1, none⟩ (.slice A2 L.length c2)).cell? ⟨w.heap.size + 1, 1, none⟩ = some (.slice A2 L.length c2) := by
    exact World.cell?_setCell_same _ _ _ (by rw [World.cell?_setCell_other _ _ _ _ (by simp), r1])
  clear r0 r1 rf0 rf1
  go_wp2
  refine bodyPost_ret (v := .agg #[.int .i64 s, .slice A2 L.length c2]) (by simp [results, Tryd.results29, go_sem, s0, s1]) rfl ?_
  exact P.out
end Go.Proofs.YtkahpmnemabehaaDoor
