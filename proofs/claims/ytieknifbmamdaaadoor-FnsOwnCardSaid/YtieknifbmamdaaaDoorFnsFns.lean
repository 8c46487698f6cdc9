/- What Fns of layer 13 (fns) returns: the functions, in rows of their own. -/
import Derived.Test.YtieknifbmamdaaaDoorFnsTab
namespace Go.Proofs.YtieknifbmamdaaaDoor
open Go.RowKit
set_option linter.unusedVariables false

theorem info_fn : (Tryd.prog.info? 28).map (fun i => (i.zero, i.size, i.bytes)) = some (some (.agg #[.int .i64 0, .slice none 0 0]), 2, 32) := by kernel_rfl
/-- A row of functions that a call makes. -/
structure RowF (w wr : World) (v : Value) (ys : List FnV) : Prop where
  bel : Below w.heap.size w wr
  own : wr.ownsRow w.heap.size 28 2 v ys.length (cellsAll fcells ys)
  fns : ∀ y ∈ ys, wr.ownsRow w.heap.size 46 1 (.slice y.A y.n y.c) y.n (y.ws.map wv) ∧ Wd y.ws ∧ in64 y.sz
section
variable {w wr X w6 : World} {v : Value} {ys : List FnV} {y : FnV}
theorem RowF.below (h : RowF w wr v ys) (hb : Below wr.heap.size wr X) : RowF w X v ys :=
  ⟨h.bel.trans (hb.mono h.bel.size), own_same h.own fun k hk => hb.block k (h.own.lt k hk).2, fun y hy => ⟨own_same (h.fns y hy).1 fun k hk => hb.block k ((h.fns y hy).1.lt k hk).2, (h.fns y hy).2⟩⟩
theorem RowF.aside (h : RowF w X v ys) {base n s : Nat} {u : Value} {xs : List Value} (hu : X.ownsRow base 46 s u n xs) : ∀ k, v.ownBlock = some k → u.ownBlock ≠ some k := fun k hk e => by
  obtain ⟨c1, h1⟩ := own_type h.own k hk
  obtain ⟨c2, h2⟩ := own_type hu k e
  rw [h1] at h2
  injection h2 with h2
  injection h2 with _ h2 _
  revert h2; decide
theorem RowF.push (h : RowF w X v ys) {A6 : Option Addr} {c6 : Nat} (hy : X.ownsRow w.heap.size 46 1 (.slice y.A y.n y.c) y.n (y.ws.map wv) ∧ Wd y.ws ∧ in64 y.sz)
    (ho : w6.ownsRow w.heap.size 28 2 (.slice A6 (ys.length + 1) c6) (ys.length + 1) (cellsAll fcells ys ++ fcells y)) (hg : X.grownBy w6 v.ownBlock) : RowF w w6 (.slice A6 (ys.length + 1) c6) (ys ++ [y]) := by
  refine ⟨h.bel.grown hg h.bel.size (fun k hk => (h.own.lt k hk).1), by rw [List.length_append, cellsAll_append, cellsAll_one]; exact ho, fun z hz => ?_⟩
  have hz' : X.ownsRow w.heap.size 46 1 (.slice z.A z.n z.c) z.n (z.ws.map wv) ∧ Wd z.ws ∧ in64 z.sz := by
    rcases List.mem_append.1 hz with hz | hz
    · exact h.fns z hz
    · rw [List.mem_singleton.1 hz]; exact hy
  exact ⟨own_grown hz'.1 hg (h.aside hz'.1), hz'.2⟩
theorem RowF.row {A : Option Addr} {n c : Nat} (h : RowF w wr (.slice A n c) ys) (hn : ys.length = n) : FnRow wr w.heap.size wr.heap.size A n ys := by
  have ho := h.own
  rw [hn] at ho
  refine ⟨RowOf.of_own fcells_len ho hn, fun h0 a e => ?_, fun y hy => ?_⟩
  · subst e
    rcases ho.2 with ⟨_, h1⟩ | ⟨g, cap, cur, e1, e2, _⟩
    · omega
    · injection e1 with e1
      injection e1 with e1
      subst e1; exact e2
  · obtain ⟨h1, h2, h3⟩ := h.fns y hy
    obtain ⟨q1, q2, q3⟩ := own_caps h1
    refine ⟨Sl.of_own h1, fun h0 a e => ?_, q1, q2, q3, h2, h3⟩
    rw [e] at h1
    rcases h1.2 with ⟨_, h1⟩ | ⟨g, cap, cur, e1, e2, _⟩
    · omega
    · injection e1 with e1
      injection e1 with e1
      subst e1; exact e2
end
/-- The functions, in rows of the call's own. -/
def FnsRet (w : World) (l : Fns) (e : Ending) (w' : World) : Prop := ∃ A c ys, e = .returned (.slice A l.length c) ∧ RowF w w' (.slice A l.length c) ys ∧ vals ys = l

set_option maxRecDepth 100000 in
set_option maxHeartbeats 2000000 in
theorem code_fFns {w : World} {lo hi b : Nat} {l : Fns} (h : TbIs w lo hi b l) (hhi : hi ≤ w.heap.size) (ht : TabDB w) :
    Calls Tryd.prog 16 #[.pointer (some ⟨b, 0, none⟩)] w (FnsRet w (fOwns l)) := by
  obtain ⟨i0, hi0, hz0, hz1, hz2⟩ := info_parts info_fn
  have cl := code_flen h.o
  obtain ⟨h1, h2, A, n, c, ys, h3, h4, rfl, h6, h7⟩ := h
  have hl := h4.len
  rw [vals_length, hl] at cl
  have hbl : b < w.heap.size := by omega
  have HL := hidb hl
  have HR := hidb h4
  have H7 := hidb h7
  have HT := hidb ht
  have HH := hidb hhi
  have H3 := hidb h3
  clear h4 h7 ht hl h3 h1 h2 hhi
  go_enter Tryd.func16, Tryd.ntmps16
  go_wp2_with (go_at_call 14; (with_reducible refine cl.mono ?_); rintro e w' ⟨rfl, rfl⟩)
  go_loopw [3, 7] (fun v k wr => ∃ (j : Nat) (zs : List FnV), j ≤ n ∧ k = .int .i64 j ∧ RowF w wr v zs ∧ Hid (vals zs = (fOwns (vals ys)).take j)) (fun _ k _ => (n - intOf k).toNat)
  case atStart => exact ⟨0, [], by omega, rfl, ⟨Below.refl _ _, World.ownsRow_nil _ _ _ _, fun y hy => by cases hy⟩, hidb rfl⟩
  case round =>
    obtain ⟨j, zs, hj, rfl, hN, HV⟩ := hrel
    by_cases hlt : j < n
    · obtain ⟨b2, off, y, rfl, hb2, hy, hc0, hc1, hok⟩ := (HR.out.below (hN.bel.mono HH.out)).at_ hlt
      have hyn := H7.out y (List.mem_of_getElem? hy)
      have hin := hok.inn
      have hzl : zs.length = j := by
        have := congrArg List.length HV.out
        rw [vals_length, List.length_take, fOwns_length, vals_length, HL.out] at this; omega
      have hbase : wr.cell? ⟨b, 0, none⟩ = some (.slice (some ⟨b2, off, none⟩) n c) := (hN.bel.cell (p := ⟨b, 0, none⟩) hbl).trans H3.out
      have CO : Hid (Calls Tryd.prog 27 #[.agg #[.int .i64 y.sz, .slice y.A y.n y.c]] wr fun e w5 => ∃ A2 c2, e = .returned (.agg #[.int .i64 y.sz, .slice A2 (fOwn y.sz y.ws).length c2]) ∧ Hid (RowF w (w5.alloc (.cells #[.int .i64 y.sz, .slice A2 (fOwn y.sz y.ws).length c2] 28)) u3 zs ∧ (w5.alloc (.cells #[.int .i64 y.sz, .slice A2 (fOwn y.sz y.ws).length c2] 28)).ownsRow w.heap.size 46 1 (.slice A2 (fOwn y.sz y.ws).length c2) (fOwn y.sz y.ws).length ((fOwn y.sz y.ws).map wv))) := hidb (by
        refine (code_fown y lo wr (hok.more (Nat.le_refl _) (Nat.le_trans HH.out hN.bel.size)) (by omega) (TabDB.below HT.out hN.bel)).mono ?_
        rintro e w5 ⟨A2, c2, rfl, ho, hb5⟩
        have hN6 := (hN.below hb5).below (belF_al (Below.refl _ _) (.cells #[.int .i64 y.sz, .slice A2 (fOwn y.sz y.ws).length c2] 28))
        exact ⟨A2, c2, rfl, hidb ⟨hN6, (ho.mono hN.bel.size).alloc _⟩⟩)
      have HPUSH : Hid (∀ (A2 : Option Addr) (c2 : Nat) (X w6 : World) (A6 : Option Addr) (c6 : Nat), RowF w X u3 zs → X.ownsRow w.heap.size 46 1 (.slice A2 (fOwn y.sz y.ws).length c2) (fOwn y.sz y.ws).length ((fOwn y.sz y.ws).map wv) → w6.ownsRow w.heap.size 28 2 (.slice A6 (j + 1) c6) (j + 1) (cellsAll fcells zs ++ [.int .i64 y.sz, .slice A2 (fOwn y.sz y.ws).length c2]) → X.grownBy w6 u3.ownBlock → ∃ us, RowF w w6 (.slice A6 (j + 1) c6) us ∧ vals us = (fOwns (vals ys)).take (j + 1)) := hidb (fun A2 c2 X w6 A6 c6 k1 k2 k3 k4 => by
        rw [← hzl] at k3 ⊢
        refine ⟨_, k1.push (y := ⟨y.sz, A2, _, c2, fOwn y.sz y.ws⟩) ⟨k2, fOwn_wd _ _, hin⟩ k3 k4, ?_⟩
        rw [hzl, List.take_add_one, ← HV.out, fOwns_at _ _ _ (vals_at hy)]
        unfold vals; simp [FnV.v])
      have HON : Hid (∀ (A2 : Option Addr) (c2 : Nat), ∀ u ∈ [Value.int .i64 y.sz, Value.slice A2 (fOwn y.sz y.ws).length c2], u.oneCell' = true) := hidb (fun A2 c2 u hu => by
        rcases List.mem_cons.1 hu with rfl | hu
        · rfl
        · obtain rfl := List.mem_singleton.1 hu; rfl)
      have HZL := hidb hzl
      clear hy hok hzl hN hyn hin hb2
      generalize hL : fOwn y.sz y.ws = L at *
      clear hL
      go_wp2_with (first
        | (go_at_call 27; (with_reducible refine CO.out.mono ?_); rintro e w5 ⟨A2, c2, rfl, HN5⟩)
        | (at_builtin; refine wpList_append_row _ rfl _ _ 22 rfl w.heap.size 28 i0 (.agg #[.int .i64 0, .slice none 0 0]) 2 32 Tryd.underlying22 hi0 hz0 hz1 hz2 rfl (by decide) u3 j (cellsAll fcells zs) rfl (by have := HN5.out.1.own; rw [HZL.out] at this; exact this) HN5.out.1.bel.size (some ⟨w5.heap.size, 0, none⟩) 1 1 [.int .i64 y.sz, .slice A2 L.length c2] rfl rfl (fun h => by cases h) (cells_new w5 [.int .i64 y.sz, .slice A2 L.length c2] _) (HON.out A2 c2) (by unfold maxLen; omega) (by omega) ?_; intro A6 c6 w6 ho6 hg6; have HN6 := hidb (HPUSH.out A2 c2 _ w6 A6 c6 HN5.out.1 HN5.out.2 ho6 hg6); clear ho6 hg6))
      clear hc0 hc1 hbase
      go_roundw
      case rel => obtain ⟨us, hu1, hu2⟩ := HN6.out; exact ⟨j + 1, us, by omega, by go_num, hu1, hidb hu2⟩
      case measure => simp [intOf]; omega
    · have hje : j = n := by omega
      have P : Hid (FnsRet w (fOwns (vals ys)) (.returned u3) wr) := hidb (by
        have hv : vals zs = fOwns (vals ys) := by rw [HV.out, List.take_of_length_le (by rw [fOwns_length, vals_length, HL.out]; omega)]
        have hzl : zs.length = (fOwns (vals ys)).length := by rw [← hv, vals_length]
        obtain ⟨A', c', e⟩ : ∃ A' c', u3 = .slice A' zs.length c' := by
          rcases hN.own.2 with ⟨e, h0⟩ | ⟨g, cap, cur, e, _⟩
          · exact ⟨none, 0, by rw [h0]; exact e⟩
          · exact ⟨_, _, e⟩
        rw [hzl] at e
        subst e
        exact ⟨A', c', zs, rfl, hN, hv⟩)
      clear hN hje
      go_wp2
      go_ret
      exact P.out
theorem code_fFns_nil (w : World) : Calls Tryd.prog 16 #[.pointer none] w fun e w' => e = .returned (.slice none 0 0) ∧ w = w' := by
  have cl := code_flen (TbO.nil_ w 0 0)
  go_enter Tryd.func16, Tryd.ntmps16
  go_wp2_with (go_at_call 14; (with_reducible refine cl.mono ?_); rintro e w' ⟨rfl, rfl⟩)
  go_loopw [3, 7] (fun v k wr => v = .slice none 0 0 ∧ k = .int .i64 0 ∧ wr = w) (fun _ k _ => 0)
  case atStart => exact ⟨rfl, rfl, rfl⟩
  case round =>
    obtain ⟨rfl, rfl, rfl⟩ := hrel
    go_wp2
    go_ret
    exact ⟨rfl, rfl⟩
end Go.Proofs.YtieknifbmamdaaaDoor
