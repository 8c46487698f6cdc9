/- What List, Spans and Out of a pool return. -/
import Derived.Test.YtcgfmpegakpddaaGreatPoolDelO
import Derived.Test.YtcgfmpegakpddaaGreatPoolTrim
namespace Go.Proofs.YtcgfmpegakpddaaGreat
open Go.RowKit Go.Maps
set_option linter.unusedVariables false

/-- A row under way: what the first j cut spans give. -/
structure ReadSt (W1 wr : World) (e : TypeId) (s : Nat) (E : Type) (enc : E → List Value) (ts : List CutV) (f : CutV → List E) (j : Nat) (A : Option Addr) (m c : Nat) : Prop where
  row : wr.ownsRow W1.heap.size e s (.slice A m c) m (cellsAll enc ((ts.take j).flatMap f))
  len : ((ts.take j).flatMap f).length = m
  bel : Below W1.heap.size W1 wr
theorem ReadSt.start (W1 : World) (e : TypeId) (s : Nat) (E : Type) (enc : E → List Value) (ts : List CutV) (f : CutV → List E) : ReadSt W1 W1 e s E enc ts f 0 none 0 0 :=
  ⟨World.ownsRow_nil _ _ _ _, rfl, Below.refl _ _⟩
def encI1 (x : Int) : List Value := [iv x]
theorem cellsAll_i (l : List Int) : cellsAll encI1 l = l.map iv := by
  induction l with
  | nil => rfl
  | cons x l ih => show encI1 x ++ cellsAll encI1 l = _; rw [ih]; rfl
theorem ReadSt.step {W1 wr w2 w3 : World} {e : TypeId} {s : Nat} {E : Type} {enc : E → List Value} {ts : List CutV} {f : CutV → List E} {j m c m2 : Nat} {A A' : Option Addr} {c' : Nat} (h : ReadSt W1 wr e s E enc ts f j A m c) {k : CutV} (hk : ts[j]? = some k) (hb : Below wr.heap.size wr w2) (hm : (f k).length = m2)
    (hr : w3.ownsRow W1.heap.size e s (.slice A' (m + m2) c') (m + m2) (cellsAll enc ((ts.take j).flatMap f) ++ cellsAll enc (f k))) (hg : w2.grownBy w3 (Value.slice A m c).ownBlock) : ReadSt W1 w3 e s E enc ts f (j + 1) A' (m + m2) c' := by
  have e1 : (ts.take (j + 1)).flatMap f = (ts.take j).flatMap f ++ f k := by rw [List.take_add_one, hk, List.flatMap_append]; simp
  have hb2 : Below W1.heap.size W1 w2 := h.bel.trans (hb.mono h.bel.size)
  exact ⟨by rw [e1, cellsAll_append]; exact hr, by rw [e1, List.length_append, h.len, hm], hb2.grown hg hb2.size (fun b hb => (h.row.lt b hb).1)⟩
theorem ReadSt.below {W1 wr w2 : World} {e : TypeId} {s : Nat} {E : Type} {enc : E → List Value} {ts : List CutV} {f : CutV → List E} {j m c : Nat} {A : Option Addr} (h : ReadSt W1 wr e s E enc ts f j A m c) (hb : Below wr.heap.size wr w2) : ReadSt W1 w2 e s E enc ts f j A m c :=
  ⟨own_below h.row hb, h.len, h.bel.trans (hb.mono h.bel.size)⟩
/-- A row that was handed over stays. -/
theorem row_of_cuts {w1 : World} {base N c : Nat} {A : Option Addr} {ts : List CutV} (h : w1.ownsRow base 109 1 (.slice A N c) N (cellsAll pcell ts)) : Sl w1 w1.heap.size A N (ts.map pv) := by
  rw [cellsAll_p] at h; exact Sl.of_own h
/-- What a read of all cut spans that are asked for returns. -/
def Reads9 (w : World) (ks : List CutV) (q : CutV → Bool) (f : CutV → List Int) (e : Ending) (w' : World) : Prop := ∃ ds, InOrderP ks ds ∧ OwnInts w ((ds.filter q).flatMap f) e w'

set_option maxRecDepth 100000 in
theorem code_plist {w : World} {Sh : Nat → Prop} {p hp ap g mb n m : Nat} {D : DataW Unit} {v : PoolW} (k : PlAt w Sh p hp ap g mb n m D v) (o : PlOk n m v) (order : Int) :
    Calls Tryz.prog 17 #[.pointer (some ⟨p, 0, none⟩), .int .i64 order] w (Reads9 w v.ks (fun k => k.s.2.2.2 == order) (·.l)) := by
  obtain ⟨w0, hw0⟩ : ∃ w0, w0 = w.alloc (.cells #[.int .i64 order] 3) := ⟨_, rfl⟩
  have hb0 : Below w.heap.size w w0 := by rw [hw0]; exact (Below.refl _ _).alloc (Nat.le_refl _) _
  have hbx : w0.cell? ⟨w.heap.size, 0, none⟩ = some (.int .i64 order) := by rw [hw0]; exact World.cell?_alloc_at _ _ _ 0 (by simp)
  have k0 := k.below hb0
  have cr : Calls Tryz.prog 57 #[.pointer (some ⟨p, 0, none⟩), .func (.func 60) #[] #[.pointer (some ⟨w.heap.size, 0, none⟩)]] w0 (Rising w0 v.ks (fun k => k.s.2.2.2 == order)) :=
    code_rising k0 o 60 #[.pointer (some ⟨w.heap.size, 0, none⟩)] _ (fun W2 t hb2 ht c hc => r2_list c t w.heap.size order W2 ((k0.cuts c hc).below hb2) ht ((hb2.cell (p := ⟨w.heap.size, 0, none⟩) (lt_of_cell hbx)).trans hbx))
  obtain ⟨_, hks⟩ := o.starts k.hp_.ok
  have HLEN : Hid (∀ ds, InOrderP v.ks ds → (ds.filter (fun k => k.s.2.2.2 == order)).length ≤ 1024 ∧ (∀ c ∈ ds.filter (fun k => k.s.2.2.2 == order), c ∈ v.ks) ∧ ∀ c ∈ ds.filter (fun k => k.s.2.2.2 == order), c.l.length ≤ 65536) := hidb (fun ds hd => by
    have hp1 : ds.Perm v.ks := (List.perm_ext_iff_of_nodup (nodup_of_mapK hd.1) (nodup_of_mapK o.ids)).2 hd.2.1
    have hl : (ds.filter (fun k => k.s.2.2.2 == order)).length ≤ ds.length := List.length_filter_le _ _
    have hm : ∀ c ∈ ds.filter (fun k => k.s.2.2.2 == order), c ∈ v.ks := fun c hc => (hd.2.1 c).1 (List.mem_filter.1 hc).1
    exact ⟨by rw [hp1.length_eq] at hl; omega, hm, fun c hc => (cList_len (o.lst c (hm c hc)) (by rw [k.ar.hlen]; exact k.ar.small)).1⟩)
  have HCI : Hid (∀ W, Below w0.heap.size w0 W → ∀ c ∈ v.ks, W.cell? ⟨p, 1, none⟩ = some (.pointer (some ⟨ap, 0, none⟩)) ∧ Calls Tryz.prog 61 #[.pointer (some ⟨c.b, 0, none⟩), .pointer (some ⟨ap, 0, none⟩)] W (InIs W c.l)) := hidb (fun W hb c hc => ⟨(k0.below hb).c1, code_pin (k0.below hb) o hc⟩)
  obtain ⟨i0, hi, hz0, hz1, hz2⟩ := info_parts info_int
  have HW0 := hidb hw0
  have HB0 := hidb hb0
  unfold Rising OwnCuts at cr
  clear k o k0 hbx hw0 hb0 hks
  go_enter Tryz.func17, Tryz.ntmps17
  go_wp2_with (first
    | (go_at_call 57; rw [← HW0.out]; (with_reducible refine cr.mono ?_); rintro e w1 ⟨ds, hd, A, d, rfl, hrow, hb1⟩; obtain ⟨ts, hts⟩ : ∃ ts, (List.filter (fun k : CutV => k.s.2.2.2 == order) ds) = ts := ⟨_, rfl⟩; rw [hts] at hrow; rw [hts]; obtain ⟨N, hN⟩ : ∃ N, List.length ts = N := ⟨_, rfl⟩; rw [hN] at hrow; rw [hN]))
  obtain ⟨hNl, hsub, hll⟩ := HLEN.out ds hd
  rw [hts] at hNl hsub hll
  rw [hN] at hNl
  have hsl := row_of_cuts hrow
  have HSUB := hidb hsub
  have HLL := hidb hll
  have HNE := hidb hN
  have HTS := hidb hts
  have HD := hidb hd
  have HB1 := hidb hb1
  have hz1s := hb1.size
  have HSL : Hid (∀ W, Below w1.heap.size w1 W → Sl W W.heap.size A N (ts.map pv)) := hidb (fun W hb => (hsl.below hb).more hb.size)
  clear hsub hll hN hts hd hb1 hsl hrow cr HLEN
  go_loopw [5, 7, 12] (fun s5 _ s12 wr => ∃ (j : Nat) (A' : Option Addr) (m' c' : Nat), s12 = .int .i64 j ∧ s5 = .slice A' m' c' ∧ j ≤ N ∧ m' ≤ 65536 * j ∧ Hid (ReadSt w1 wr 3 1 Int encI1 ts (·.l) j A' m' c')) (fun _ _ s12 _ => (N - intOf s12).toNat)
  case atStart => exact ⟨0, none, 0, 0, rfl, rfl, by omega, by omega, hidb (ReadSt.start _ _ _ _ _ _ _)⟩
  case round =>
    obtain ⟨j, A', m', c', rfl, rfl, hj, hm', HR⟩ := hrel
    by_cases hlt : j < N
    · obtain ⟨b, off, u, rfl, _, hx, hc⟩ := (HSL.out wr HR.out.bel).at_ hlt
      obtain ⟨q, hq, rfl⟩ : ∃ q, ts[j]? = some q ∧ pv q = u := by
        rw [List.getElem?_map] at hx
        exact Option.map_eq_some_iff.1 hx
      have hqk := HSUB.out q (List.mem_of_getElem? hq)
      obtain ⟨c1, ci⟩ := HCI.out wr (HB1.out.trans (HR.out.bel.mono HB1.out.size)) q hqk
      have hll := HLL.out q (List.mem_of_getElem? hq)
      have hj0 : (0 : Int) ≤ (j : Int) := by omega
      have hj1 : (j : Int) < (N : Int) := by omega
      have HQ := hidb hq
      unfold pv at hc
      unfold InIs at ci
      obtain ⟨ml, hml⟩ : ∃ ml, q.l.length = ml := ⟨_, rfl⟩
      rw [hml] at ci hll
      have HML := hidb hml
      have HST : Hid (∀ w2 w3 A3 c3, Below wr.heap.size wr w2 → w3.ownsRow w1.heap.size 3 1 (.slice A3 (m' + ml) c3) (m' + ml) (cellsAll encI1 ((ts.take j).flatMap (·.l)) ++ q.l.map iv) → w2.grownBy w3 (Value.slice A' m' c').ownBlock → ReadSt w1 w3 3 1 Int encI1 ts (·.l) (j + 1) A3 (m' + ml) c3) := hidb (fun w2 w3 A3 c3 hb hr hg => HR.out.step HQ.out hb HML.out (by rw [cellsAll_i q.l]; exact hr) hg)
      have hsz := HR.out.bel.size
      clear hx hq hml
      go_wp2_with (first
        | (go_at_call 61; (with_reducible refine ci.mono ?_); rintro e w2 ⟨A2, d2, rfl, q3, q4, hb2, q6⟩; have hb2s := hb2.size)
        | (at_builtin; refine wpList_append_rowN w2 rfl _ _ 38 rfl w1.heap.size 3 i0 (.int .i64 0) 1 8 Tryz.underlying38 hi hz0 hz1 hz2 rfl (by decide) _ m' _ rfl (by exact own_below HR.out.row hb2) (by omega) A2 ml d2 (q.l.map iv) rfl (by rw [List.length_map, HML.out, Nat.mul_one]) (fun h => q4 h) (sl_cells q3) (ivs_one _) (by unfold maxLen; omega) (by omega) ?_; intro A3 c3 w3 hown3 hg3; have HR3 := hidb (HST.out w2 w3 A3 c3 hb2 hown3 hg3); clear hown3 hg3))
      go_roundw
      case rel => exact ⟨j + 1, A3, m' + ml, c3, by go_num, rfl, by omega, by omega, HR3⟩
      case measure => simp [intOf]; omega
    · obtain rfl : j = N := by omega
      have P : Hid (Reads9 w v.ks (fun k => k.s.2.2.2 == order) (·.l) (.returned (.slice A' m' c')) wr) := hidb (by
        have h1 := HR.out.row
        have h2 := HR.out.len
        rw [List.take_of_length_le (by rw [HNE.out]; exact Nat.le_refl _)] at h1 h2
        rw [cellsAll_i] at h1
        refine ⟨ds, HD.out, A', c', ?_, ?_, ?_⟩
        · rw [HTS.out, h2]
        · rw [HTS.out, h2]
          exact own_lower h1 (by have := HB0.out.size; have := HB1.out.size; omega)
        · exact HB0.out.trans ((HB1.out.trans (HR.out.bel.mono HB1.out.size)).mono HB0.out.size))
      go_wp2
      go_ret
      exact P.out

end Go.Proofs.YtcgfmpegakpddaaGreat
