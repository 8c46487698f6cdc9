/- What Spans and Out of a pool return. -/
import Derived.Test.YtcgfmpegakpddaaGreatPoolReads
namespace Go.Proofs.YtcgfmpegakpddaaGreat
open Go.RowKit Go.Maps
set_option linter.unusedVariables false

theorem flat_one (ts : List CutV) : ts.flatMap (fun k => [k.s]) = ts.map (·.s) := by
  induction ts with
  | nil => rfl
  | cons k ts ih => rw [List.flatMap_cons, ih]; rfl
/-- The blocks of a cut span that are out. -/
def outK (k : CutV) : List Int := (pBlocks k.s).filter fun x => !decide (x ∈ k.l)
theorem q_out2 (x : Int) (t : Nat) (A : Option Addr) (n d : Nat) (l : List Int) (W : World) (ht : W.cell? ⟨t, 0, none⟩ = some (.slice A n d)) (hs : Sl W W.heap.size A n (l.map iv)) (hn : n ≤ 131072) :
    Calls Tryz.prog 68 #[iv x, .pointer (some ⟨t, 0, none⟩)] W fun e w' => e = .returned (.bool (decide (x ∈ l))) ∧ Below W.heap.size W w' := by
  have ci := code_pcontains A n d l x W hs hn
  generalize decide (x ∈ l) = r at ci ⊢
  unfold iv
  clear hs
  go_enter Tryz.func68, Tryz.ntmps68
  go_wp2_with (go_at_call 63; (with_reducible refine ci.mono ?_); rintro e w' ⟨rfl, rfl⟩)
  go_ret
  exact ⟨rfl, Below.refl _ _⟩

set_option maxRecDepth 100000 in
theorem code_pspans {w : World} {Sh : Nat → Prop} {p hp ap g mb n m : Nat} {D : DataW Unit} {v : PoolW} (k : PlAt w Sh p hp ap g mb n m D v) (o : PlOk n m v) (order : Int) :
    Calls Tryz.prog 14 #[.pointer (some ⟨p, 0, none⟩), .int .i64 order] w fun e w' => ∃ ds, InOrderP v.ks ds ∧ OwnSpansC w ((ds.filter (fun k => k.s.2.2.2 == order)).map (·.s)) e w' := by
  obtain ⟨w0, hw0⟩ : ∃ w0, w0 = w.alloc (.cells #[.int .i64 order] 3) := ⟨_, rfl⟩
  have hb0 : Below w.heap.size w w0 := by rw [hw0]; exact (Below.refl _ _).alloc (Nat.le_refl _) _
  have hbx : w0.cell? ⟨w.heap.size, 0, none⟩ = some (.int .i64 order) := by rw [hw0]; exact World.cell?_alloc_at _ _ _ 0 (by simp)
  have k0 := k.below hb0
  have cr : Calls Tryz.prog 57 #[.pointer (some ⟨p, 0, none⟩), .func (.func 58) #[] #[.pointer (some ⟨w.heap.size, 0, none⟩)]] w0 (Rising w0 v.ks (fun k => k.s.2.2.2 == order)) :=
    code_rising k0 o 58 #[.pointer (some ⟨w.heap.size, 0, none⟩)] _ (fun W2 t hb2 ht c hc => r2_spans c t w.heap.size order W2 ((k0.cuts c hc).below hb2) ht ((hb2.cell (p := ⟨w.heap.size, 0, none⟩) (lt_of_cell hbx)).trans hbx))
  obtain ⟨_, hks⟩ := o.starts k.hp_.ok
  have HLEN : Hid (∀ ds, InOrderP v.ks ds → (ds.filter (fun k => k.s.2.2.2 == order)).length ≤ 1024 ∧ (∀ c ∈ ds.filter (fun k => k.s.2.2.2 == order), c ∈ v.ks) ∧ ∀ c ∈ ds.filter (fun k => k.s.2.2.2 == order), c.l.length ≤ 65536) := hidb (fun ds hd => by
    have hp1 : ds.Perm v.ks := (List.perm_ext_iff_of_nodup (nodup_of_mapK hd.1) (nodup_of_mapK o.ids)).2 hd.2.1
    have hl : (ds.filter (fun k => k.s.2.2.2 == order)).length ≤ ds.length := List.length_filter_le _ _
    have hm : ∀ c ∈ ds.filter (fun k => k.s.2.2.2 == order), c ∈ v.ks := fun c hc => (hd.2.1 c).1 (List.mem_filter.1 hc).1
    exact ⟨by rw [hp1.length_eq] at hl; omega, hm, fun c hc => (cList_len (o.lst c (hm c hc)) (by rw [k.ar.hlen]; exact k.ar.small)).1⟩)
  have HCI : Hid (∀ W, Below w0.heap.size w0 W → ∀ c ∈ v.ks, CutAt W c) := hidb (fun W hb c hc => (k0.cuts c hc).below hb)
  obtain ⟨i0, hi, hz0, hz1, hz2⟩ := info_parts info_span
  have HW0 := hidb hw0
  have HB0 := hidb hb0
  unfold Rising OwnCuts at cr
  clear k o k0 hbx hw0 hb0 hks
  go_enter Tryz.func14, Tryz.ntmps14
  go_wp2_with (first
    | (go_at_call 57; rw [← HW0.out]; (with_reducible refine cr.mono ?_); rintro e w1 ⟨ds, hd, A, d, rfl, hrow, hb1⟩; obtain ⟨ts, hts⟩ : ∃ ts, (List.filter (fun k : CutV => k.s.2.2.2 == order) ds) = ts := ⟨_, rfl⟩; rw [hts] at hrow; rw [hts]; obtain ⟨N, hN⟩ : ∃ N, List.length ts = N := ⟨_, rfl⟩; rw [hN] at hrow; rw [hN]))
  obtain ⟨hNl, hsub, hll⟩ := HLEN.out ds hd
  rw [hts] at hNl hsub hll
  rw [hN] at hNl
  have hsl := row_of_cuts hrow
  have HSUB := hidb hsub
  have HLL := hidb hll
  have HNE := hidb hN
  have HTS := hidb hts
  have HD := hidb hd
  have HB1 := hidb hb1
  have hz1s := hb1.size
  have HSL : Hid (∀ W, Below w1.heap.size w1 W → Sl W W.heap.size A N (ts.map pv)) := hidb (fun W hb => (hsl.below hb).more hb.size)
  clear hsub hll hN hts hd hb1 hsl hrow cr HLEN
  go_loopw [5, 7, 12] (fun s5 _ s12 wr => ∃ (j : Nat) (A' : Option Addr) (m' c' : Nat), s12 = .int .i64 j ∧ s5 = .slice A' m' c' ∧ j ≤ N ∧ m' ≤ j ∧ Hid (ReadSt w1 wr 49 4 (Int × Int × Int × Int) scells ts (fun k => [k.s]) j A' m' c')) (fun _ _ s12 _ => (N - intOf s12).toNat)
  case atStart => exact ⟨0, none, 0, 0, rfl, rfl, by omega, by omega, hidb (ReadSt.start _ _ _ _ _ _ _)⟩
  case round =>
    obtain ⟨j, A', m', c', rfl, rfl, hj, hm', HR⟩ := hrel
    by_cases hlt : j < N
    · obtain ⟨b, off, u, rfl, _, hx, hc⟩ := (HSL.out wr HR.out.bel).at_ hlt
      obtain ⟨q, hq, rfl⟩ : ∃ q, ts[j]? = some q ∧ pv q = u := by
        rw [List.getElem?_map] at hx
        exact Option.map_eq_some_iff.1 hx
      have hqk := HSUB.out q (List.mem_of_getElem? hq)
      have hcq := HCI.out wr (HB1.out.trans (HR.out.bel.mono HB1.out.size)) q hqk
      have d0 := hcq.c0
      have d1 := hcq.c1
      have d2 := hcq.c2
      have d3 := hcq.c3
      have hj0 : (0 : Int) ≤ (j : Int) := by omega
      have hj1 : (j : Int) < (N : Int) := by omega
      have HQ := hidb hq
      unfold pv at hc
      obtain ⟨⟨s1, s2, s3, s4⟩, hqs⟩ : ∃ s, q.s = s := ⟨_, rfl⟩
      rw [hqs] at d0 d1 d2 d3
      simp only at d0 d1 d2 d3
      have HST : Hid (∀ w2 w3 A3 c3, Below wr.heap.size wr w2 → w3.ownsRow w1.heap.size 49 4 (.slice A3 (m' + 1) c3) (m' + 1) (cellsAll scells ((ts.take j).flatMap (fun k => [k.s])) ++ scells (s1, s2, s3, s4)) → w2.grownBy w3 (Value.slice A' m' c').ownBlock → ReadSt w1 w3 49 4 (Int × Int × Int × Int) scells ts (fun k => [k.s]) (j + 1) A3 (m' + 1) c3) := hidb (fun w2 w3 A3 c3 hb hr hg => HR.out.step HQ.out hb rfl (by rw [hqs, cellsAll_one]; exact hr) hg)
      have hsz := HR.out.bel.size
      have HBA : Hid (Below wr.heap.size wr (wr.alloc (.cells (scells (s1, s2, s3, s4)).toArray 49))) := hidb ((Below.refl _ _).alloc (Nat.le_refl _) _)
      clear hx hq hqs hcq
      go_wp2_with (first
        | (at_builtin; refine wpList_append_own _ rfl _ _ 30 rfl w1.heap.size 49 i0 (.agg #[.int .i64 0, .int .i64 0, .int .i64 0, .int .i64 0]) 4 32 Tryz.underlying30 hi hz0 hz1 hz2 rfl (by decide) _ m' _ rfl (by exact own_below HR.out.row HBA.out) ⟨wr.heap.size, 0, none⟩ 1 1 (scells (s1, s2, s3, s4)) rfl rfl (cells_new wr (scells (s1, s2, s3, s4)) _ _ rfl) (scells_oneS _) (by unfold maxLen; omega) (by omega) (by exact Nat.le_trans hsz HBA.out.size) ?_; intro v3 w3 hown3 hg3 _; obtain ⟨A3, c3, rfl⟩ := own_form2 hown3; have HR3 := hidb (HST.out _ w3 A3 c3 HBA.out hown3 hg3); clear hown3 hg3))
      go_roundw
      case rel => exact ⟨j + 1, A3, m' + 1, c3, by go_num, rfl, by omega, by omega, HR3⟩
      case measure => simp [intOf]; omega
    · obtain rfl : j = N := by omega
      have P : Hid (∃ ds, InOrderP v.ks ds ∧ OwnSpansC w ((ds.filter (fun k => k.s.2.2.2 == order)).map (·.s)) (.returned (.slice A' m' c')) wr) := hidb (by
        have h1 := HR.out.row
        have h2 := HR.out.len
        have e9 : (ts.take j).flatMap (fun k => [k.s]) = ts.map (·.s) := by
          rw [List.take_of_length_le (by rw [HNE.out]; exact Nat.le_refl _)]
          exact flat_one ts
        rw [e9] at h1 h2
        refine ⟨ds, HD.out, A', c', ?_, ?_, ?_⟩
        · rw [HTS.out, h2]
        · rw [HTS.out, h2]
          exact own_lower h1 (by have := HB0.out.size; have := HB1.out.size; omega)
        · exact HB0.out.trans ((HB1.out.trans (HR.out.bel.mono HB1.out.size)).mono HB0.out.size))
      go_wp2
      go_ret
      exact P.out

set_option maxRecDepth 100000 in
theorem code_pout {w : World} {Sh : Nat → Prop} {p hp ap g mb n m : Nat} {D : DataW Unit} {v : PoolW} (k : PlAt w Sh p hp ap g mb n m D v) (o : PlOk n m v) (_ : Unit) :
    Calls Tryz.prog 21 #[.pointer (some ⟨p, 0, none⟩)] w (Reads9 w v.ks (fun _ => true) outK) := by
  have cr : Calls Tryz.prog 57 #[.pointer (some ⟨p, 0, none⟩), .func (.func 65) #[] #[]] w (Rising w v.ks (fun _ => true)) :=
    code_rising k o 65 #[] _ (fun W2 t hb2 ht c hc => r2_all c t W2 ((k.cuts c hc).below hb2) ht)
  obtain ⟨_, hks⟩ := o.starts k.hp_.ok
  have HLEN : Hid (∀ ds, InOrderP v.ks ds → (ds.filter (fun _ => true)).length ≤ 1024 ∧ (∀ c ∈ ds.filter (fun _ => true), c ∈ v.ks) ∧ ∀ c ∈ ds.filter (fun _ => true), c.l.length ≤ 65536) := hidb (fun ds hd => by
    have hp1 : ds.Perm v.ks := (List.perm_ext_iff_of_nodup (nodup_of_mapK hd.1) (nodup_of_mapK o.ids)).2 hd.2.1
    have hl : (ds.filter (fun _ => true)).length ≤ ds.length := List.length_filter_le _ _
    have hm : ∀ c ∈ ds.filter (fun _ => true), c ∈ v.ks := fun c hc => (hd.2.1 c).1 (List.mem_filter.1 hc).1
    exact ⟨by rw [hp1.length_eq] at hl; omega, hm, fun c hc => (cList_len (o.lst c (hm c hc)) (by rw [k.ar.hlen]; exact k.ar.small)).1⟩)
  have HCI : Hid (∀ W, Below w.heap.size w W → ∀ c ∈ v.ks, W.cell? ⟨p, 1, none⟩ = some (.pointer (some ⟨ap, 0, none⟩)) ∧ Calls Tryz.prog 61 #[.pointer (some ⟨c.b, 0, none⟩), .pointer (some ⟨ap, 0, none⟩)] W (InIs W c.l) ∧ Calls Tryz.prog 67 #[.pointer (some ⟨c.b, 0, none⟩)] W (OwnInts W (pBlocks c.s))) := hidb (fun W hb c hc => by
    obtain ⟨h1, h2, h3, h4, h5⟩ := o.cutOk k.hp_.ok hc
    exact ⟨(k.below hb).c1, code_pin (k.below hb) o hc, code_pblocks c W ((k.cuts c hc).below hb) h1 h2 h3 h4 h5⟩)
  have HBL : Hid (∀ c ∈ v.ks, (pBlocks c.s).length ≤ 16) := hidb (fun c hc => by
    obtain ⟨h1, h2, h3, h4, h5⟩ := o.cutOk k.hp_.ok hc
    rw [pBlocks_length, h1]
    exact (pMany_16 _ h4 h5).2.1)
  obtain ⟨i0, hi, hz0, hz1, hz2⟩ := info_parts info_int
  unfold Rising OwnCuts at cr
  clear k o hks
  go_enter Tryz.func21, Tryz.ntmps21
  go_wp2_with (first
    | (go_at_call 57; (with_reducible refine cr.mono ?_); rintro e w1 ⟨ds, hd, A, d, rfl, hrow, hb1⟩; obtain ⟨ts, hts⟩ : ∃ ts, (List.filter (fun _ : CutV => true) ds) = ts := ⟨_, rfl⟩; rw [hts] at hrow; rw [hts]; obtain ⟨N, hN⟩ : ∃ N, List.length ts = N := ⟨_, rfl⟩; rw [hN] at hrow; rw [hN]))
  obtain ⟨hNl, hsub, hll⟩ := HLEN.out ds hd
  rw [hts] at hNl hsub hll
  rw [hN] at hNl
  have hsl := row_of_cuts hrow
  have HSUB := hidb hsub
  have HLL := hidb hll
  have HNE := hidb hN
  have HTS := hidb hts
  have HD := hidb hd
  have HB1 := hidb hb1
  have hz1s := hb1.size
  have HSL : Hid (∀ W, Below w1.heap.size w1 W → Sl W W.heap.size A N (ts.map pv)) := hidb (fun W hb => (hsl.below hb).more hb.size)
  clear hsub hll hN hts hd hb1 hsl hrow cr HLEN
  go_loopw [3, 5, 6, 10] (fun s5 _ _ s12 wr => ∃ (j : Nat) (A' : Option Addr) (m' c' : Nat), s12 = .int .i64 j ∧ s5 = .slice A' m' c' ∧ j ≤ N ∧ m' ≤ 16 * j ∧ Hid (ReadSt w1 wr 3 1 Int encI1 ts outK j A' m' c')) (fun _ _ _ s12 _ => (N - intOf s12).toNat)
  case atStart => exact ⟨0, none, 0, 0, rfl, rfl, by omega, by omega, hidb (ReadSt.start _ _ _ _ _ _ _)⟩
  case round =>
    obtain ⟨j, A', m', c', rfl, rfl, hj, hm', HR⟩ := hrel
    by_cases hlt : j < N
    · obtain ⟨b, off, u, rfl, _, hx, hc⟩ := (HSL.out wr HR.out.bel).at_ hlt
      obtain ⟨q, hq, rfl⟩ : ∃ q, ts[j]? = some q ∧ pv q = u := by
        rw [List.getElem?_map] at hx
        exact Option.map_eq_some_iff.1 hx
      have hqk := HSUB.out q (List.mem_of_getElem? hq)
      have hbw := HB1.out.trans (HR.out.bel.mono HB1.out.size)
      obtain ⟨c1, ci, _⟩ := HCI.out wr hbw q hqk
      have hll := HLL.out q (List.mem_of_getElem? hq)
      have hbl := HBL.out q hqk
      have hj0 : (0 : Int) ≤ (j : Int) := by omega
      have hj1 : (j : Int) < (N : Int) := by omega
      have HQ := hidb hq
      unfold pv at hc
      unfold InIs at ci
      obtain ⟨ml, hml⟩ : ∃ ml, (outK q).length = ml := ⟨_, rfl⟩
      have hml16 : ml ≤ 16 := by
        rw [← hml]
        exact Nat.le_trans (List.length_filter_le _ _) hbl
      have HML := hidb hml
      have HST : Hid (∀ w2 w3 A3 c3, Below wr.heap.size wr w2 → w3.ownsRow w1.heap.size 3 1 (.slice A3 (m' + ml) c3) (m' + ml) (cellsAll encI1 ((ts.take j).flatMap outK) ++ (outK q).map iv) → w2.grownBy w3 (Value.slice A' m' c').ownBlock → ReadSt w1 w3 3 1 Int encI1 ts outK (j + 1) A3 (m' + ml) c3) := hidb (fun w2 w3 A3 c3 hb hr hg => HR.out.step HQ.out hb HML.out (by rw [cellsAll_i (outK q)]; exact hr) hg)
      have hsz := HR.out.bel.size
      -- blocks, and DeleteFunc of them, behind 'in'
      have HDEL : Hid (∀ w2 A2 d2, Below wr.heap.size wr w2 → Sl w2 w2.heap.size A2 q.l.length (q.l.map iv) → ∀ w3 A3 d3, Below (w2.heap.size + 1) (w2.alloc (.cells #[.slice A2 q.l.length d2] 38)) w3 → w3.ownsRow (w2.heap.size + 1) 3 1 (.slice A3 (pBlocks q.s).length d3) (pBlocks q.s).length ((pBlocks q.s).map iv) →
          Calls Tryz.prog 66 #[.slice A3 (pBlocks q.s).length d3, .func (.func 68) #[] #[.pointer (some ⟨w2.heap.size, 0, none⟩)]] w3 fun e w4 => ∃ A4 c4, e = .returned (.slice A4 ml c4) ∧ Sl w4 w4.heap.size A4 ml ((outK q).map iv) ∧ (A4 = none → ml = 0) ∧ Below wr.heap.size wr w4) := hidb (fun w2 A2 d2 hb2 hin w3 A3 d3 hb3 hrow => by
        have hza : (w2.alloc (.cells #[.slice A2 q.l.length d2] 38)).heap.size = w2.heap.size + 1 := by simp
        have hbx : (w2.alloc (.cells #[.slice A2 q.l.length d2] 38)).cell? ⟨w2.heap.size, 0, none⟩ = some (.slice A2 q.l.length d2) := World.cell?_alloc_at _ _ _ 0 (by simp)
        have hina : Sl (w2.alloc (.cells #[.slice A2 q.l.length d2] 38)) (w2.heap.size + 1) A2 q.l.length (q.l.map iv) := (hin.alloc (Nat.le_refl _) _).more (Nat.le_succ _)
        have hrb : ∀ b, (Value.slice A3 (pBlocks q.s).length d3).ownBlock = some b → w2.heap.size + 1 ≤ b := fun b hb => (hrow.lt b hb).1
        refine (code_odel (fun x => decide (x ∈ q.l)) w2.heap.size A3 (pBlocks q.s).length d3 (pBlocks q.s) w3 (w2.heap.size + 1) hrow rfl (by omega) (fun W hg x hx => ?_)).mono ?_
        · have hbW : Below (w2.heap.size + 1) (w2.alloc (.cells #[.slice A2 q.l.length d2] 38)) W := hb3.grown hg (by have := hb3.size; omega) hrb
          exact q_out2 x w2.heap.size A2 q.l.length d2 q.l W ((hbW.cell (p := ⟨w2.heap.size, 0, none⟩) (by show w2.heap.size < _; omega)).trans hbx) ((hina.below hbW).more (by have := hbW.size; omega)) (by omega)
        · rintro e w4 ⟨A4, c4, rfl, hrow4, hg4⟩
          have e4 : ((pBlocks q.s).filter fun x => !(fun x => decide (x ∈ q.l)) x) = outK q := rfl
          rw [e4, HML.out] at hrow4
          refine ⟨A4, c4, by rw [e4, HML.out], Sl.of_own hrow4, fun h => ?_, ?_⟩
          · rcases hrow4.2 with ⟨_, h0⟩ | ⟨g', _, _, h1, _⟩
            · exact h0
            · injection h1 with h1; rw [h] at h1; cases h1
          · have hb5 : Below (w2.heap.size + 1) (w2.alloc (.cells #[.slice A2 q.l.length d2] 38)) w4 := hb3.grown hg4 (by have := hb3.size; omega) hrb
            exact (hb2.alloc hb2.size _).trans (hb5.mono (by have := hb2.size; omega)))
      have HBK : Hid (∀ w2 o, Below wr.heap.size wr w2 → Calls Tryz.prog 67 #[.pointer (some ⟨q.b, 0, none⟩)] (w2.alloc o) (OwnInts (w2.alloc o) (pBlocks q.s))) := hidb (fun w2 o hb => (HCI.out (w2.alloc o) (hbw.trans ((hb.alloc hb.size o).mono hbw.size)) q hqk).2.2)
      unfold OwnInts at HBK
      clear hx hq hml hbl
      go_wp2_with (first
        | (go_at_call 61; (with_reducible refine ci.mono ?_); rintro e w2 ⟨A2, d2, rfl, q3, q4, hb2, q6⟩; have hb2s := hb2.size; have cbk := HBK.out w2 (.cells #[.slice A2 q.l.length d2] 38) hb2; have HQ3 := hidb q3; clear q3 q4 q6)
        | (go_at_call 67; (with_reducible refine cbk.mono ?_); rintro e w3 ⟨A3, d3, rfl, hown3, hb3⟩; (rw [show (w2.alloc (.cells #[.slice A2 q.l.length d2] 38)).heap.size = w2.heap.size + 1 by simp] at hown3 hb3); have cdl := HDEL.out w2 A2 d2 hb2 HQ3.out w3 A3 d3 hb3 hown3; clear hown3 hb3)
        | (go_at_call 66; (with_reducible refine cdl.mono ?_); rintro e w4 ⟨A4, d4, rfl, p3, p4, hb4⟩; have hb4s := hb4.size)
        | (at_builtin; refine wpList_append_rowN w4 rfl _ _ 38 rfl w1.heap.size 3 i0 (.int .i64 0) 1 8 Tryz.underlying38 hi hz0 hz1 hz2 rfl (by decide) _ m' _ rfl (by exact own_below HR.out.row hb4) (by omega) A4 ml d4 ((outK q).map iv) rfl (by rw [List.length_map, HML.out, Nat.mul_one]) (fun h => p4 h) (sl_cells p3) (ivs_one _) (by unfold maxLen; omega) (by omega) ?_; intro A5 c5 w5 hown5 hg5; have HR5 := hidb (HST.out w4 w5 A5 c5 hb4 hown5 hg5); clear hown5 hg5))
      go_roundw
      case rel => exact ⟨j + 1, A5, m' + ml, c5, by go_num, rfl, by omega, by omega, HR5⟩
      case measure => simp [intOf]; omega
    · obtain rfl : j = N := by omega
      have P : Hid (Reads9 w v.ks (fun _ => true) outK (.returned (.slice A' m' c')) wr) := hidb (by
        have h1 := HR.out.row
        have h2 := HR.out.len
        rw [List.take_of_length_le (by rw [HNE.out]; exact Nat.le_refl _)] at h1 h2
        rw [cellsAll_i] at h1
        refine ⟨ds, HD.out, A', c', ?_, ?_, ?_⟩
        · rw [HTS.out, h2]
        · rw [HTS.out, h2]
          exact own_lower h1 (by have := HB1.out.size; omega)
        · exact HB1.out.trans (HR.out.bel.mono HB1.out.size))
      go_wp2
      go_ret
      exact P.out

end Go.Proofs.YtcgfmpegakpddaaGreat
