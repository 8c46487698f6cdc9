/- trim: whole spans are freed, unless the pool is held; what Hold returns. -/
import Derived.Test.YtcgfmpegakpddaaGreatPoolAt
namespace Go.Proofs.YtcgfmpegakpddaaGreat
open Go.RowKit Go.Maps
set_option linter.unusedVariables false

/-- Are all blocks of a cut span in its list? -/
def wholeK (k : CutV) : Bool := k.c.2 == ((pBlocks k.s).length : Int)
def pWhole (c : (Int × Int × Int × Int) × List Int) : Bool := c.2.length == (pBlocks c.1).length
/-- Whole spans are freed. -/
def pSweep (p : PoolV) : PoolV := if p.held then p else ⟨(hDrop p.heap ((p.l.filter pWhole).map (·.1.1))).1, p.l.filter (fun c => !pWhole c), p.held⟩
def trimV (v : PoolW) : PoolW := if v.held then v else ⟨(hDrop v.h ((v.ks.filter wholeK).map (·.s.1))).1, v.ws, v.held, v.ks.filter (fun k => !wholeK k)⟩

theorem hDrop_perm {h : HeapV} (k : HOk h) {a b : List Int} (hp : a.Perm b) : hDrop h a = hDrop h b := by
  by_cases c : a.Nodup ∧ ∀ i ∈ a, ∃ s ∈ h.l, s.1 = i
  · have c2 : b.Nodup ∧ ∀ i ∈ b, ∃ s ∈ h.l, s.1 = i := ⟨hp.nodup_iff.1 c.1, fun i hi => c.2 i (hp.mem_iff.2 hi)⟩
    obtain ⟨g1, e1, k1⟩ := hDrop_yes k c
    obtain ⟨g2, e2, k2⟩ := hDrop_yes k c2
    have hl : hLeft h.l a = hLeft h.l b := by
      unfold hLeft
      refine List.filter_congr fun s _ => ?_
      have e : a.contains s.1 = b.contains s.1 := by
        rw [Bool.eq_iff_iff, List.contains_iff_mem, List.contains_iff_mem]; exact hp.mem_iff
      rw [e]
    have hf := k1.free_eq k2 rfl (fun s => by show s ∈ hLeft h.l a ↔ s ∈ hLeft h.l b; rw [hl])
    rw [e1, e2, hl]
    simp only at hf
    rw [hf]
  · have c2 : ¬ (b.Nodup ∧ ∀ i ∈ b, ∃ s ∈ h.l, s.1 = i) := fun c3 => c ⟨hp.nodup_iff.2 c3.1, fun i hi => c3.2 i (hp.mem_iff.1 hi)⟩
    rw [hDrop_no k c, hDrop_no k c2]

section
variable {n m : Nat} {v : PoolW}
theorem PlOk.whole (o : PlOk n m v) (hn : v.ws.length ≤ 65536) {k : CutV} (hk : k ∈ v.ks) : wholeK k = pWhole k.plain := by
  have h := (cList_len (o.lst k hk) hn).2.2.2.1
  unfold wholeK pWhole CutV.plain
  simp only
  rw [← h, Bool.eq_iff_iff]
  simp
  omega
theorem PlOk.plain_filter (o : PlOk n m v) (hn : v.ws.length ≤ 65536) : (v.ks.filter (fun k => !wholeK k)).map CutV.plain = (v.ks.map CutV.plain).filter (fun c => !pWhole c) ∧ (v.ks.filter wholeK).map (·.s.1) = ((v.ks.map CutV.plain).filter pWhole).map (·.1.1) := by
  have e : ∀ k ∈ v.ks, wholeK k = (pWhole ∘ CutV.plain) k := fun k hk => o.whole hn hk
  constructor
  · rw [List.filter_map]
    congr 1
    exact List.filter_congr fun k hk => by show (!wholeK k) = !(pWhole k.plain); rw [o.whole hn hk]
  · rw [List.filter_map, List.map_map, List.filter_congr e]
    rfl
theorem PlOk.trim_plain (o : PlOk n m v) (hn : v.ws.length ≤ 65536) : (trimV v).plain = pSweep v.plain := by
  unfold trimV pSweep
  obtain ⟨e1, e2⟩ := o.plain_filter hn
  cases hh : v.held with
  | true => simp [PoolW.plain, hh]
  | false =>
    simp only [PoolW.plain, hh, Bool.false_eq_true, if_false]
    rw [e1, e2]
theorem PlOk.starts (o : PlOk n m v) (k : HOk v.h) : (v.ks.map (·.s.2.1)).Nodup ∧ v.ks.length ≤ 1024 := by
  have h1 : (v.ks.map (·.s.2.1)).Nodup := by
    refine List.pairwise_map.2 ((List.pairwise_map.1 o.ids).imp_of_mem fun {a b} ha hb hne => ?_)
    have h2 := k.side (o.mem a ha) (o.mem b hb) (fun e => hne (by rw [e]))
    have h3 := k.start (o.mem a ha)
    have h4 := k.start (o.mem b hb)
    omega
  refine ⟨h1, ?_⟩
  have h2 := nodup_bound 1024 (v.ks.map fun c => c.s.2.1 + 1) (List.pairwise_map.2 ((List.pairwise_map.1 h1).imp fun {a b} h e => h (by omega))) (fun x hx => by
    obtain ⟨c, hc, rfl⟩ := List.mem_map.1 hx
    have h3 := k.start (o.mem c hc)
    have h4 := k.p1
    omega)
  rw [List.length_map] at h2
  exact h2
/-- Those whose numbers aren't among these. -/
def leftK (ks ts : List CutV) : List CutV := ks.filter fun k => !(ts.any fun t => t.s.1 == k.s.1)
theorem leftK_nil (ks : List CutV) : leftK ks [] = ks := by unfold leftK; simp
theorem leftK_snoc (ks ts : List CutV) (t : CutV) : leftK ks (ts ++ [t]) = (leftK ks ts).filter fun k => !(t.s.1 == k.s.1) := by
  unfold leftK
  rw [List.filter_filter]
  refine List.filter_congr fun k _ => ?_
  rw [List.any_append]
  simp [Bool.and_comm]
theorem leftK_whole (hd : (v.ks.map (·.s.1)).Nodup) {ds : List CutV} (h : InOrderP v.ks ds) : leftK v.ks (ds.filter wholeK) = v.ks.filter fun k => !wholeK k := by
  unfold leftK
  refine List.filter_congr fun k hk => ?_
  congr 1
  rw [Bool.eq_iff_iff, List.any_eq_true]
  constructor
  · rintro ⟨t, ht, e⟩
    obtain ⟨h1, h2⟩ := List.mem_filter.1 ht
    rw [← kids_inj hd ((h.2.1 t).1 h1) hk (by simpa using e)]
    exact h2
  · intro hw
    exact ⟨k, List.mem_filter.2 ⟨(h.2.1 k).2 hk, hw⟩, by simp⟩
theorem PIs.del {D : DataW Unit} {ks : List CutV} (h : PIs D ks) (id : Int) : PIs (D.del (.int .i64 id)) (ks.filter fun k => !(id == k.s.1)) := by
  refine ⟨fun i => ?_, fun k hk z => ?_⟩
  · by_cases c : i = id
    · subst c
      rw [Maps.has_del_same]
      symm
      rw [List.any_eq_false]
      intro k hk
      have := (List.mem_filter.1 hk).2
      simp at this ⊢
      exact fun e => this e.symm
    · rw [Maps.has_del_other (lit_ne c), h.has, List.any_filter]
      congr 1
      funext k
      by_cases e : k.s.1 = i
      · simp [e, Ne.symm c]
      · simp [e]
  · obtain ⟨h1, h2⟩ := List.mem_filter.1 hk
    rw [Maps.atKey_del_other (lit_ne (fun e : k.s.1 = id => by simp [e] at h2)), h.at_ k h1]
end
/-- trim's loop, behind j rounds. -/
structure TrimSt (W1 wr : World) (mb m : Nat) (D : DataW Unit) (ks ds : List CutV) (j : Nat) (A : Option Addr) (c : Nat) : Prop where
  gr : W1.grownBy wr (some mb)
  mp : wr.ownsMap Tryz.prog 3 ptrR mb m D
  mis : PIs D (leftK ks (ds.take j))
  row : wr.ownsRow W1.heap.size 3 1 (.slice A j c) j ((ds.take j).map fun k => iv k.s.1)
theorem TrimSt.app {W1 wr w2 : World} {mb m j c : Nat} {D : DataW Unit} {ks ds : List CutV} {A : Option Addr} (h : TrimSt W1 wr mb m D ks ds j A c) (hlt : mb < W1.heap.size) (hb : Below W1.heap.size wr w2) : W1.grownBy w2 (some mb) ∧ w2.ownsMap Tryz.prog 3 ptrR mb m D :=
  ⟨⟨hb.os.trans h.gr.os, hb.tape.trans h.gr.tape, hb.output.trans h.gr.output, Nat.le_trans h.gr.size hb.size, fun i hi hr => (hb.block i hi).trans (h.gr.block i hi hr)⟩, ownsMap_block h.mp (hb.block mb hlt)⟩

theorem nodup_of_mapK {α β : Type} {f : α → β} {l : List α} (h : (l.map f).Nodup) : l.Nodup := (List.pairwise_map.1 h).imp fun h e => h (by rw [e])
/-- What trim does. -/
def Trimmed (w : World) (Sh : Nat → Prop) (p hp ap g mb n m : Nat) (v : PoolW) (e : Ending) (w' : World) : Prop :=
  e = .returned (.tuple #[]) ∧ ∃ Sh' D', PlAt w' Sh' p hp ap g mb n m D' (trimV v) ∧ PlOk n m (trimV v) ∧ Kept (PlS Sh p ap g mb v.ks) w w' ∧ ∀ b, Sh' b → Sh b ∨ w.heap.size ≤ b

theorem PlOk.trim {n m : Nat} {v : PoolW} (o : PlOk n m v) (k : HOk v.h) (hn : v.ws.length ≤ 65536) : PlOk n m (trimV v) := by
  unfold trimV
  cases hh : v.held with
  | true => simpa using o
  | false =>
    simp only [Bool.false_eq_true, if_false]
    have hids : ((v.ks.filter wholeK).map (·.s.1)).Nodup ∧ ∀ i ∈ (v.ks.filter wholeK).map (·.s.1), ∃ s ∈ v.h.l, s.1 = i := ⟨List.Nodup.sublist (List.Sublist.map _ List.filter_sublist) o.ids, fun i hi => by
      obtain ⟨c, hc, rfl⟩ := List.mem_map.1 hi
      exact ⟨c.s, o.mem c (List.mem_filter.1 hc).1, rfl⟩⟩
    obtain ⟨g, e1, k1⟩ := hDrop_yes k hids
    rw [e1]
    have hsub : ∀ c, c ∈ v.ks.filter (fun k => !wholeK k) → c ∈ v.ks := fun c hc => (List.mem_filter.1 hc).1
    refine ⟨o.len, o.wide, fun c hc => ?_, fun c hc => o.four c (hsub c hc), fun c hc => o.lst c (hsub c hc), fun c hc => o.sub c (hsub c hc), List.Nodup.sublist (List.Sublist.map _ List.filter_sublist) o.ids, o.cnt⟩
    show c.s ∈ hLeft v.h.l _
    rw [hLeft_mem]
    refine ⟨o.mem c (hsub c hc), fun hi => ?_⟩
    obtain ⟨d, hd, e⟩ := List.mem_map.1 hi
    obtain ⟨h1, h2⟩ := List.mem_filter.1 hd
    have h3 := (List.mem_filter.1 hc).2
    rw [← kids_inj o.ids h1 (hsub c hc) e, h2] at h3
    cases h3

set_option maxRecDepth 100000 in
theorem code_ptrim {w : World} {Sh : Nat → Prop} {p hp ap g mb n m : Nat} {D : DataW Unit} {v : PoolW} (k : PlAt w Sh p hp ap g mb n m D v) (o : PlOk n m v) :
    Calls Tryz.prog 106 #[.pointer (some ⟨p, 0, none⟩)] w (Trimmed w Sh p hp ap g mb n m v) := by
  have hws : v.ws.length ≤ 65536 := by rw [k.ar.hlen]; exact k.ar.small
  have cp := code_pparts p (some ⟨hp, 0, none⟩) (some ⟨ap, 0, none⟩) (some mb) v.held w k.c0 k.c1 k.c2 k.c3
  cases hh : v.held with
  | true =>
    have e : trimV v = v := by unfold trimV; rw [hh]; rfl
    have HE : Hid (∀ W, Below w.heap.size w W → Trimmed w Sh p hp ap g mb n m v (.returned (.tuple #[])) W) := hidb (fun W hb => ⟨rfl, Sh, D, by rw [e]; exact k.below hb, by rw [e]; exact o, Kept.of_below hb _, fun b h => Or.inl h⟩)
    rw [hh] at cp
    clear k o e hh hws
    go_enter Tryz.func106, Tryz.ntmps106
    go_wp2_with (first
      | (go_at_call 112; (with_reducible refine cp.mono ?_); rintro e w1 ⟨rfl, hb1⟩; have P := hidb (HE.out _ (hb1.alloc hb1.size (.cells #[.pointer (some ⟨hp, 0, none⟩), .pointer (some ⟨ap, 0, none⟩), .map (some mb), .bool true] 119)))))
    exact bodyPost_ret (v := .tuple #[]) (by simp [results, Tryz.results106, go_sem]) rfl P.out
  | false =>
    rw [hh] at cp
    obtain ⟨hst, hlen⟩ := o.starts k.hp_.ok
    have HK := hidb k
    have cr : ∀ W, Below w.heap.size w W → Calls Tryz.prog 57 #[.pointer (some ⟨p, 0, none⟩), .func (.func 142) #[] #[]] W (Rising W v.ks wholeK) := fun W hb => code_rising (k.below hb) o 142 #[] wholeK (fun W2 t hb2 ht c hc => r2_full c t W2 (((k.below hb).cuts c hc).below hb2) ht (o.cutOk k.hp_.ok hc))
    have HDS : Hid (∀ ds, InOrderP v.ks ds → (ds.filter wholeK).length ≤ 1024 ∧ (∀ c ∈ ds.filter wholeK, c ∈ v.ks) ∧ ((ds.filter wholeK).map (·.s.1)).Perm ((v.ks.filter wholeK).map (·.s.1)) ∧ leftK v.ks (ds.filter wholeK) = v.ks.filter (fun k => !wholeK k)) := hidb (fun ds hd => by
      have hp1 : ds.Perm v.ks := (List.perm_ext_iff_of_nodup (nodup_of_mapK hd.1) (nodup_of_mapK o.ids)).2 hd.2.1
      have hl : (ds.filter wholeK).length ≤ ds.length := List.length_filter_le _ _
      exact ⟨by rw [hp1.length_eq] at hl; omega, fun c hc => (hd.2.1 c).1 (List.mem_filter.1 hc).1, (hp1.filter _).map _, leftK_whole o.ids hd⟩)
    have HIN : Hid (∀ c ∈ v.ks, in64 c.s.1) := hidb (fun c hc => by
      have h1 := k.hp_.ok.idr c.s (o.mem c hc)
      have h2 := k.hp_.lb
      exact ⟨by omega, by omega⟩)
    have HEND : Hid (∀ wr D' ks' Sh2 (J : List Int) w', PlAt wr Sh p hp ap g mb n m D' { v with ks := ks' } → Kept (PlS Sh p ap g mb v.ks) w wr → ks' = v.ks.filter (fun k => !wholeK k) → J.Perm ((v.ks.filter wholeK).map (·.s.1)) → Hp w' (more Sh wr w') hp (hDrop v.h J).1 → Kept Sh wr w' → Sh2 = more Sh wr w' → Trimmed w Sh p hp ap g mb n m v (.returned (.tuple #[])) w') := hidb (fun wr D' ks' Sh2 J w' q1 q2 q3 q4 q5 q6 _ => by
      have h1 := q1.heap_ q6 q5
      have e1 : ({ { v with ks := ks' } with h := (hDrop v.h J).1 } : PoolW) = trimV v := by
        unfold trimV
        rw [hh, hDrop_perm k.hp_.ok q4, q3]
        simp
      rw [e1] at h1
      refine ⟨rfl, _, D', h1, o.trim k.hp_.ok hws, q2.trans q6 (fun b hb h => Or.inl h), fun b hb => ?_⟩
      rcases hb.1 with h | h
      · exact Or.inl h
      · exact Or.inr (Nat.le_trans q2.size h))
    have hmb := k.mp.lt
    have HCB : Hid (∀ W, w.grownBy W (some mb) → ∀ c ∈ v.ks, CutAt W c) := hidb (fun W hg c hc => (k.cuts c hc).keep (hg.block c.b (k.cuts c hc).lt (fun e => (k.nk c hc).2.2.2.1 (by injection e))))
    have HMAP : Hid (∀ W D' ks', w.grownBy W (some mb) → W.ownsMap Tryz.prog 3 ptrR mb m D' → PIs D' ks' → (∀ c ∈ ks', c ∈ v.ks) → (ks'.map (·.b)).Nodup → PlAt W Sh p hp ap g mb n m D' { v with ks := ks' }) := hidb (fun W D' ks' hg hm hi hsub hd => by
      have hc := HCB.out W hg
      exact k.map_ (w' := W) hg hm hi (fun c h => ⟨k.cuts c (hsub c h), k.nk c (hsub c h)⟩) hd)
    have HNDB : Hid (∀ ts, (((leftK v.ks ts).map (·.b)).Nodup ∧ ∀ c ∈ leftK v.ks ts, c ∈ v.ks)) := hidb (fun ts => ⟨List.Nodup.sublist (List.Sublist.map _ List.filter_sublist) k.nd, fun c hc => (List.mem_filter.1 hc).1⟩)
    have HP0 := hidb k.mp
    have HPI := hidb k.mis
    have HMBS : Hid (∀ W, w.grownBy W (some mb) → Kept (PlS Sh p ap g mb v.ks) w W) := hidb (fun W hg => (Kept.refl _ w).grown hg (fun b e => by injection e with e; subst e; exact Or.inl (by unfold PlS; simp)))
    obtain ⟨i0, hi, hz0, hz1, hz2⟩ := info_parts info_int
    obtain ⟨ks, hks⟩ : ∃ ks, v.ks = ks := ⟨_, rfl⟩
    rw [hks] at cr HDS HIN HCB HNDB HPI
    have HKS := hidb hks
    clear hks k o hh hws hst hlen
    go_enter Tryz.func106, Tryz.ntmps106
    go_wp2_with (first
      | (go_at_call 112; (with_reducible refine cp.mono ?_); rintro e w1 ⟨rfl, hb1⟩)
      | (go_at_call 57; (with_reducible refine (cr _ (hb1.alloc hb1.size _)).mono ?_); rintro e w2 ⟨ds, hd, A, c, rfl, hrow, hb2'⟩))
    have hbX := hb1.alloc hb1.size (.cells #[.pointer (some ⟨hp, 0, none⟩), .pointer (some ⟨ap, 0, none⟩), .map (some mb), .bool false] 119)
    have hb2 := hbX.trans (hb2'.mono hbX.size)
    have y0 : w2.cell? ⟨w1.heap.size, 0, none⟩ = some (.pointer (some ⟨hp, 0, none⟩)) := (hb2'.cell (p := ⟨w1.heap.size, 0, none⟩) (by simp)).trans (by simp)
    have y2 : w2.cell? ⟨w1.heap.size, 2, none⟩ = some (.map (some mb)) := (hb2'.cell (p := ⟨w1.heap.size, 2, none⟩) (by simp)).trans (by simp)
    obtain ⟨hN, hsub, hperm, hleft⟩ := HDS.out ds hd
    generalize ds.filter wholeK = ts at hN hsub hperm hleft hrow
    obtain ⟨N, hNe⟩ : ∃ N, ts.length = N := ⟨_, rfl⟩
    rw [hNe] at hrow hN
    rw [hNe]
    have hsz1 : w.heap.size ≤ w1.heap.size := hb1.size
    have hsz2 := hb2.size
    have hob : ∀ a, A = some a → mb < a.block := fun a ha => by
      subst ha
      have hsx : (w1.alloc (.cells #[.pointer (some ⟨hp, 0, none⟩), .pointer (some ⟨ap, 0, none⟩), .map (some mb), .bool false] 119)).heap.size = w1.heap.size + 1 := by simp
      rcases hrow.2 with ⟨h, _⟩ | ⟨g', cap, cur, h, hg', _⟩
      · cases h
      · injection h with h1
        injection h1 with h1
        rw [h1]
        show mb < g'
        omega
    have hsl : Sl w2 w2.heap.size A N (ts.map pv) := by rw [cellsAll_p] at hrow; exact Sl.of_own hrow
    have HX : Hid (∀ W, w2.grownBy W (some mb) → W.cell? ⟨w1.heap.size, 0, none⟩ = some (.pointer (some ⟨hp, 0, none⟩)) ∧ W.cell? ⟨w1.heap.size, 2, none⟩ = some (.map (some mb)) ∧ Sl W W.heap.size A N (ts.map pv) ∧ (∀ c ∈ ks, CutAt W c) ∧ w.grownBy W (some mb)) := hidb (fun W hg => by
      have hlt1 : w1.heap.size < w2.heap.size := lt_of_cell y0
      have hbx := hg.block w1.heap.size hlt1 (fun e => by injection e with e; omega)
      have hgw := grown_trans (below_to_grown hb2 (some mb)) hg
      exact ⟨(World.cell?_of_block (w := w2) (a := ⟨w1.heap.size, 0, none⟩) hbx).trans y0, (World.cell?_of_block (w := w2) (a := ⟨w1.heap.size, 2, none⟩) hbx).trans y2, (hsl.beside hg (fun _ a ha e => by have := hob a ha; omega)).more hg.size, HCB.out W hgw, hgw⟩)
    have HT0 : Hid (TrimSt w2 w2 mb m D ks ts 0 none 0) := hidb (by
      refine ⟨grownSelf _ _, ownsMap_block HP0.out (hb2.block mb hmb), ?_, ?_⟩
      · rw [List.take_zero, leftK_nil]; exact HPI.out
      · rw [List.take_zero]; exact World.ownsRow_nil _ _ _ _)
    have hmb2 : mb < w2.heap.size := by omega
    have HNE := hidb hNe
    have HSUB := hidb hsub
    have HB2 := hidb hb2
    clear hrow hd hob hsl y0 y2 hbX hb2' HDS HCB HP0 HPI hNe hsub cr hb2 cp
    go_loopw [3, 5, 13] (fun s3 _ s13 wr => ∃ (j : Nat) (A' : Option Addr) (c' : Nat) (D' : DataW Unit), s13 = .int .i64 j ∧ s3 = .slice A' j c' ∧ j ≤ N ∧ Hid (TrimSt w2 wr mb m D' ks ts j A' c')) (fun _ _ s13 _ => (N - intOf s13).toNat)
    case atStart => exact ⟨0, none, 0, D, rfl, rfl, by omega, HT0⟩
    case round =>
      obtain ⟨j, A', c', D', rfl, rfl, hj, HT⟩ := hrel
      by_cases hlt : j < N
      · obtain ⟨y0, y2, hsl, hcut, hgw⟩ := HX.out wr HT.out.gr
        obtain ⟨b, off, u, rfl, _, hx, hc⟩ := hsl.at_ hlt
        obtain ⟨q, hq, rfl⟩ : ∃ q, ts[j]? = some q ∧ pv q = u := by
          rw [List.getElem?_map] at hx
          exact Option.map_eq_some_iff.1 hx
        have hqk := HSUB.out q (List.mem_of_getElem? hq)
        have hid := HIN.out q hqk
        have hk0 := (hcut q hqk).c0
        have hj0 : (0 : Int) ≤ (j : Int) := by omega
        have hj1 : (j : Int) < (N : Int) := by omega
        have HQ := hidb hq
        clear hx hq
        unfold pv at hc
        have hown := HT.out.row
        have hsz3 := HT.out.gr.size
        obtain ⟨id, hidq⟩ : ∃ id, q.s.1 = id := ⟨_, rfl⟩
        rw [hidq] at hid hk0
        have hqb : q.b < wr.heap.size := lt_of_cell hk0
        have HQS := hidb hidq
        clear hidq hsl hcut hgw
        go_wp2_with (first
          | (at_builtin; refine wpList_append_one wr rfl _ _ 38 rfl w2.heap.size 3 i0 (.int .i64 0) 8 Tryz.underlying38 hi hz0 hz1 hz2 rfl _ _ _ rfl (by exact hown) hsz3 (.int .i64 id) rfl _ rfl (by unfold maxLen; omega) (by omega) ?_; intro v3 w3 hown3 hb3; obtain ⟨A3, c3, rfl⟩ := own_form hown3))
        obtain ⟨hg3, hm3⟩ := HT.out.app hmb2 hb3
        obtain ⟨w4, hrun, hown4, hturn⟩ := World.ownsMap.drop (P := Tryz.prog) (w := w3.drew) (ownsMap_block (w' := w3.drew) hm3 rfl) keyed Tryz.underlying117 (key_of hid) 0
        have hg4 : w3.drew.grownBy w4 (some mb) := hturn.grown
        have hg24 : w2.grownBy w4 (some mb) := grown_trans (grown_draw hg3) hg4
        have HT4 : Hid (TrimSt w2 w4 mb m (D'.del (.int .i64 id)) ks ts (j + 1) A3 c3) := hidb (by
          have e : ts.take (j + 1) = ts.take j ++ [q] := by rw [List.take_add_one, HQ.out]; rfl
          refine ⟨hg24, hown4, ?_, ?_⟩
          · rw [e, leftK_snoc, HQS.out]
            exact HT.out.mis.del id
          · rw [e, List.map_append]
            have h1 := own_past (W := w3.drew) (W' := w4) (b := mb) (base := w2.heap.size) (by exact hown3) hmb2 hg4
            rw [show [q].map (fun k => iv k.s.1) = [iv id] by simp [HQS.out]]
            exact h1)
        obtain ⟨x0, x2, _, hcut3, _⟩ := HX.out w3 hg3
        have xk := (hcut3 q hqk).c0
        rw [HQS.out] at xk
        have S4 : Hid (w4.cell? ⟨w1.heap.size, 2, none⟩ = some (.map (some mb)) ∧ w4.cell? ⟨q.b, 0, none⟩ = some (.int .i64 id)) := hidb (by
          obtain ⟨_, z2, _, hcut4, _⟩ := HX.out w4 hg24
          have zk := (hcut4 q hqk).c0
          rw [HQS.out] at zk
          exact ⟨z2, zk⟩)
        clear hown3 hb3 hg3 hm3 hturn hg4 hg24 hown4 hcut3 hown y0 y2 hk0 x0
        go_region_held3 (fun w' => w'.cell? ⟨w1.heap.size, 2, none⟩ = some (.map (some mb)) ∧ w'.cell? ⟨q.b, 0, none⟩ = some (.int .i64 id)) (first | exact S4.out | (go_keep; done)) (fail)
        go_wp2
        go_roundw
        case rel => exact ⟨j + 1, A3, c3, _, by go_num, rfl, by omega, HT4⟩
        case measure => simp [intOf]; omega
      · obtain rfl : j = N := by omega
        obtain ⟨y0, y2, _, _, hgw⟩ := HX.out wr HT.out.gr
        have ht : ts.take j = ts := List.take_of_length_le (by rw [HNE.out]; exact Nat.le_refl _)
        have hrow := HT.out.row
        rw [ht] at hrow
        have hsl : Sl wr wr.heap.size A' j ((ts.map (·.s.1)).map iv) := by rw [List.map_map]; exact Sl.of_own hrow
        obtain ⟨hnd, hsub2⟩ := HNDB.out ts
        have hmis := HT.out.mis
        rw [ht] at hmis
        have hpl := HMAP.out wr D' (leftK ks ts) hgw HT.out.mp hmis (by rw [HKS.out]; exact hsub2) hnd
        have hf := code_hfree hpl.hp_ A' j c' (ts.map (·.s.1)) hsl (by omega) (fun i hi => by
          obtain ⟨q, hq, rfl⟩ := List.mem_map.1 hi
          exact HIN.out q (HSUB.out q hq))
        have HPL := hidb hpl
        have HGW := hidb hgw
        have HFIN : Hid (∀ w5, Hp w5 (more Sh wr w5) hp (hDrop v.h (ts.map (·.s.1))).1 → Kept Sh wr w5 → Trimmed w Sh p hp ap g mb n m v (.returned (.tuple #[])) w5) := hidb (fun w5 h1 h2 => HEND.out wr D' (leftK ks ts) _ (ts.map (·.s.1)) w5 HPL.out (HMBS.out wr HGW.out) (by rw [HKS.out]; exact hleft) (by rw [HKS.out]; exact hperm) h1 h2 rfl)
        unfold FreedHp at hf
        clear hrow hsl hmis hpl hgw HT HX hnd hsub2
        go_wp2_with (go_at_call 143; (with_reducible refine hf.mono ?_); rintro e w5 ⟨rfl, hp5, hk5⟩; have P := hidb (HFIN.out w5 hp5 hk5))
        exact bodyPost_ret (v := .tuple #[]) (by simp [results, Tryz.results106, go_sem]) rfl P.out

/-- Hold, of a nil pool. -/
theorem code_phold_nil (on : Bool) (w : World) : Calls Tryz.prog 54 #[.pointer none, .bool on] w fun e w' => e = .returned (.bool false) ∧ w' = w := by
  go_enter Tryz.func54, Tryz.ntmps54
  go_wp2
  go_ret
  exact ⟨rfl, rfl⟩
/-- What Hold does. -/
def holdV (v : PoolW) (on : Bool) : PoolW := trimV { v with held := on }
def Held (w : World) (Sh : Nat → Prop) (p hp ap g mb n m : Nat) (v : PoolW) (on : Bool) (e : Ending) (w' : World) : Prop :=
  e = .returned (.bool v.held) ∧ ∃ Sh' D', PlAt w' Sh' p hp ap g mb n m D' (holdV v on) ∧ PlOk n m (holdV v on) ∧ Kept (PlS Sh p ap g mb v.ks) w w' ∧ ∀ b, Sh' b → Sh b ∨ w.heap.size ≤ b
theorem code_phold {w : World} {Sh : Nat → Prop} {p hp ap g mb n m : Nat} {D : DataW Unit} {v : PoolW} (k : PlAt w Sh p hp ap g mb n m D v) (o : PlOk n m v) (on : Bool) :
    Calls Tryz.prog 54 #[.pointer (some ⟨p, 0, none⟩), .bool on] w (Held w Sh p hp ap g mb n m v on) := by
  have k2 := k.hold on
  have o2 : PlOk n m { v with held := on } := ⟨o.len, o.wide, o.mem, o.four, o.lst, o.sub, o.ids, o.cnt⟩
  have ct := code_ptrim k2 o2
  have HE : Hid (∀ w', Trimmed (w.setCell ⟨p, 3, none⟩ (.bool on)) Sh p hp ap g mb n m { v with held := on } (.returned (.tuple #[])) w' → Held w Sh p hp ap g mb n m v on (.returned (.bool v.held)) w') := hidb (fun w' ⟨_, Sh', D', q1, q2, q3, q4⟩ => by
    refine ⟨rfl, Sh', D', q1, q2, ?_, fun b hb => by simpa using q4 b hb⟩
    exact (((Kept.refl (PlS Sh p ap g mb v.ks) w).set (a := ⟨p, 3, none⟩) (Or.inl (by unfold PlS; simp)) (.bool on))).trans q3 (fun b hb h => h))
  have c3 := k.c3
  have f3 := k.fz 3
  obtain ⟨held, hh⟩ : ∃ held, v.held = held := ⟨_, rfl⟩
  rw [hh] at c3 HE
  clear k k2 o o2 hh
  go_enter Tryz.func54, Tryz.ntmps54
  go_wp2_with (go_at_call 106; (with_reducible refine ct.mono ?_); rintro e w1 ht; have he := ht.1; subst he; have P := hidb (HE.out _ ht); clear ht)
  go_ret
  exact P.out

end Go.Proofs.YtcgfmpegakpddaaGreat
