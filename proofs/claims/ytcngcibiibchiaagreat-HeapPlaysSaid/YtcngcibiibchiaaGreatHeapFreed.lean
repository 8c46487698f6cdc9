/- What Free of layer 7 (heap) does. -/
import Derived.Test.YtcngcibiibchiaaGreatHeapFree0
import Derived.Test.YtcngcibiibchiaaGreatRunsAdd
import Derived.Maps.OwnSet
namespace Go.Proofs.YtcngcibiibchiaaGreat
open Go.RowKit Go.Maps
set_option linter.unusedVariables false

/-- Numbers of spans that are there, each once. -/
def Good (h : HeapV) (J : List Int) : Prop := J.Nodup ∧ ∀ i ∈ J, ∃ s ∈ h.l, s.1 = i
/-- Behind the first numbers: their runs in a row, themselves in a map. -/
structure FreeSt (w W : World) (h : HeapV) (J : List Int) (j : Nat) (A : Option Addr) (c : Nat) (Dn : DataW Unit) : Prop where
  good : Good h J
  row : W.ownsRow (w.heap.size + 1 + 1) 41 2 (.slice A j c) j (rcells (runsOf h.l J))
  nm : W.ownsMap Tryz.prog 3 boolR w.heap.size j Dn
  ni : NIs Dn J
  box : W.cell? ⟨w.heap.size + 1, 0, none⟩ = some (.map (some w.heap.size))
  bel : Below w.heap.size w W
  le : w.heap.size + 1 + 1 ≤ W.heap.size
  jl : J.length = j
section
variable {w W W' w3 w4 : World} {h : HeapV} {J : List Int} {j c : Nat} {A : Option Addr} {Dn : DataW Unit}
theorem FreeSt.below (k : FreeSt w W h J j A c Dn) (hb : Below W.heap.size W W') : FreeSt w W' h J j A c Dn :=
  ⟨k.good, own_below k.row hb, ownsMap_block k.nm (hb.block _ k.nm.lt), k.ni, (hb.cell (lt_of_cell k.box)).trans k.box, k.bel.trans (hb.mono k.bel.size), Nat.le_trans k.le hb.size, k.jl⟩
theorem FreeSt.row3 (k : FreeSt w W h J j A c Dn) (hg3 : W.grownBy w3 (some w.heap.size)) (o : Obj) : (w3.alloc o).ownsRow (w.heap.size + 1 + 1) 41 2 (.slice A j c) j (rcells (runsOf h.l J)) :=
  (own_past k.row (by omega) hg3).alloc _
theorem FreeSt.push {A' : Option Addr} {c' : Nat} {i s l : Int} {o : Obj} (k : FreeSt w W h J j A c Dn) (hi : in64 i) (hnew : J.contains i = false) (hth : ∃ t ∈ h.l, t.1 = i) (hr : rnOf (spanOf h.l i) = (s, l))
    (hg3 : W.grownBy w3 (some w.heap.size)) (hm3 : w3.ownsMap Tryz.prog 3 boolR w.heap.size (j + 1) (Dn.put (.int .i64 i) (.lit (.bool true)))) (hg4 : (w3.alloc o).grownBy w4 (Value.slice A j c).ownBlock)
    (hr4 : w4.ownsRow (w.heap.size + 1 + 1) 41 2 (.slice A' (j + 1) c') (j + 1) (rcells (runsOf h.l J) ++ [iv s, iv l])) : FreeSt w w4 h (J ++ [i]) (j + 1) A' c' (Dn.put (.int .i64 i) (.lit (.bool true))) := by
  have hs := hg3.size
  have hk := k.le
  have hne : ∀ b, b < w.heap.size + 1 + 1 → some b ≠ (Value.slice A j c).ownBlock := fun b hb e => by
    have := (k.row.lt b e.symm).1
    omega
  have hb4 : ∀ b, b < w3.heap.size → b < w.heap.size + 1 + 1 → w4.heap[b]? = w3.heap[b]? := fun b hb hb2 => (hg4.block b (by simp; omega) (hne b hb2)).trans (Below.heap_alloc _ _ _ hb)
  refine ⟨⟨?_, ?_⟩, ?_, ownsMap_block hm3 (hb4 _ hm3.lt (by omega)), k.ni.put (IsMap_any k.nm) hi, ?_, ?_, ?_, by rw [List.length_append, k.jl]; rfl⟩
  · refine List.nodup_append.2 ⟨k.good.1, by simp, fun a ha b hb e => ?_⟩
    obtain rfl := List.mem_singleton.1 hb
    subst e
    have : J.contains a = true := by simpa using ha
    rw [hnew] at this; cases this
  · intro x hx
    rcases List.mem_append.1 hx with hx | hx
    · exact k.good.2 x hx
    · obtain rfl := List.mem_singleton.1 hx; exact hth
  · unfold runsOf at hr4 ⊢
    rw [List.map_append, rcells_append]
    rw [List.map_cons, List.map_nil, hr]
    exact hr4
  · have h1 : w3.heap[w.heap.size + 1]? = W.heap[w.heap.size + 1]? := hg3.block _ (by omega) (fun e => by injection e with e; omega)
    exact (World.cell?_of_block (w := w3) (a := ⟨w.heap.size + 1, 0, none⟩) (hb4 (w.heap.size + 1) (by omega) (by omega))).trans ((World.cell?_of_block (w := W) (a := ⟨w.heap.size + 1, 0, none⟩) h1).trans k.box)
  · have h1 : Below w.heap.size w w3 := k.bel.grown hg3 k.bel.size (fun b e => by injection e with e; omega)
    exact (h1.alloc h1.size o).grown hg4 (by have := h1.size; simp; omega) (fun b e => by have := (k.row.lt b e).1; omega)
  · have := hg4.size
    simp at this
    omega
end

/-- What Free has laid itself. -/
structure FreeTop (w W : World) (rs : List (Int × Int)) (J : List Int) (j : Nat) (A : Option Addr) (c : Nat) (Dn : DataW Unit) : Prop where
  row : W.ownsRow (w.heap.size + 1 + 1) 41 2 (.slice A j c) j (rcells rs)
  nm : W.ownsMap Tryz.prog 3 boolR w.heap.size j Dn
  ni : NIs Dn J
  box : W.cell? ⟨w.heap.size + 1, 0, none⟩ = some (.map (some w.heap.size))
  le : w.heap.size + 1 + 1 ≤ W.heap.size
theorem FreeSt.top {w W : World} {h : HeapV} {J : List Int} {j c : Nat} {A : Option Addr} {Dn : DataW Unit} (k : FreeSt w W h J j A c Dn) : FreeTop w W (runsOf h.l J) J j A c Dn := ⟨k.row, k.nm, k.ni, k.box, k.le⟩
theorem FreeTop.kept {w W W' : World} {rs : List (Int × Int)} {J : List Int} {j c : Nat} {A : Option Addr} {Dn : DataW Unit} {S' : Nat → Prop} (k : FreeTop w W rs J j A c Dn) (hK : Kept S' W W') (hS : ∀ b, S' b → b < w.heap.size) : FreeTop w W' rs J j A c Dn := by
  have hl := k.le
  refine ⟨own_kept k.row hK (fun b hb c => by have := (k.row.lt b hb).1; have := hS b c; omega), ownsMap_block k.nm (hK.block _ k.nm.lt (fun c => by have := hS _ c; omega)), k.ni, ?_, Nat.le_trans hl hK.size⟩
  exact (hK.cell (a := ⟨w.heap.size + 1, 0, none⟩) (by show w.heap.size + 1 < _; omega) (fun c => by have : w.heap.size + 1 < w.heap.size := hS _ c; omega)).trans k.box
theorem FreeTop.rn {w W : World} {rs : List (Int × Int)} {J : List Int} {j c : Nat} {A : Option Addr} {Dn : DataW Unit} (k : FreeTop w W rs J j A c Dn) (hl : rs.length = j) : Rn W W.heap.size A j rs := Rn.of_own k.row hl

/-- The last steps of Free: the index, the free runs, and the map. -/
theorem HpM.freed {w w2 w3 w4 w5 : World} {S Sf : Nat → Prop} {p ip ig fp mb n m : Nat} {ids ids' : List Int} {D D' : DataW Unit} {last : Int} {f g : List Bool} {h' : HeapV} (M : HpM w p ip ig fp mb n m ids D last) (F : Fr w Sf fp f) (k3 : S p ∧ S ip ∧ S ig ∧ S mb) (k4 : ∀ b, Sf b → S b) (k5 : ∀ b, S b → b < w.heap.size)
    (k6 : ¬ Sf p ∧ ¬ Sf ip ∧ ¬ Sf ig ∧ ¬ Sf mb) (k7 : p ≠ ip ∧ p ≠ ig ∧ p ≠ mb ∧ mb ≠ ip ∧ mb ≠ ig) (hb2 : Below w.heap.size w w2) (hg3 : w2.grownBy w3 (some ig)) (hx3 : Ix w3 0 ip ig n ids') (hF4 : Fr w4 (more Sf w3 w4) fp g) (hK4 : Kept Sf w3 w4)
    (hg5 : w4.grownBy w5 (some mb)) (hm5 : w5.ownsMap Tryz.prog 3 spanR mb m D') (K : HpK m ids' D' h') (hl : h'.last = last) (hf : h'.free = g) : Hp w5 (more S w w5) p h' ∧ Kept S w w5 := by
  have s2 := hb2.size
  have s3 := hg3.size
  have s4 := hK4.size
  have s5 := hg5.size
  have M5 : HpM w5 p ip ig fp mb n m ids' D' h'.last := by rw [hl]; exact ((((M.below hb2).setIx k7 hg3 hx3).keptF hK4 k6).put k7 hg5 hm5)
  have F5 : Fr w5 (more Sf w3 w4) fp h'.free := by
    rw [hf]
    refine hF4.keep (S' := fun b => b = mb) ((Kept.refl _ w4).grown hg5 fun k e => by injection e with e; exact Or.inl e.symm) fun b hb e => ?_
    have e2 : b = mb := e
    subst e2
    have := k5 _ k3.2.2.2
    exact k6.2.2.2 (more_old (by omega) hb)
  refine ⟨Hp.intro M5 K F5 k3 k4 k5 k6 k7 (by omega) (by omega) (by omega), ?_⟩
  have K3 : Kept S w w3 := (Kept.of_below hb2 S).grown hg3 fun k e => by injection e with e; subst e; exact Or.inl k3.2.2.1
  exact (K3.trans hK4 fun b _ hb => k4 b hb).grown hg5 fun k e => by injection e with e; subst e; exact Or.inl k3.2.2.2

/-- The box that has just been laid, behind the map's turn. -/
theorem FreeBox {w2 w3 : World} {b : Nat} {v1 v2 v3 v4 : Value} {t : TypeId} (hb : b < w2.heap.size) (hg : (w2.alloc (.cells #[v1, v2, v3, v4] t)).grownBy w3 (some b)) : w3.cell? ⟨w2.heap.size, 1, none⟩ = some v2 ∧ w3.cell? ⟨w2.heap.size, 2, none⟩ = some v3 := by
  have h1 : w3.heap[w2.heap.size]? = some (.cells #[v1, v2, v3, v4] t (0, 0)) := by
    rw [hg.block _ (by simp) (fun e => by injection e with e; omega)]
    show (w2.heap.push _)[w2.heap.size]? = _
    simp
  obtain ⟨_, a, b, _⟩ := cells4 h1
  exact ⟨a, b⟩
theorem FreeNil {a : Addr} : some a = none → 1 = 0 ∧ 1 = 0 := fun h => by cases h
theorem FreeOne {a b : Int} : ∀ u ∈ [Value.int .i64 a, .int .i64 b], u.oneCell' = true := fun u hu => by
  rcases List.mem_cons.1 hu with rfl | hu
  · rfl
  · obtain rfl := List.mem_singleton.1 hu; rfl
/-- What Free answers, and leaves. -/
def FreedHp (w : World) (S : Nat → Prop) (p : Nat) (r : HeapV × Int) (e : Ending) (w' : World) : Prop := e = .returned (.int .i64 r.2) ∧ Hp w' (more S w w') p r.1 ∧ Kept S w w'
set_option maxHeartbeats 4000000 in
set_option maxRecDepth 100000 in
theorem code_hfree {w : World} {S : Nat → Prop} {p : Nat} {h : HeapV} (k : Hp w S p h) (AI : Option Addr) (m cI : Nat) (ids : List Int) (hs : Sl w w.heap.size AI m (ids.map iv)) (hm : m ≤ 60000) (hid : ∀ i ∈ ids, in64 i) :
    Calls Tryz.prog 9 #[.pointer (some ⟨p, 0, none⟩), .slice AI m cI] w (FreedHp w S p (hDrop h ids)) := by
  obtain ⟨i0, hi, hz0, hz1, hz2⟩ := info_parts info_run
  have hli : ids.length = m := by have := hs.1; simpa using this
  have HLI := hidb hli
  have HSI := hidb hs
  have HK := hidb k
  have HID := hidb hid
  have hmk := @run_makeMap Tryz.prog
  have HSP : Hid (∀ W, Below w.heap.size w W → ∀ i, in64 i → Calls Tryz.prog 12 #[.pointer (some ⟨p, 0, none⟩), .int .i64 i] W (SpanIs W (spanOf h.l i) (h.l.any fun s => s.1 == i))) := hidb (fun W hb i hi => code_hspan (k.below hb) i hi)
  have HNO : Hid (∀ j W, ¬ Good h (ids.take j) → Below w.heap.size w W → FreedHp w S p (hDrop h ids) (.returned (.int .i64 6)) W) := hidb (fun j W hn hb => by
    rw [hDrop_no k.ok (fun c => hn ⟨(List.take_sublist j ids).nodup c.1, fun i hi => c.2 i (List.mem_of_mem_take hi)⟩)]
    exact ⟨rfl, k.more_ hb, Kept.of_below hb S⟩)
  clear hs hid k
  go_enter Tryz.func9, Tryz.ntmps9
  go_wp2
  go_loopw [6, 15] (fun v k wr => ∃ (j c : Nat) (A : Option Addr) (Dn : DataW Unit), j ≤ m ∧ k = .int .i64 j ∧ v = .slice A j c ∧ Hid (FreeSt w wr h (ids.take j) j A c Dn)) (fun _ k _ => (m - intOf k).toNat)
  case atStart =>
    refine ⟨0, 0, none, .map [], Nat.zero_le _, rfl, rfl, hidb ⟨⟨List.nodup_nil, fun i hi => by cases hi⟩, World.ownsRow_nil _ _ _ _, (World.ownsMap_made w Tryz.prog 3 boolR).alloc _, nis_nil, ?_, ((Below.refl _ _).alloc (Nat.le_refl _) _).alloc (by simp) _, by simp, rfl⟩⟩
    exact World.cell?_alloc_at _ _ _ 0 (by simp)
  case round =>
    obtain ⟨j, c, A, Dn, hj, rfl, rfl, HF⟩ := hrel
    by_cases hlt : j < m
    · obtain ⟨b, off, z, rfl, hbz, hx, hc⟩ := HSI.out.at_ hlt
      rw [List.getElem?_map] at hx
      obtain ⟨id, hid⟩ : ∃ id, ids[j]? = some id := ⟨_, List.getElem?_eq_getElem (by omega)⟩
      rw [hid] at hx
      obtain rfl : iv id = z := by simpa using hx
      have hcz : wr.cell? ⟨b, off + j, none⟩ = some (.int .i64 id) := (HF.out.bel.cell (p := ⟨b, off + j, none⟩) hbz).trans hc
      have hid64 := HID.out id (List.mem_of_getElem? hid)
      have HI := hidb hid
      have hi0 : (0 : Int) ≤ (j : Int) := by omega
      have hi1 : (j : Int) < (m : Int) := by omega
      have cs := HSP.out wr HF.out.bel id hid64
      obtain ⟨⟨s1, s2, s3, s4⟩, hsp⟩ : ∃ s, spanOf h.l id = s := ⟨_, rfl⟩
      obtain ⟨ok, hok⟩ : ∃ ok, (h.l.any fun s => s.1 == id) = ok := ⟨_, rfl⟩
      rw [hsp, hok] at cs
      replace cs : Calls Tryz.prog 12 #[.pointer (some ⟨p, 0, none⟩), .int .i64 id] wr fun e w' => e = .returned (.tuple #[.agg #[.int .i64 s1, .int .i64 s2, .int .i64 s3, .int .i64 s4], .bool ok]) ∧ Below wr.heap.size wr w' := cs
      have HSPN := hidb hsp
      have htk : ids.take (j + 1) = ids.take j ++ [id] := by rw [List.take_add_one, hid]; rfl
      have HTK := hidb htk
      obtain ⟨nm, hnm⟩ : ∃ nm, (ids.take j).contains id = nm := ⟨_, rfl⟩
      have HLK : Hid (∀ w2, Below wr.heap.size wr w2 → (Instr.lookup 70 (.map (some w.heap.size)) (.int .i64 id) false).run Tryz.prog (w2.alloc (.cells #[.int .i64 s1, .int .i64 s2, .int .i64 s3, .int .i64 s4] 43)) = .ok (.bool nm) (w2.alloc (.cells #[.int .i64 s1, .int .i64 s2, .int .i64 s3, .int .i64 s4] 43))) := hidb (fun w2 hb2 => by
        have h1 := (HF.out.below hb2).below ((Below.refl _ w2).alloc (Nat.le_refl _) (.cells #[.int .i64 s1, .int .i64 s2, .int .i64 s3, .int .i64 s4] 43))
        rw [← hnm]
        exact named_run h1.nm h1.ni id hid64)
      have HBX : Hid (∀ w2, Below wr.heap.size wr w2 → (w2.alloc (.cells #[.int .i64 s1, .int .i64 s2, .int .i64 s3, .int .i64 s4] 43)).cell? ⟨w.heap.size + 1, 0, none⟩ = some (.map (some w.heap.size))) := hidb (fun w2 hb2 => ((HF.out.below hb2).below ((Below.refl _ w2).alloc (Nat.le_refl _) (.cells #[.int .i64 s1, .int .i64 s2, .int .i64 s3, .int .i64 s4] 43))).box)
      have HBE : Hid (∀ w2, Below wr.heap.size wr w2 → Below w.heap.size w (w2.alloc (.cells #[.int .i64 s1, .int .i64 s2, .int .i64 s3, .int .i64 s4] 43))) := hidb (fun w2 hb2 => ((HF.out.below hb2).below ((Below.refl _ w2).alloc (Nat.le_refl _) (.cells #[.int .i64 s1, .int .i64 s2, .int .i64 s3, .int .i64 s4] 43))).bel)
      clear hx hid hc hsp htk
      cases ok with
      | false =>
        have HG : Hid (¬ Good h (ids.take (j + 1))) := hidb (fun c => by
          rw [HTK.out] at c
          have := (MIs.any_iff id).2 (c.2 id (by simp))
          rw [hok] at this; cases this)
        clear hok hnm
        go_wp2_with (first
          | (go_at_call 12; (with_reducible refine cs.mono ?_); rintro e w2 ⟨rfl, hb2⟩; have hbx := HBX.out _ hb2))
        go_ret
        exact HNO.out (j + 1) _ HG.out (HBE.out _ hb2)
      | true =>
        cases nm with
        | true =>
          have HG : Hid (¬ Good h (ids.take (j + 1))) := hidb (fun c => by
            rw [HTK.out] at c
            have h1 := (List.nodup_append.1 c.1).2.2 id (by simpa using hnm) id (by simp)
            exact h1 rfl)
          clear hok hnm
          go_wp2_with (first
            | (go_at_call 12; (with_reducible refine cs.mono ?_); rintro e w2 ⟨rfl, hb2⟩; have hbx := HBX.out _ hb2; have hlk := HLK.out _ hb2))
          go_ret
          exact HNO.out (j + 1) _ HG.out (HBE.out _ hb2)
        | false =>
          have HTH : Hid (∃ t ∈ h.l, t.1 = id) := hidb ((MIs.any_iff id).1 hok)
          have HNM := hidb hnm
          clear hok hnm
          go_wp2_with (first
            | (go_at_call 12; (with_reducible refine cs.mono ?_); rintro e w2 ⟨rfl, hb2⟩; have hbx := HBX.out _ hb2; have hlk := HLK.out _ hb2; have HLT : Hid (w.heap.size < w2.heap.size) := hidb (by have := HF.out.le; have := hb2.size; omega); have HF2 := hidb ((HF.out.below hb2).below ((Below.refl _ w2).alloc (Nat.le_refl _) (.cells #[.int .i64 s1, .int .i64 s2, .int .i64 s3, .int .i64 s4] 43))))
            | (at_mapUpdate; refine wpList_mapUpdate_own _ rfl _ _ _ 70 rfl 3 4 keyed Tryz.underlying70 boolR w.heap.size j Dn rfl HF2.out.nm (by unfold maxLen; omega) _ _ _ rfl rfl (key_of hid64) _ [] (boolR_mk true) ?_; intro w3 hm3 hg3; obtain ⟨x1, x2⟩ := FreeBox HLT.out hg3; have HG3 := hidb hg3; have HM3 := hidb hm3; have HR3 := hidb (HF2.out.row3 hg3 (.cells #[.int .i64 s2, .int .i64 s3] 41)); have HCN := hidb (cells_new w3 [.int .i64 s2, .int .i64 s3] 41); have HZ3 : Hid (w.heap.size + 1 + 1 ≤ (w3.alloc (.cells #[.int .i64 s2, .int .i64 s3] 41)).heap.size) := hidb (by have h1 := HF2.out.le; have h2 := hg3.size; simp only [World.size_alloc] at h1 h2 ⊢; omega); clear hm3 hg3)
            | (at_builtin; refine wpList_append_row _ rfl _ _ 54 rfl (w.heap.size + 1 + 1) 41 i0 (.agg #[.int .i64 0, .int .i64 0]) 2 16 Tryz.underlying54 hi hz0 hz1 hz2 rfl (by decide) (.slice A j c) j _ rfl HR3.out HZ3.out (some ⟨w3.heap.size, 0, none⟩) 1 1 [.int .i64 s2, .int .i64 s3] rfl rfl FreeNil HCN.out FreeOne (by unfold maxLen; omega) (by omega) ?_; intro A' c' w4 hr4 hg4; have HR4 := hidb hr4; have HG4 := hidb hg4; clear hr4 hg4)
            | go_in)
          have HE := hidb (HF2.out.push (s := s2) (l := s3) hid64 HNM.out HTH.out (by rw [HSPN.out]; rfl) HG3.out HM3.out HG4.out HR4.out)
          go_roundw
          case rel => exact ⟨j + 1, c', A', _, by omega, by go_num, by rfl, hidb (by rw [HTK.out]; exact HE.out)⟩
          case measure => simp [intOf]; omega
    · obtain rfl : j = m := by omega
      rw [List.take_of_length_le (by omega)] at HF
      obtain ⟨ip, ig, fp, mb, n, m0, pids, D, Sf, k1, k2, k3, k4, k5, k6, k7⟩ := HK.out
      obtain ⟨g, e1, e2, e3⟩ := free_drop k1.ok HF.out.good.1 HF.out.good.2
      obtain ⟨pids', e4, e5⟩ := paint_drop k1.ok k1.pt HF.out.good.2 0 g
      have hD := IsMap_of k1.mp
      have hlr : (runsOf h.l ids).length = j := by unfold runsOf; rw [List.length_map]; exact hli
      have hr64 : ∀ r ∈ runsOf h.l ids, in64 r.1 ∧ in64 r.2 := fun r hr => by
        obtain ⟨a1, a2, a3⟩ := (fMay_iff _).1 (runsOf_may k1.ok HF.out.good.2 r hr)
        exact ⟨⟨by omega, by omega⟩, ⟨by omega, by omega⟩⟩
      have hAb : ∀ b off, A = some ⟨b, off, none⟩ → w.heap.size + 1 + 1 ≤ b := fun b off e => (HF.out.row.lt b (by rw [e]; rfl)).1
      have hig := k5 _ k3.2.2.1
      have hmb := k5 _ k3.2.2.2
      have cp := code_hparts p _ _ _ _ wr ((HF.out.bel.cell (p := ⟨p, 0, none⟩) k1.lts.1).trans k1.c0) ((HF.out.bel.cell (p := ⟨p, 1, none⟩) k1.lts.1).trans k1.c1) ((HF.out.bel.cell (p := ⟨p, 2, none⟩) k1.lts.1).trans k1.c2) ((HF.out.bel.cell (p := ⟨p, 3, none⟩) k1.lts.1).trans k1.c3)
      have eg : ∀ args w, (callFunc 31 args).run Tryz.prog w = .ok (.enter 31 args) w := enters_of Tryz.func31 (by kernel_rfl) rfl
      obtain ⟨L, hL⟩ : ∃ L, h.last = L := ⟨_, rfl⟩
      have hbx : ∀ w1, Below wr.heap.size wr w1 → Below wr.heap.size wr (w1.alloc (.cells #[.pointer (some ⟨ip, 0, none⟩), .pointer (some ⟨fp, 0, none⟩), .map (some mb), .int .i64 L] 65)) := fun w1 hb1 => hb1.alloc hb1.size _
      have hbw : ∀ w1, Below wr.heap.size wr w1 → Below w.heap.size w (w1.alloc (.cells #[.pointer (some ⟨ip, 0, none⟩), .pointer (some ⟨fp, 0, none⟩), .map (some mb), .int .i64 L] 65)) := fun w1 hb1 => HF.out.bel.trans ((hbx w1 hb1).mono HF.out.bel.size)
      have hK3 : ∀ w2 w3, w2.grownBy w3 (some ig) → Kept (fun b => b = ig) w2 w3 := fun w2 w3 hg => (Kept.refl _ w2).grown hg fun k e => by injection e with e; exact Or.inl e.symm
      have hT2 : ∀ w1, Below wr.heap.size wr w1 → FreeTop w (w1.alloc (.cells #[.pointer (some ⟨ip, 0, none⟩), .pointer (some ⟨fp, 0, none⟩), .map (some mb), .int .i64 L] 65)) (runsOf h.l ids) ids j A c Dn := fun w1 hb1 => HF.out.top.kept (S' := fun _ => False) (Kept.of_below (hbx w1 hb1) _) (fun b hb => hb.elim)
      have hT3 : ∀ w1 w3, Below wr.heap.size wr w1 → (w1.alloc (.cells #[.pointer (some ⟨ip, 0, none⟩), .pointer (some ⟨fp, 0, none⟩), .map (some mb), .int .i64 L] 65)).grownBy w3 (some ig) → FreeTop w w3 (runsOf h.l ids) ids j A c Dn := fun w1 w3 hb1 hg3 => (hT2 w1 hb1).kept (hK3 _ _ hg3) (fun b hb => by have : b = ig := hb; omega)
      have HDR : Hid (∀ w1, Below wr.heap.size wr w1 → Calls Tryz.prog 28 #[.pointer (some ⟨ip, 0, none⟩), .slice A j c] (w1.alloc (.cells #[.pointer (some ⟨ip, 0, none⟩), .pointer (some ⟨fp, 0, none⟩), .map (some mb), .int .i64 L] 65)) fun e w' => e = .returned (.int .i64 0) ∧ Ix w' 0 ip ig n pids' ∧ (w1.alloc (.cells #[.pointer (some ⟨ip, 0, none⟩), .pointer (some ⟨fp, 0, none⟩), .map (some mb), .int .i64 L] 65)).grownBy w' (some ig)) := hidb (fun w1 hb1 => by
        have := code_xdrop (B := 0) 0 A j c (runsOf h.l ids) (w1.alloc (.cells #[.pointer (some ⟨ip, 0, none⟩), .pointer (some ⟨fp, 0, none⟩), .map (some mb), .int .i64 L] 65)) (k1.toHpM.below (hbw w1 hb1)).ix (fun b off _ e => by have := hAb b off e; omega) ((hT2 w1 hb1).rn hlr) (by omega) hr64
        rw [e4] at this
        exact this)
      have HAD : Hid (∀ w1 w3, Below wr.heap.size wr w1 → (w1.alloc (.cells #[.pointer (some ⟨ip, 0, none⟩), .pointer (some ⟨fp, 0, none⟩), .map (some mb), .int .i64 L] 65)).grownBy w3 (some ig) → Calls Tryz.prog 29 #[.pointer (some ⟨fp, 0, none⟩), .slice A j c] w3 fun e w' => e = .returned (.int .i64 0) ∧ Fr w' (more Sf w3 w') fp g ∧ Kept Sf w3 w') := hidb (fun w1 w3 hb1 hg3 => by
        have hF3 : Fr w3 Sf fp h.free := (k2.below (hbw w1 hb1)).keep (hK3 _ _ hg3) (fun b hb e => by have : b = ig := e; subst this; exact k6.2.2.1 hb)
        have := code_radd hF3 A j c (runsOf h.l ids) ((hT3 w1 w3 hb1 hg3).rn hlr) (by omega) hr64
        rw [e3] at this
        exact this)
      have HDF : Hid (∀ w1 w3 w4, Below wr.heap.size wr w1 → (w1.alloc (.cells #[.pointer (some ⟨ip, 0, none⟩), .pointer (some ⟨fp, 0, none⟩), .map (some mb), .int .i64 L] 65)).grownBy w3 (some ig) → Kept Sf w3 w4 → Calls Tryz.prog 30 #[.map (some mb), .func (.func 31) #[] #[.pointer (some ⟨w.heap.size + 1, 0, none⟩)]] w4 fun e w' => e = .returned (.tuple #[]) ∧ w'.ownsMap Tryz.prog 3 spanR mb m0 (Lib.deleteFuncD (pdJ ids) D) ∧ w4.grownBy w' (some mb)) := hidb (fun w1 w3 w4 hb1 hg3 hK4 => by
        have hT4 := (hT3 w1 w3 hb1 hg3).kept hK4 (fun b hb => k5 b (k4 b hb))
        have h3 := hg3.size
        have hm2 := (k1.toHpM.below (hbw w1 hb1)).mp
        have hlt2 := hm2.lt
        have hm4 : w4.ownsMap Tryz.prog 3 spanR mb m0 D := ownsMap_block (ownsMap_block hm2 (hg3.block mb hlt2 (fun e => k7.2.2.2.2 (by injection e)))) (hK4.block mb (by omega) k6.2.2.2)
        refine code_dfspan (pdJ ids) _ _ mb m0 D w4 eg hm4 fun W i s1 s2 s3 s4 hg hi => ?_
        have hTW := hT4.kept (S' := fun b => b = mb) ((Kept.refl _ w4).grown hg fun k e => by injection e with e; exact Or.inl e.symm) (fun b hb => by have : b = mb := hb; omega)
        exact code_hfree1 hTW.box hTW.nm hTW.ni i hi s1 s2 s3 s4)
      have HQ3 : Hid (∀ w1 w3, Below wr.heap.size wr w1 → (w1.alloc (.cells #[.pointer (some ⟨ip, 0, none⟩), .pointer (some ⟨fp, 0, none⟩), .map (some mb), .int .i64 L] 65)).grownBy w3 (some ig) → w3.heap[w1.heap.size]? = some (.cells #[.pointer (some ⟨ip, 0, none⟩), .pointer (some ⟨fp, 0, none⟩), .map (some mb), .int .i64 L] 65 (0, 0))) := hidb (fun w1 w3 hb1 hg3 => by
        have h1 := HF.out.le
        have h2 := hb1.size
        rw [hg3.block _ (by simp) (fun e => by injection e with e; omega)]
        show (w1.heap.push _)[w1.heap.size]? = _
        simp)
      have HQ4 : Hid (∀ w1 w3 w4, Below wr.heap.size wr w1 → (w1.alloc (.cells #[.pointer (some ⟨ip, 0, none⟩), .pointer (some ⟨fp, 0, none⟩), .map (some mb), .int .i64 L] 65)).grownBy w3 (some ig) → Kept Sf w3 w4 → w4.heap[w1.heap.size]? = some (.cells #[.pointer (some ⟨ip, 0, none⟩), .pointer (some ⟨fp, 0, none⟩), .map (some mb), .int .i64 L] 65 (0, 0))) := hidb (fun w1 w3 w4 hb1 hg3 hK4 => by
        have h1 := HF.out.le
        have h2 := hb1.size
        have h3 := hg3.size
        simp only [World.size_alloc] at h3
        rw [hK4.block _ (by omega) (fun c => by have := k5 _ (k4 _ c); omega)]
        exact HQ3.out w1 w3 hb1 hg3)
      have HE : Hid (∀ w1 w3 w4 w5, Below wr.heap.size wr w1 → (w1.alloc (.cells #[.pointer (some ⟨ip, 0, none⟩), .pointer (some ⟨fp, 0, none⟩), .map (some mb), .int .i64 L] 65)).grownBy w3 (some ig) → Ix w3 0 ip ig n pids' → Fr w4 (more Sf w3 w4) fp g → Kept Sf w3 w4 → w5.ownsMap Tryz.prog 3 spanR mb m0 (Lib.deleteFuncD (pdJ ids) D) → w4.grownBy w5 (some mb) → FreedHp w S p (hDrop h ids) (.returned (.int .i64 0)) w5) := hidb (fun w1 w3 w4 w5 hb1 hg3 hx3 hF4 hK4 hm5 hg5 => by
        rw [e1]
        exact ⟨rfl, HpM.freed k1.toHpM k2 k3 k4 k5 k6 k7 (hbw w1 hb1) hg3 hx3 hF4 hK4 hg5 hm5 ⟨k1.mis.drop hD ids, e5, e2, k1.la, k1.lb⟩ rfl rfl⟩)
      rw [hL] at cp
      clear k1 k2 k3 k4 k5 k6 k7 e1 e2 e3 e4 e5 hD hlr hr64 hAb hig hmb hbx hbw hK3 hT2 hT3 hL eg hi hz0 hz1 hz2
      go_wp2_with (first
        | (go_at_call 26; (with_reducible refine cp.mono ?_); rintro e w1 ⟨rfl, hb1⟩)
        | (go_at_call 28; (with_reducible refine (HDR.out _ hb1).mono ?_); rintro e w3 ⟨rfl, hx3, hg3⟩; obtain ⟨_, q1, _⟩ := cells4 (HQ3.out _ _ hb1 hg3))
        | (go_at_call 29; (with_reducible refine (HAD.out _ _ hb1 hg3).mono ?_); rintro e w4 ⟨rfl, hF4, hK4⟩; obtain ⟨_, _, q2, _⟩ := cells4 (HQ4.out _ _ _ hb1 hg3 hK4))
        | (go_at_call 30; (with_reducible refine (HDF.out _ _ _ hb1 hg3 hK4).mono ?_); rintro e w5 ⟨rfl, hm5, hg5⟩))
      go_ret
      exact HE.out _ _ _ _ hb1 hg3 hx3 hF4 hK4 hm5 hg5

end Go.Proofs.YtcngcibiibchiaaGreat
