/- What Push and Right of layer 8 (chain) do. -/
import Derived.Test.YtcngcibiibchiaaChainPopC
import Derived.Test.YtcngcibiibchiaaIntsConcat
namespace Go.Proofs.Ytcngcibiibchiaa
open Go.RowKit Go.Maps
set_option linter.unusedVariables false

theorem getD_at {xs : List Int} {i : Nat} (h : i < xs.length) : xs[i]? = some (xs.getD i 0) := by
  rw [List.getD_eq_getElem?_getD, List.getElem?_eq_getElem h]; rfl
theorem again_clash {l at' : List Int} (hd : l.Nodup) : (List.range (l ++ at').length).any (fun j => ((l ++ at').take j).contains ((l ++ at').getD j 0)) = cClash l at' := by
  unfold cClash
  rw [Bool.eq_iff_iff, List.any_eq_true, List.any_eq_true]
  constructor
  · rintro ⟨j, hj, hc⟩
    have hj1 := List.mem_range.1 hj
    rw [List.length_append] at hj1
    have hm : (l ++ at').getD j 0 ∈ (l ++ at').take j := by simpa using hc
    by_cases hjl : j < l.length
    · exfalso
      rw [List.take_append_of_le_length (by omega), List.getD_eq_getElem?_getD, List.getElem?_append_left hjl, ← List.getD_eq_getElem?_getD] at hm
      have e := split_at hjl
      rw [e] at hd
      exact (List.nodup_append.1 hd).2.2 _ hm _ (List.mem_cons_self ..) rfl
    · refine ⟨j - l.length, List.mem_range.2 (by omega), ?_⟩
      have e : l.length + (j - l.length) = j := by omega
      rw [← e, List.take_length_add_append, List.getD_eq_getElem?_getD, List.getElem?_append_right (by omega)] at hm
      rw [show l.length + (j - l.length) - l.length = j - l.length by omega, ← List.getD_eq_getElem?_getD] at hm
      simpa using List.mem_append.1 hm
  · rintro ⟨i, hi, hc⟩
    have hi1 := List.mem_range.1 hi
    refine ⟨l.length + i, List.mem_range.2 (by rw [List.length_append]; omega), ?_⟩
    rw [List.take_length_add_append, List.getD_eq_getElem?_getD, List.getElem?_append_right (by omega), show l.length + i - l.length = i by omega, ← List.getD_eq_getElem?_getD]
    have := of_decide_eq_true hc
    simpa using this
theorem cIn_any (n : Nat) (at' : List Int) : (List.range at'.length).any (fun j => !(aIn n (at'.getD j 0) 1)) = !(cIn n at') := by
  cases hc : cIn n at' with
  | true =>
    have hc2 : ∀ x ∈ at', 0 ≤ x ∧ x < (n : Int) := fun x hx => by
      have := List.all_eq_true.1 hc x hx
      simpa using this
    show _ = false
    rw [List.any_eq_false]
    intro j hj
    have h1 := hc2 _ (List.mem_of_getElem? (getD_at (List.mem_range.1 hj)))
    unfold aIn
    simp only [Bool.not_eq_true', decide_eq_false_iff_not, Classical.not_not]
    omega
  | false =>
    show _ = true
    unfold cIn at hc
    rw [List.all_eq_false] at hc
    obtain ⟨x, hx, hb⟩ := hc
    obtain ⟨j, hj, e⟩ := List.getElem_of_mem hx
    rw [List.any_eq_true]
    refine ⟨j, List.mem_range.2 hj, ?_⟩
    have e2 : at'.getD j 0 = x := by rw [List.getD_eq_getElem?_getD, List.getElem?_eq_getElem hj, e]; rfl
    rw [e2]
    unfold aIn
    simp only [decide_eq_true_eq] at hb
    simp only [Bool.not_eq_true', decide_eq_false_iff_not]
    omega
theorem code_cpush1 {p g n tb : Nat} {ws : List Nat} {W : World} {B : Nat} (ha : Ar W B p g n ws) (hc : W.cell? ⟨tb, 0, none⟩ = some (.pointer (some ⟨p, 0, none⟩))) (z : Int) (hz : in64 z) :
    Calls Try.prog 27 #[.int .i64 z, .pointer (some ⟨tb, 0, none⟩)] W fun e w' => e = .returned (.bool (!(aIn n z 1))) ∧ W = w' := by
  have ci := code_ain ha z 1 hz (by unfold in64; omega)
  clear ha hz
  go_enter Try.func27, Try.ntmps27
  go_wp2_with (first | (go_at_call 28; (with_reducible refine ci.mono ?_); rintro e w' ⟨rfl, rfl⟩))
  go_ret
  exact ⟨rfl, rfl⟩

theorem bel_met {w1 w2 w4 : World} {o : Obj} (hb2 : Below w1.heap.size w1 w2) (hg4 : (w2.alloc o).grownBy w4 (some w2.heap.size)) : Below w1.heap.size w1 w4 := by
  have h1 := hb2.alloc hb2.size o
  exact h1.grown hg4 (by have := hb2.size; simp; omega) (fun k e => by injection e with e; have := hb2.size; omega)
theorem cAll_take {s : List Nat × (Int × Int)} {l : List Int} {j : Nat} {a : Int} (h : l[j]? = some a) : cAll s (l.take (j + 1)) = cStep (cAll s (l.take j)) a := by
  rw [List.take_add_one, h]
  exact cAll_snoc _ _ _

set_option maxRecDepth 100000 in
set_option maxHeartbeats 2000000 in
theorem code_cpush {p g n : Nat} {ws : List Nat} {w : World} {B : Nat} (ha : Ar w B p g n ws) (h len : Int) (hh : in64 h) (hl : in64 len) (hw : Wide ws)
    (A2 : Option Addr) (m c2 : Nat) (at' : List Int) (hs2 : Sl w w.heap.size A2 m (at'.map iv)) (hA2 : 0 < m → ∀ a, A2 = some a → a.block ≠ g) (hm : m ≤ 65536) (hat : ∀ x ∈ at', in64 x) :
    Calls Try.prog 10 #[.pointer (some ⟨p, 0, none⟩), .agg #[.int .i64 h, .int .i64 len], .slice A2 m c2] w (ResRem w B p g n (cPush ws (h, len) at')) := by
  obtain ⟨w0, hw0⟩ : ∃ w0, w0 = w.alloc (.cells #[.pointer (some ⟨p, 0, none⟩)] 26) := ⟨_, rfl⟩
  have hz0 : w0.heap.size = w.heap.size + 1 := by rw [hw0]; simp
  have hg0 : w.grownBy w0 (some g) := by rw [hw0]; exact World.grownBy_alloc w _ _
  have ha0 : Ar w0 B p g n ws := by rw [hw0]; exact ha.alloc _
  obtain ⟨W0, hW0⟩ : ∃ W0, W0 = (w0.alloc (.cells #[.int .i64 h, .int .i64 len] 23)).alloc (.cells #[.int .i64 0, .int .i64 0] 23) := ⟨_, rfl⟩
  have k0 : ChSt w0 W0 B p g n (w.heap.size + 1) (w.heap.size + 1 + 1) ws h len := by
    have := ChSt.start ha0 h len 23 23
    rw [hz0] at this
    rw [hW0]; exact this
  have HTB : Hid (∀ W, w0.grownBy W (some g) → W.cell? ⟨w.heap.size, 0, none⟩ = some (.pointer (some ⟨p, 0, none⟩))) := hidb (fun W hg => by
    rw [World.cell?_of_block (w := w0) (a := ⟨w.heap.size, 0, none⟩) (hg.block w.heap.size (by omega) (fun e => by injection e with e; have := ha.lt; omega)), hw0]
    simp)
  have HAT : Hid (∀ W, w0.grownBy W (some g) → Sl W W.heap.size A2 m (at'.map iv)) := hidb (fun W hg => (hs2.beside (grown_trans hg0 hg) hA2).more (grown_trans hg0 hg).size)
  have lat : at'.length = m := by have := hs2.1; simpa using this
  have cl := code_clist k0.ar h len hh hl hw
  rw [hw0] at hW0
  have K0 := hidb k0
  have HW0 := hidb hW0
  have HG0 := hidb hg0
  have HW := hidb hw
  have hgl := ha.lt
  have hsm := ha.small
  have hal := ha.hlen
  have HZ0 := hidb hz0
  have HAT64 := hidb hat
  have LAT := hidb lat
  have HGS : Hid (g < W0.heap.size) := hidb (by have := k0.gr.size; omega)
  have HFIN : Hid (∀ W ws' h' l', ChSt w0 W B p g n (w.heap.size + 1) (w.heap.size + 1 + 1) ws' h' l' → ∀ u v, ArTo w B p g n ws' ((W.setCell ⟨w.heap.size + 1 + 1, 0, none⟩ u).setCell ⟨w.heap.size + 1 + 1, 1, none⟩ v)) := hidb (fun W ws' h' l' k u v => by
    obtain ⟨f1, f2⟩ := k.fin u v
    exact ⟨f1, grown_trans hg0 f2⟩)
  obtain ⟨R, hR⟩ : ∃ R, cList ws (h, len) = R := ⟨_, rfl⟩
  rw [hR] at cl
  unfold ResList at cl
  have HR := hidb hR
  rcases R with _ | l
  · have HE : Hid (cPush ws (h, len) at' = (ws, (h, len), 9)) := hidb (by unfold cPush; rw [hR])
    rw [HE.out]
    clear ha hh hl hw hW0 k0 hR ha0 hg0 hw0 hs2 hA2 hat lat hz0 hgl hsm hal
    go_enter Try.func10, Try.ntmps10
    go_wp2_with (first
      | (go_at_call 18; rw [← HW0.out]; (with_reducible refine cl.mono ?_); rintro e w1 ⟨A, k, c, out, rfl, h1, h2, h3, h4, hb1, h5⟩; have K1 := hidb (K0.out.below hb1); obtain ⟨p0, p1, r0, r1, rf0, rf1, pf0, pf1⟩ := K1.out.facts; clear hb1))
    obtain ⟨y0, y1⟩ := two_cells8 w1 (w.heap.size + 1 + 1) (.int .i64 h) (.int .i64 len) _ _ r0 r1
    refine bodyPost_ret (v := .tuple #[.agg #[.int .i64 h, .int .i64 len], .int .i64 9]) (by simp [results, Try.results10, go_sem, y0, y1]) rfl ?_
    exact ⟨rfl, HFIN.out _ _ _ _ K1.out _ _⟩
  · have hl60 : l.length ≤ 65536 := by
      have := nodup_le ws.length _ (cList_some hR).1 (cList_some hR).2.1
      omega
    have hnd := (cList_some hR).1
    have hlen := (cList_some hR).2.2
    have hhead := cList_head hR
    rw [hal] at hhead
    simp only at hhead hlen
    have HND := hidb hnd
    have HLEN := hidb hlen
    have HHD := hidb hhead
    have HIN : Hid (∀ (w1 : World), Ar w1 B p g n ws → w0.grownBy w1 (some g) → Calls Try.prog 26 #[.slice A2 m c2, .func (.func 27) #[] #[.pointer (some ⟨w.heap.size, 0, none⟩)]] w1 fun e w' => e = .returned (.bool (!(cIn n at'))) ∧ w1 = w') := hidb (fun w1 har hg => by
      have c1 := code_cin_has (t := w.heap.size) (fun j => !(aIn n (at'.getD j 0) 1)) (fun _ W => w1 = W) A2 m c2 at' w1 rfl (fun j W e => by subst e; exact HAT.out _ hg) (fun j z W hz e => by
        subst e
        have hgz : at'.getD j 0 = z := by rw [List.getD_eq_getElem?_getD, hz]; rfl
        rw [hgz]
        exact (code_cpush1 har (HTB.out _ hg) z (HAT64.out z (List.mem_of_getElem? hz))).mono fun e w' q => ⟨q.1, q.2⟩) (by omega)
      rw [← LAT.out, cIn_any] at c1
      rw [LAT.out] at c1
      exact c1.mono fun e w' q => ⟨q.1, q.2.choose_spec.2⟩)
    cases hci : cIn n at' with
    | false =>
      have HE : Hid (cPush ws (h, len) at' = (ws, (h, len), 2)) := hidb (by unfold cPush; rw [hR]; simp only; rw [hal, hci]; rfl)
      rw [hci] at HIN
      rw [HE.out]
      clear ha hh hl hw hW0 k0 hR ha0 hg0 hw0 hs2 hA2 hat lat hz0 hgl hsm hal hnd hlen hhead hci
      go_enter Try.func10, Try.ntmps10
      go_wp2_with (first
        | (go_at_call 18; rw [← HW0.out]; (with_reducible refine cl.mono ?_); rintro e w1 ⟨A, k, c, out, rfl, h1, h2, h3, h4, hb1, h5⟩; have K1 := hidb (K0.out.below hb1); have cin := HIN.out w1 K1.out.ar K1.out.gr; obtain ⟨p0, p1, r0, r1, rf0, rf1, pf0, pf1⟩ := K1.out.facts; have tb1 := HTB.out _ K1.out.gr; clear hb1)
        | (go_at_call 26; (with_reducible refine cin.mono ?_); rintro e w' ⟨rfl, rfl⟩))
      obtain ⟨y0, y1⟩ := two_cells8 w1 (w.heap.size + 1 + 1) (.int .i64 h) (.int .i64 len) _ _ r0 r1
      refine bodyPost_ret (v := .tuple #[.agg #[.int .i64 h, .int .i64 len], .int .i64 2]) (by simp [results, Try.results10, go_sem, y0, y1]) rfl ?_
      exact ⟨rfl, HFIN.out _ _ _ _ K1.out _ _⟩
    | true =>
      rw [hci] at HIN
      have HCAT : Hid (∀ (w1 : World) (A : Option Addr) (k c : Nat), w0.grownBy w1 (some g) → Sl w1 w1.heap.size A k (l.map iv) → Calls Try.prog 29 #[.slice (some ⟨w1.heap.size, 0, none⟩) 2 2] (w1.alloc (.cells #[.slice A k c, .slice A2 m c2] 32)) fun e w' => ∃ A3 k3 c3, e = .returned (.slice A3 k3 c3) ∧ Hid (k3 = (l ++ at').length) ∧ w'.ownsRow (w1.heap.size + 1) 3 1 (.slice A3 k3 c3) k3 ((l ++ at').map iv) ∧ Below w1.heap.size w1 w' ∧ w1.heap.size + 1 ≤ w'.heap.size) := hidb (fun w1 A k c hg hsl => by
        have hbl : Below w1.heap.size w1 (w1.alloc (.cells #[.slice A k c, .slice A2 m c2] 32)) := (Below.refl _ _).alloc (Nat.le_refl _) _
        have hk : k ≤ 65536 := by have := hsl.1; rw [List.length_map] at this; omega
        have := code_iconcat w1.heap.size A A2 k c m c2 l at' (w1.alloc (.cells #[.slice A k c, .slice A2 m c2] 32)) (by simp) (by simp) (by simp) ((hsl.below hbl).more hbl.size) (((HAT.out _ hg).below hbl).more hbl.size) hk hm
        refine this.mono fun e w' q => ?_
        obtain ⟨A3, c3, e1, e2, e3⟩ := q
        refine ⟨A3, _, c3, e1, hidb rfl, ?_, hbl.trans (e3.mono hbl.size), by have := e3.size; simpa using this⟩
        simpa using e2)
      have HMET : Hid (∀ (w2 : World) (B3 : Nat) (A3 : Option Addr) (k3 c3 : Nat), B3 ≤ w2.heap.size → Hid (k3 = (l ++ at').length) → w2.ownsRow B3 3 1 (.slice A3 k3 c3) k3 ((l ++ at').map iv) → Calls Try.prog 26 #[.slice A3 k3 c3, .func (.func 30) #[.map (some w2.heap.size)] #[]] (w2.alloc (.map #[] 0)) fun e w' => e = .returned (.bool (cClash l at')) ∧ (w2.alloc (.map #[] 0)).grownBy w' (some w2.heap.size)) := hidb (fun w2 B3 A3 k3 c3 hB3 hk3 hown => by
        obtain rfl := hk3.out
        have hbl : Below w2.heap.size w2 (w2.alloc (.map #[] 0)) := (Below.refl _ _).alloc (Nat.le_refl _) _
        have hsl := Sl.of_own (own_below hown hbl)
        have hla : (l ++ at').length ≤ 131072 := by rw [List.length_append, LAT.out]; omega
        have hz64 : ∀ z ∈ l ++ at', in64 z := fun z hz => by
          rcases List.mem_append.1 hz with hz | hz
          · have := (cList_some HR.out).2.1 z hz
            unfold in64; omega
          · exact HAT64.out z hz
        have c1 := code_cmet_has (t := w2.heap.size) (fun j => ((l ++ at').take j).contains ((l ++ at').getD j 0)) (fun j W => (∃ D, W.ownsMap Try.prog 3 boolR w2.heap.size j D ∧ NIs D ((l ++ at').take j)) ∧ (w2.alloc (.map #[] 0)).grownBy W (some w2.heap.size)) A3 (l ++ at').length c3 (l ++ at') (w2.alloc (.map #[] 0)) ⟨⟨_, World.ownsMap_made w2 Try.prog 3 boolR, nis_nil⟩, below_to_grown (Below.refl _ _) _⟩
          (fun j W q => (hsl.beside q.2 (fun _ ad e => by
            subst e
            have := (hown.lt ad.block rfl).2
            omega)).more q.2.size)
          (fun j z W hz q => by
            obtain ⟨⟨D, q1, q2⟩, q3⟩ := q
            have hjl : j < (l ++ at').length := (List.getElem?_eq_some_iff.1 hz).1
            have hgz : (l ++ at').getD j 0 = z := by rw [List.getD_eq_getElem?_getD, hz]; rfl
            have htk : (l ++ at').take (j + 1) = (l ++ at').take j ++ [z] := by rw [List.take_add_one, hz]; rfl
            rw [hgz, htk]
            refine (code_again q1 q2 (by omega) z (hz64 z (List.mem_of_getElem? hz))).mono fun e w' r => ?_
            obtain ⟨r1, r2, r3⟩ := r
            exact ⟨r1, r2, grown_trans q3 r3⟩) hla
        rw [again_clash HND.out] at c1
        exact c1.mono fun e w' q => ⟨q.1, q.2.choose_spec.2.2⟩)
      cases hcc : cClash l at' with
      | true =>
        have HE : Hid (cPush ws (h, len) at' = (ws, (h, len), 1)) := hidb (by unfold cPush; rw [hR]; simp only; rw [hal, hci, hcc]; rfl)
        rw [hcc] at HMET
        rw [HE.out]
        have hmk := @run_makeMap Try.prog
        clear ha hh hl hw hW0 k0 hR ha0 hg0 hw0 hs2 hA2 hat lat hz0 hgl hsm hal hnd hlen hhead hci hcc
        go_enter Try.func10, Try.ntmps10
        go_wp2_with (first
          | (go_at_call 18; rw [← HW0.out]; (with_reducible refine cl.mono ?_); rintro e w1 ⟨A, k, c, out, rfl, h1, h2, h3, h4, hb1, h5⟩; obtain rfl := h1 _ rfl; have K1 := hidb (K0.out.below hb1); have cin := HIN.out w1 K1.out.ar K1.out.gr; have tb1 := HTB.out _ K1.out.gr; have ccat := HCAT.out w1 A k c K1.out.gr h3; clear hb1 h3)
          | (go_at_call 26; (with_reducible refine cin.mono ?_); rintro e w' ⟨rfl, rfl⟩; clear cin)
          | (go_at_call 29; (with_reducible refine ccat.mono ?_); rintro e w2 ⟨A3, k3, c3, rfl, hk3, ho2, hb2, hz2⟩; have cmet := HMET.out w2 _ A3 k3 c3 hz2 hk3 ho2; have HB2 := hidb hb2; clear ho2 hb2)
          | (go_at_call 26; (with_reducible refine cmet.mono ?_); rintro e w4 ⟨rfl, hg4⟩; have K4 := hidb (K1.out.below (bel_met HB2.out hg4)); obtain ⟨p0, p1, r0, r1, rf0, rf1, pf0, pf1⟩ := K4.out.facts; clear hg4))
        obtain ⟨y0, y1⟩ := two_cells8 w4 (w.heap.size + 1 + 1) (.int .i64 h) (.int .i64 len) _ _ r0 r1
        refine bodyPost_ret (v := .tuple #[.agg #[.int .i64 h, .int .i64 len], .int .i64 1]) (by simp [results, Try.results10, go_sem, y0, y1]) rfl ?_
        exact ⟨rfl, HFIN.out _ _ _ _ K4.out _ _⟩
      | false =>
        have HE : Hid (cPush ws (h, len) at' = ((cAll (ws, (h, len)) at').1, (cAll (ws, (h, len)) at').2, 0)) := hidb (by unfold cPush; rw [hR]; simp only; rw [hal, hci, hcc]; rfl)
        rw [hcc] at HMET
        rw [HE.out]
        have hmk := @run_makeMap Try.prog
        have HATN : Hid (∀ x ∈ at', 0 ≤ x ∧ x < (n : Int)) := hidb (fun x hx => by
          have := List.all_eq_true.1 hci x hx
          simpa using this)
        have HAL := hidb hal
        clear ha hh hl hw hW0 k0 hR ha0 hg0 hw0 hs2 hA2 hat lat hz0 hgl hal hnd hlen hhead hci hcc
        go_enter Try.func10, Try.ntmps10
        go_wp2_with (first
          | (go_at_call 18; rw [← HW0.out]; (with_reducible refine cl.mono ?_); rintro e w1 ⟨A, k, c, out, rfl, h1, h2, h3, h4, hb1, h5⟩; obtain rfl := h1 _ rfl; have K1 := hidb (K0.out.below hb1); have cin := HIN.out w1 K1.out.ar K1.out.gr; have tb1 := HTB.out _ K1.out.gr; have ccat := HCAT.out w1 A k c K1.out.gr h3; clear hb1 h3)
          | (go_at_call 26; (with_reducible refine cin.mono ?_); rintro e w' ⟨rfl, rfl⟩; clear cin)
          | (go_at_call 29; (with_reducible refine ccat.mono ?_); rintro e w2 ⟨A3, k3, c3, rfl, hk3, ho2, hb2, hz2⟩; have cmet := HMET.out w2 _ A3 k3 c3 hz2 hk3 ho2; have HB2 := hidb hb2; clear ho2 hb2)
          | (go_at_call 26; (with_reducible refine cmet.mono ?_); rintro e w4 ⟨rfl, hg4⟩; have K4 := hidb (K1.out.below (bel_met HB2.out hg4)); clear hg4 cmet ccat))
        clear cl tb1 HB2 hmk h1 h2 h4 h5 K1
        go_loopw [39] (fun kv wr => ∃ j : Nat, j ≤ m ∧ kv = .int .i64 j ∧ Hid (ChSt w0 wr B p g n (w.heap.size + 1) (w.heap.size + 1 + 1) (cAll (ws, (h, len)) (at'.take j)).1 (cAll (ws, (h, len)) (at'.take j)).2.1 (cAll (ws, (h, len)) (at'.take j)).2.2)) (fun kv _ => (m - intOf kv).toNat)
        case atStart => exact ⟨0, Nat.zero_le _, rfl, K4⟩
        case round =>
          obtain ⟨j, hj, rfl, KJ⟩ := hrel
          by_cases hlt : j < m
          · obtain ⟨b, off, z, rfl, hx, hcz⟩ := (HAT.out _ KJ.out.gr).int_ hlt
            have hzn := HATN.out z (List.mem_of_getElem? hx)
            obtain ⟨a, rfl⟩ : ∃ a : Nat, z = (a : Int) := ⟨z.toNat, by omega⟩
            have htk := cAll_take (s := (ws, (h, len))) hx
            have hhd := cAll_head (at'.take j) (ws, (h, len)) n HHD.out (fun x hx => HATN.out x (List.mem_of_mem_take hx))
            have hct := cAll_count (at'.take j) (ws, (h, len))
            have hwl := cAll_length (at'.take j) (ws, (h, len))
            rw [List.length_take] at hct
            have hlt2 := LAT.out
            have hln := HLEN.out
            obtain ⟨⟨w', h', l'⟩, hS⟩ : ∃ S, cAll (ws, (h, len)) (at'.take j) = S := ⟨_, rfl⟩
            rw [hS] at KJ htk hhd hct hwl
            simp only at KJ htk hhd hct hwl
            rw [HAL.out] at hwl
            obtain ⟨hn', rfl⟩ : ∃ hn' : Nat, h' = (hn' : Int) := ⟨h'.toNat, by omega⟩
            have CS : Hid (∀ (u : Nat) (W : World), Ar W B p g n w' → Calls Try.prog 16 #[.pointer (some ⟨p, 0, none⟩), .int .i64 (a : Int), .slice (some ⟨W.heap.size, 0, none⟩) 1 1] (W.alloc (.cells #[.int .u64 (u : Int)] 31)) fun e w'' => e = .returned (.int .i64 0) ∧ Ar w'' B p g n (w'.set a u) ∧ W.grownBy w'' (some g)) := hidb (fun u W hh => by
              have := code_astore (ys := [u]) a (some ⟨W.heap.size, 0, none⟩) 1 1 (hh.alloc (.cells #[.int .u64 (u : Int)] 31)) (Sl.one_ W u _) (by omega)
              rw [aStore_one (by omega)] at this
              exact this.mono fun e w'' q => ⟨q.1, q.2.1, grown_trans (World.grownBy_alloc W _ _) q.2.2⟩)
            have cs := CS.out hn' wr KJ.out.ar
            have HST : Hid (cAll (ws, (h, len)) (at'.take (j + 1)) = (w'.set a hn', ((a : Int) + 1, l' + 1))) := hidb htk
            have hwu : IntKind.u64.wrap (hn' : Int) = (hn' : Int) := IntWalk.u64_in _ (by omega)
            have hwa : IntKind.i64.wrap ((a : Int) + 1) = (a : Int) + 1 := IntWalk.i64_in _ (by omega)
            have hwll : IntKind.i64.wrap (l' + 1) = l' + 1 := IntWalk.i64_in _ (by omega)
            have hj0 : (0 : Int) ≤ (j : Int) := by omega
            have hj1 : (j : Int) < (m : Int) := by omega
            obtain ⟨p0, p1, r0, r1, rf0, rf1, pf0, pf1⟩ := KJ.out.facts
            have tb1 := HTB.out _ KJ.out.gr
            clear hx hzn htk hhd hct hwl hlt2 hln hS
            go_wp2_with (first
              | (go_at_call 16; (with_reducible refine cs.mono ?_); rintro e w5 ⟨rfl, ha5, hg5⟩; have K5 := hidb (KJ.out.step hg5 ha5); obtain ⟨s0, s1, t0, t1, tf0, tf1, sf0, sf1⟩ := K5.out.facts; have K6 := hidb ((K5.out.set0 ((a : Int) + 1)).set1 (l' + 1)); clear ha5 hg5 p0 p1 r0 r1 rf0 rf1 pf0 pf1))
            go_roundw
            case rel => exact ⟨j + 1, by omega, by go_num, hidb (by rw [HST.out]; exact K6.out)⟩
            case measure => simp [intOf]; omega
          · obtain rfl : j = m := by omega
            rw [List.take_of_length_le (by have := LAT.out; omega)] at KJ
            obtain ⟨⟨w', h', l'⟩, hS⟩ : ∃ S, cAll (ws, (h, len)) at' = S := ⟨_, rfl⟩
            rw [hS] at KJ
            simp only at KJ
            obtain ⟨p0, p1, r0, r1, rf0, rf1, pf0, pf1⟩ := KJ.out.facts
            have HSS := hidb hS
            clear hS
            go_wp2
            obtain ⟨y0, y1⟩ := two_cells8 wr (w.heap.size + 1 + 1) (.int .i64 h') (.int .i64 l') _ _ r0 r1
            refine bodyPost_ret (v := .tuple #[.agg #[.int .i64 h', .int .i64 l'], .int .i64 0]) (by simp [results, Try.results10, go_sem, y0, y1]) rfl ?_
            rw [HSS.out]
            exact ⟨rfl, HFIN.out _ _ _ _ KJ.out _ _⟩

end Go.Proofs.Ytcngcibiibchiaa
