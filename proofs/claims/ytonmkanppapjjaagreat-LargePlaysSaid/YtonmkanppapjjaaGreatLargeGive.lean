/- Layer 10's keeper: Give. -/
import Derived.Test.YtonmkanppapjjaaGreatLargeTake
namespace Go.Proofs.YtonmkanppapjjaaGreat
open Go.RowKit Go.Maps
set_option linter.unusedVariables false

theorem LOk.puts_at : ∀ {l : List Spn} {v : LargeV}, LOk v → l.Nodup → (∀ s ∈ l, Out v s) → ∀ (j : Nat) (s : Spn), l[j]? = some s → LOk ((l.take j).foldl lPut v) ∧ Out ((l.take j).foldl lPut v) s
  | [], v, o, _, _, j, s, h => by simp at h
  | x :: l, v, o, hd, hm, 0, s, h => by
    obtain rfl : x = s := by simpa using h
    exact ⟨o, hm x (List.mem_cons_self ..)⟩
  | x :: l, v, o, hd, hm, j + 1, s, h => by
    obtain ⟨p1, p2, p3, _⟩ := o.put (hm x (List.mem_cons_self ..))
    have hd2 := List.nodup_cons.1 hd
    exact LOk.puts_at (l := l) p1 hd2.2 (fun t ht => p3 t (fun e => hd2.1 (e ▸ ht)) (hm t (List.mem_cons_of_mem _ ht))) j s (by simpa using h)
/-- What Give does. -/
def GaveK (w : World) (S : Nat → Prop) (p hp : Nat) (r : LargeV × Int) (e : Ending) (w' : World) : Prop := e = .returned (.int .i64 r.2) ∧ KWent w S p hp w' r.1
theorem Sn.keptK {w w' : World} {S : Nat → Prop} {A : Option Addr} {n : Nat} {l : List Spn} (h : Sn w w.heap.size A n l) (hK : Kept S w w') (hn : ∀ a, A = some a → ¬ S a.block) : Sn w' w'.heap.size A n l := by
  refine ⟨h.1, fun hn' => ?_⟩
  obtain ⟨b, off, e, hb, hc⟩ := h.2 hn'
  refine ⟨b, off, e, Nat.lt_of_lt_of_le hb hK.size, fun j y hj => ?_⟩
  obtain ⟨cs, c1, c2, c3⟩ := hc j y hj
  exact ⟨cs, c1, fun k hk => (hK.cell (a := ⟨b, off + j * 4 + k, none⟩) hb (hn ⟨b, off, none⟩ e)).trans (c2 k hk), c3⟩

section
variable {w : World} {Sh : Nat → Prop} {p hp : Nat} {K V : Option Addr} {kc vc : Nat} {v : LargeV}
theorem KpAt.stack (k : KpAt w Sh p hp K kc V vc v) (o : LOk v) (id : Int) (hid : in64 id) : ∀ W, Below w.heap.size w W → Calls Tryz.prog 84 #[.pointer (some ⟨p, 0, none⟩), .int .i64 id] W fun e w' => e = .returned (.tuple #[spv ((lStack v.h id).getD spanNone), .bool (lStack v.h id).isSome]) ∧ Below W.heap.size W w' := fun W hb => by
  have h64 : in64 (spanOf v.h.l id).2.2.1 := by
    by_cases c : ∃ s ∈ v.h.l, s.1 = id
    · exact (o.ids64 k.hp_.lb (spanOf_mem c).1).2
    · rw [spanOf_none c]; exact ⟨by show (-9223372036854775808 : Int) ≤ 0; omega, by show (0 : Int) ≤ 9223372036854775807; omega⟩
  exact code_kstack (k.parts.below hb) id (spanOf v.h.l id) (v.h.l.any fun s => s.1 == id) (lStack v.h id) (lStack_at id) h64 (fun W2 hb2 => code_hspan (k.hp_.below (bel_tr2 hb hb2)) id hid)

/-- The numbers, behind j of them. -/
structure AskSt (w wr : World) (h : HeapV) (ids : List Int) (j : Nat) (A : Option Addr) (m c : Nat) (d : List Spn) : Prop where
  ask : lAsk h ids [] = lAsk h (ids.drop j) d
  len : d.length = m
  row : wr.ownsRow w.heap.size 50 4 (.slice A m c) m (cellsAll scells d)
  bel : Below w.heap.size w wr
theorem lAsk_cons (h : HeapV) (i : Int) (ids : List Int) (l : List Spn) : lAsk h (i :: ids) l = match lStack h i with
    | none => none
    | some s => if s ∈ l then none else lAsk h ids (l ++ [s]) := rfl
theorem lAsk_ids {h : HeapV} : ∀ {ids : List Int} {l l' : List Spn}, lAsk h ids l = some l' → l'.length = l.length + ids.length
  | [], l, l', e => by obtain rfl : l = l' := Option.some.inj e; rfl
  | i :: ids, l, l', e => by
    unfold lAsk at e
    cases c : lStack h i with
    | none => rw [c] at e; cases e
    | some s =>
      rw [c] at e
      simp only at e
      by_cases d : s ∈ l
      · rw [if_pos d] at e; cases e
      · rw [if_neg d] at e
        have := lAsk_ids e
        simp at this ⊢
        omega
set_option maxHeartbeats 4000000 in
set_option maxRecDepth 100000 in
theorem code_kgive (k : KpAt w Sh p hp K kc V vc v) (o : LOk v) (A : Option Addr) (N c : Nat) (ids : List Int) (hs : Sl w w.heap.size A N (ids.map iv)) (hN : N ≤ 60000) (hid : ∀ i ∈ ids, in64 i) :
    Calls Tryz.prog 36 #[.pointer (some ⟨p, 0, none⟩), .slice A N c] w (GaveK w (KpS Sh p K V) p hp (lGive v ids)) := by
  obtain ⟨i0, hi, hz0, hz1, hz2⟩ := info_parts info_span
  have HK := hidb k
  have HO := hidb o
  have HL : Hid (ids.length = N) := hidb (by have := hs.1; simpa using this)
  have HS := hidb hs
  have HST : Hid (∀ id ∈ ids, ∀ W, Below w.heap.size w W → Calls Tryz.prog 84 #[.pointer (some ⟨p, 0, none⟩), .int .i64 id] W fun e w' => e = .returned (.tuple #[spv ((lStack v.h id).getD spanNone), .bool (lStack v.h id).isSome]) ∧ Below W.heap.size W w') := hidb (fun id hi => k.stack o id (hid id hi))
  have HSAME : Hid (∀ (s : Spn) W, Calls Tryz.prog 82 #[spv s] W fun e w' => ∃ t, e = .returned (.func (.func 131) #[] #[.pointer (some ⟨t, 0, none⟩)]) ∧ Below W.heap.size W w' ∧ SpAt w' t s) := hidb (fun s W => by
    refine (code_same s W).mono ?_
    rintro e w' ⟨rfl, rfl⟩
    exact ⟨_, rfl, (Below.refl _ _).alloc (Nat.le_refl _) _, SpAt.new_ W s _⟩)
  have H6 : Hid (∀ wr, lAsk v.h ids [] = none → Below w.heap.size w wr → GaveK w (KpS Sh p K V) p hp (lGive v ids) (.returned (.int .i64 6)) wr) := hidb (fun wr h hb => by
    have e : lGive v ids = (v, 6) := by unfold lGive; rw [h]
    rw [e]
    exact ⟨rfl, k.stay hb⟩)
  have H9 : Hid (∀ wr d, lAsk v.h ids [] = some d → (d.any fun s => decide (s ∈ v.kept ++ v.waits)) = true → Below w.heap.size w wr → GaveK w (KpS Sh p K V) p hp (lGive v ids) (.returned (.int .i64 9)) wr) := hidb (fun wr d h h2 hb => by
    have e : lGive v ids = (v, 9) := by unfold lGive; rw [h]; simp only; rw [if_pos h2]
    rw [e]
    exact ⟨rfl, k.stay hb⟩)
  have H0 : Hid (∀ w1 wr d, lAsk v.h ids [] = some d → (d.any fun s => decide (s ∈ v.kept ++ v.waits)) = false → Below w.heap.size w w1 → KWent w1 (KpS Sh p K V) p hp wr (d.foldl lPut v) → GaveK w (KpS Sh p K V) p hp (lGive v ids) (.returned (.int .i64 0)) wr) := hidb (fun w1 wr d h h2 hb hw => by
    have e : lGive v ids = (d.foldl lPut v, 0) := by unfold lGive; rw [h]; simp only; rw [if_neg (by rw [h2]; simp)]
    rw [e]
    exact ⟨rfl, hw.trans (Kept.of_below hb _) fun b h => Or.inl h⟩)
  have hpl := k.ltp
  clear k o hs hid
  go_enter Tryz.func36, Tryz.ntmps36
  go_wp2
  go_loopw [5, 7, 8, 9, 14] (fun s5 _ _ _ s14 wr => ∃ (j : Nat) (A' : Option Addr) (m c' : Nat) (d : List Spn), s14 = .int .i64 j ∧ s5 = .slice A' m c' ∧ j ≤ N ∧ m ≤ j ∧ Hid (AskSt w wr v.h ids j A' m c' d)) (fun _ _ _ _ s14 _ => (N - intOf s14).toNat)
  case atStart => exact ⟨0, none, 0, 0, [], rfl, rfl, Nat.zero_le _, Nat.le_refl _, hidb ⟨rfl, rfl, World.ownsRow_nil _ _ _ _, Below.refl _ _⟩⟩
  case round =>
    obtain ⟨j, A', m, c', d, rfl, rfl, hj, hmj, HA⟩ := hrel
    by_cases hlt : j < N
    · obtain ⟨b, off, u, rfl, _, hx, hc⟩ := (HS.out.below HA.out.bel).at_ hlt
      obtain ⟨id, hx2, rfl⟩ : ∃ x, ids[j]? = some x ∧ iv x = u := by
        rw [List.getElem?_map] at hx
        exact Option.map_eq_some_iff.1 hx
      have cst := HST.out id (List.mem_of_getElem? hx2) wr HA.out.bel
      have HDR : Hid (ids.drop j = id :: ids.drop (j + 1)) := hidb (by
        have hj2 : j < ids.length := (List.getElem?_eq_some_iff.1 hx2).1
        rw [List.drop_eq_getElem_cons hj2, (List.getElem?_eq_some_iff.1 hx2).2])
      unfold iv at hc
      have hi0 : (0 : Int) ≤ (j : Int) := by omega
      have hi1 : (j : Int) < (N : Int) := by omega
      clear hx hx2
      have HJ : Hid (lAsk v.h ids [] = lAsk v.h (id :: ids.drop (j + 1)) d) := hidb (by rw [HA.out.ask, HDR.out])
      have hsz := HA.out.bel.size
      have HAB : Hid (∀ W, Below wr.heap.size wr W → Below w.heap.size w W ∧ W.ownsRow w.heap.size 50 4 (.slice A' m c') m (cellsAll scells d) ∧ w.heap.size ≤ W.heap.size) := hidb (fun W hb => ⟨HA.out.bel.trans (hb.mono hsz), own_below HA.out.row hb, Nat.le_trans hsz hb.size⟩)
      have HDL := hidb HA.out.len
      cases hst : lStack v.h id with
      | none =>
        rw [hst] at cst
        simp only [Option.getD_none, Option.isSome_none] at cst
        unfold spv spanNone at cst
        simp only at cst
        have HN6 : Hid (lAsk v.h ids [] = none) := hidb (by
          rw [HJ.out]
          unfold lAsk
          rw [hst])
        clear hst
        go_wp2_with (go_at_call 84; (with_reducible refine cst.mono ?_); rintro e w2 ⟨rfl, hb2⟩)
        go_ret
        exact H6.out _ HN6.out (bel_al2 (HAB.out _ hb2).1 _)
      | some s =>
        rw [hst] at cst
        simp only [Option.getD_some, Option.isSome_some] at cst
        have HJ2 : Hid (lAsk v.h ids [] = if s ∈ d then none else lAsk v.h (ids.drop (j + 1)) (d ++ [s])) := hidb (by
          rw [HJ.out, lAsk_cons, hst])
        clear hst
        obtain ⟨s1, s2, s3, s4⟩ := s
        have csm := HSAME.out (s1, s2, s3, s4)
        unfold spv at cst csm
        simp only at cst csm
        have HCI : Hid (∀ W t, Below wr.heap.size wr W → SpAt W t (s1, s2, s3, s4) → Calls Tryz.prog 85 #[.slice A' m c', .func (.func 131) #[] #[.pointer (some ⟨t, 0, none⟩)]] W fun e w' => e = .returned (.bool (decide ((s1, s2, s3, s4) ∈ d))) ∧ Below W.heap.size W w') := hidb (fun W t hb hsp => code_sin t (s1, s2, s3, s4) A' m c' d W (RowOf.of_own scells_len (HAB.out W hb).2.1 HDL.out) (by omega) hsp)
        by_cases hd : (s1, s2, s3, s4) ∈ d
        · have HN6 : Hid (lAsk v.h ids [] = none) := hidb (by rw [HJ2.out, if_pos hd])
          rw [decide_eq_true hd] at HCI
          clear hd
          go_wp2_with (first
            | (go_at_call 84; (with_reducible refine cst.mono ?_); rintro e w2 ⟨rfl, hb2⟩; have hbz := bel_al2 hb2 (.cells #[.int .i64 s1, .int .i64 s2, .int .i64 s3, .int .i64 s4] 50); clear hb2)
            | (go_at_call 82; (with_reducible refine (csm _).mono ?_); rintro e w3 ⟨t, rfl, hb3, hsp⟩; replace hbz := bel_tr2 hbz hb3; clear hb3)
            | (go_at_call 85; (with_reducible refine (HCI.out _ _ hbz hsp).mono ?_); rintro e w4 ⟨rfl, hb4⟩; replace hbz := bel_tr2 hbz hb4; clear hb4))
          go_ret
          exact H6.out _ HN6.out (HAB.out _ hbz).1
        · have HN : Hid (lAsk v.h ids [] = lAsk v.h (ids.drop (j + 1)) (d ++ [(s1, s2, s3, s4)])) := hidb (by rw [HJ2.out, if_neg hd])
          rw [decide_eq_false hd] at HCI
          clear hd
          go_wp2_with (first
            | (go_at_call 84; (with_reducible refine cst.mono ?_); rintro e w2 ⟨rfl, hb2⟩; have hbz := bel_al2 hb2 (.cells #[.int .i64 s1, .int .i64 s2, .int .i64 s3, .int .i64 s4] 50); have hsz2 := Below.refl (w2.alloc (.cells #[.int .i64 s1, .int .i64 s2, .int .i64 s3, .int .i64 s4] 50)).heap.size (w2.alloc (.cells #[.int .i64 s1, .int .i64 s2, .int .i64 s3, .int .i64 s4] 50)); clear hb2)
            | (go_at_call 82; (with_reducible refine (csm _).mono ?_); rintro e w3 ⟨t, rfl, hb3, hsp⟩; replace hbz := bel_tr2 hbz hb3; replace hsz2 := bel_tr2 hsz2 hb3; clear hb3)
            | (go_at_call 85; (with_reducible refine (HCI.out _ _ hbz hsp).mono ?_); rintro e w4 ⟨rfl, hb4⟩; replace hbz := bel_tr2 hbz hb4; replace hsz2 := bel_tr2 hsz2 hb4; clear hb4; obtain ⟨y0, y1, y2, y3⟩ := ((SpAt.new_ w2 (s1, s2, s3, s4) 50).below hsz2 (by simp)).cells; obtain ⟨hbw, hown, hszw⟩ := HAB.out _ hbz)
            | (at_builtin; refine wpList_append_struct w4 rfl _ _ 30 rfl w.heap.size 50 i0 (.agg #[.int .i64 0, .int .i64 0, .int .i64 0, .int .i64 0]) 4 32 Tryz.underlying30 hi hz0 hz1 hz2 rfl (by decide) _ m _ rfl (by exact hown) hszw #[.int .i64 s1, .int .i64 s2, .int .i64 s3, .int .i64 s4] rfl (by simp [Value.oneCell']) _ rfl (by unfold maxLen; omega) (by omega) ?_; intro v5 w5 hown5 hb5; obtain ⟨A5, c5, rfl⟩ := own_form2 hown5))
          have HA5 : Hid (AskSt w w5 v.h ids (j + 1) A5 (m + 1) c5 (d ++ [(s1, s2, s3, s4)])) := hidb ⟨HN.out, by rw [List.length_append, HDL.out]; rfl, by rw [cellsAll_append, cellsAll_one]; exact hown5, hbw.trans hb5⟩
          clear hown5 hb5 hown hbw
          go_roundw
          case rel => exact ⟨j + 1, A5, m + 1, c5, _, by go_num, rfl, by omega, by omega, HA5⟩
          case measure => simp [intOf]; omega
    · obtain rfl : j = N := by omega
      have HD : Hid (lAsk v.h ids [] = some d) := hidb (by
        rw [HA.out.ask, List.drop_eq_nil_of_le (by rw [HL.out]; omega)]
        rfl)
      have hbel := HA.out.bel
      have hdl := HA.out.len
      have hml : m ≤ 60000 := by omega
      obtain ⟨r, hr⟩ : ∃ r, (d.any fun s => decide (s ∈ v.kept ++ v.waits)) = r := ⟨_, rfl⟩
      have CH : Hid (Calls Tryz.prog 86 #[.pointer (some ⟨p, 0, none⟩)] wr fun e w' => ∃ t, e = .returned (.func (.func 135) #[] #[.pointer (some ⟨t, 0, none⟩)]) ∧ Hid (Calls Tryz.prog 85 #[.slice A' m c', .func (.func 135) #[] #[.pointer (some ⟨t, 0, none⟩)]] w' fun e w'' => e = .returned (.bool r) ∧ Hid (Below wr.heap.size wr w''))) := hidb (by
        have kr := HK.out.below hbel
        refine (code_khas kr.parts).mono ?_
        rintro e w' ⟨t, A2, n2, c2, rfl, h1, h2, h3⟩
        refine ⟨t, rfl, hidb ?_⟩
        have htl := lt_of_cell h1
        have hn2 : n2 ≤ 65536 := by
          have e1 := h2.1
          have e2 := kr.lk
          have e3 := kr.lv
          rw [List.length_append] at e1
          omega
        have hrow := own_below HA.out.row h3
        have := code_scont 135 #[.pointer (some ⟨t, 0, none⟩)] enters_has (fun s => decide (s ∈ v.kept ++ v.waits)) A' m c' d w' (RowOf.of_own scells_len hrow hdl) (by omega) (fun W hb x _ => code_has1 t x A2 n2 c2 (v.kept ++ v.waits) W (RowOf.more (RowOf.below h2 hb) hb.size) hn2 ((hb.cell (p := ⟨t, 0, none⟩) htl).trans h1))
        refine this.mono ?_
        rintro e w'' ⟨rfl, hb⟩
        exact ⟨by rw [hr], hidb (bel_tr2 h3 hb)⟩)
      have HAR := hidb HA.out.row
      have HBEL := hidb hbel
      cases r with
      | true =>
        have H9' := hidb (H9.out)
        have HR := hidb hr
        clear hr hbel hdl
        go_wp2_with (first
          | (go_at_call 86; (with_reducible refine CH.out.mono ?_); rintro e w2 ⟨t, rfl, hc2⟩)
          | (go_at_call 85; (with_reducible refine hc2.out.mono ?_); rintro e w3 ⟨rfl, hb3⟩))
        go_ret
        exact H9.out _ d HD.out HR.out (bel_tr2 HBEL.out hb3.out)
      | false =>
        have HR := hidb hr
        have HDL := hidb hdl
        clear hr hbel hdl
        go_wp2_with (first
          | (go_at_call 86; (with_reducible refine CH.out.mono ?_); rintro e w2 ⟨t, rfl, hc2⟩)
          | (go_at_call 85; (with_reducible refine hc2.out.mono ?_); rintro e w3 ⟨rfl, hb3⟩))
        have HB3 : Hid (Below w.heap.size w w3) := hidb (bel_tr2 HBEL.out hb3.out)
        have HROW : Hid (w3.ownsRow w.heap.size 50 4 (.slice A' m c') m (cellsAll scells d)) := hidb (own_below HAR.out hb3.out)
        obtain ⟨w1, rfl⟩ : ∃ w1 : World, w1 = w3 := ⟨_, rfl⟩
        have HG : Hid (d.Nodup ∧ ∀ s ∈ d, Out v s) := hidb (by
          obtain ⟨g1, g2, _⟩ := lAsk_some HO.out.hok HD.out List.nodup_nil (fun s hs => by cases hs)
          refine ⟨g1, fun s hs => ⟨(g2 s hs).1, (g2 s hs).2, fun q => ?_⟩⟩
          have h9 : (d.any fun s => decide (s ∈ v.kept ++ v.waits)) = true := List.any_eq_true.2 ⟨s, hs, decide_eq_true q⟩
          rw [HR.out] at h9
          cases h9)
        have CP : Hid (∀ q (s : Spn) wr2, d[q]? = some s → KWent w1 (KpS Sh p K V) p hp wr2 ((d.take q).foldl lPut v) → Calls Tryz.prog 87 #[.pointer (some ⟨p, 0, none⟩), spv s] (wr2.alloc (.cells #[.int .i64 s.1, .int .i64 s.2.1, .int .i64 s.2.2.1, .int .i64 s.2.2.2] 50)) fun e w' => e = .returned (.tuple #[]) ∧ Hid (KWent w1 (KpS Sh p K V) p hp w' ((d.take (q + 1)).foldl lPut v))) := hidb (fun q s wr2 hq hw => by
          obtain ⟨Sh2, K2, kc2, V2, vc2, k2, h1, h2⟩ := hw
          obtain ⟨oq, outq⟩ := LOk.puts_at HO.out HG.out.1 HG.out.2 q s hq
          have hba : Below wr2.heap.size wr2 (wr2.alloc (.cells #[.int .i64 s.1, .int .i64 s.2.1, .int .i64 s.2.2.1, .int .i64 s.2.2.2] 50)) := (Below.refl _ _).alloc (Nat.le_refl _) _
          refine (code_kput (k2.below hba) oq s outq).mono ?_
          rintro e w' ⟨rfl, h3⟩
          have e2 : (d.take (q + 1)).foldl lPut v = lPut ((d.take q).foldl lPut v) s := by
            rw [List.take_add_one, hq, List.foldl_append]; rfl
          rw [e2]
          exact ⟨rfl, hidb (h3.trans (h1.trans (Kept.of_below hba _) fun _ _ h => h) fun b hb => h2 b hb)⟩)
        have HSN : Hid (∀ q wr2, KWent w1 (KpS Sh p K V) p hp wr2 ((d.take q).foldl lPut v) → Sn wr2 wr2.heap.size A' m d) := hidb (fun q wr2 hw => by
          obtain ⟨_, _, _, _, _, _, h1, _⟩ := hw
          refine Sn.keptK (RowOf.of_own scells_len HROW.out HDL.out) h1 fun a ha c => ?_
          have h2 := HK.out.lt _ c
          subst ha
          have h3 := (HROW.out.lt a.block rfl).1
          omega)
        have HST0 : Hid (KWent w1 (KpS Sh p K V) p hp w1 v) := hidb ((HK.out.below HB3.out).went (Kept.refl _ _) fun b h => Or.inl h)
        clear HST H6 H9 CH hc2 hb3 HAR
        go_loopw [11, 43] (fun _ s43 wr2 => ∃ (q : Nat), s43 = .int .i64 q ∧ q ≤ m ∧ Hid (KWent w1 (KpS Sh p K V) p hp wr2 ((d.take q).foldl lPut v))) (fun _ s43 _ => (m - intOf s43).toNat)
        case atStart => exact ⟨0, rfl, Nat.zero_le _, HST0⟩
        case round =>
          obtain ⟨q, rfl, hq, HW⟩ := hrel
          by_cases hlt2 : q < m
          · obtain ⟨b, off, s1, s2, s3, s4, rfl, hx, hc0, hc1, hc2, hc3⟩ := Sn.span (HSN.out q wr HW.out) hlt2
            have cp := CP.out q (s1, s2, s3, s4) wr hx HW.out
            have hi0 : (0 : Int) ≤ (q : Int) := by omega
            have hi1 : (q : Int) < (m : Int) := by omega
            unfold spv at cp
            simp only at cp
            clear hx
            go_wp2_with (go_at_call 87; (with_reducible refine cp.mono ?_); rintro e w4 ⟨rfl, HW4⟩)
            go_roundw
            case rel => exact ⟨q + 1, by go_num, by omega, HW4⟩
            case measure => simp [intOf]; omega
          · obtain rfl : q = m := by omega
            have P := hidb (H0.out w1 wr d HD.out HR.out HB3.out (by
              have h := HW.out
              rw [List.take_of_length_le (by rw [HDL.out]; exact Nat.le_refl _)] at h
              exact h))
            go_wp2
            go_ret
            exact P.out

end

end Go.Proofs.YtonmkanppapjjaaGreat
