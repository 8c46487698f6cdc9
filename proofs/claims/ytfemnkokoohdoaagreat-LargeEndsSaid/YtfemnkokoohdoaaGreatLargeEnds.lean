/- Layer 10's statement on a keeper to which all is given back. -/
import Derived.Test.YtfemnkokoohdoaaGreatLargeLast
import Derived.Maps.AppendAt
namespace Go.Proofs.YtfemnkokoohdoaaGreat
open Go.RowKit
set_option linter.unusedVariables false

theorem no_spansL {h : HeapV} (k : HOk h) (hl : h.l = []) : fList h.free = [(0, h.pages)] ∧ hSpans h = [] := by
  refine ⟨k.ends hl, ?_⟩
  cases e : hSpans h with
  | nil => rfl
  | cons s l =>
    have := (hSpans_mem k s).1 (by rw [e]; exact List.mem_cons_self ..)
    rw [hl] at this; cases this
theorem hold_all {u : LargeV} (o : LOk u) {l : List Spn} (k0 : u.kept = []) (w0 : u.waits = []) (nd : l.Nodup) (mem : ∀ s, s ∈ l ↔ s ∈ u.h.l) (big : ∀ s ∈ l, lBig s = true) (held : Bool) :
    ∃ v2, lGive (lHold u held) (l.map (·.1)) = (v2, 0) ∧ v2.held = (lHold u held).held ∧ (lHold u held).held = held ∧ fList (lFlush (lHold v2 false)).h.free = [(0, u.h.pages)] ∧ hSpans (lFlush (lHold v2 false)).h = [] := by
  obtain ⟨v1, hv1⟩ : ∃ v1, lHold u held = v1 := ⟨_, rfl⟩
  have o1 := o.hold held
  have hp1 := (o.hold_heap held).1
  rw [hv1] at o1 hp1 ⊢
  have h1 : v1.kept = [] ∧ v1.waits = [] ∧ v1.held = held ∧ ∀ s, s ∈ v1.h.l ↔ s ∈ u.h.l := by
    subst hv1
    unfold lHold
    cases held with
    | true => exact ⟨k0, w0, rfl, fun s => Iff.rfl⟩
    | false =>
      refine ⟨k0, rfl, rfl, fun s => ?_⟩
      obtain ⟨g, e1, _⟩ := hDrop_those o.hok (l := u.waits) (fun s hs => (o.waitsm s hs).1) o.ndw
      show s ∈ (hDrop u.h (u.waits.map (·.1))).1.l ↔ _
      rw [e1]
      show s ∈ hLeft _ _ ↔ _
      rw [left_those o.hok (fun s hs => (o.waitsm s hs).1), w0]
      simp
  have hm : ∀ s ∈ l, s ∈ v1.h.l ∧ lBig s = true := fun s hs => ⟨(h1.2.2.2 s).2 ((mem s).1 hs), big s hs⟩
  have hg : lAsk v1.h (l.map (·.1)) [] = some l := lAsk_of o1.hok (l := []) (by simpa using nd) hm
  have hout : ∀ s ∈ l, Out v1 s := fun s hs => ⟨(hm s hs).1, (hm s hs).2, by rw [h1.1, h1.2.1]; simp⟩
  obtain ⟨p1, p2, p3, p4, p5, p6⟩ := LOk.puts o1 nd hout
  refine ⟨l.foldl lPut v1, ?_, p2, h1.2.2.1, ?_⟩
  · unfold lGive
    rw [hg]
    simp only
    rw [h1.1, h1.2.1, if_neg (by simp)]
  · have o2 := p1.hold false
    have o3 := o2.flush
    have hp3 : (lFlush (lHold (l.foldl lPut v1) false)).h.pages = u.h.pages := by rw [o2.flush_heap.1, (p1.hold_heap false).1, p5, hp1]
    obtain ⟨v2, hv2⟩ : ∃ v2, l.foldl lPut v1 = v2 := ⟨_, rfl⟩
    rw [hv2] at p1 p3 p4 o2 o3 hp3 ⊢
    have hall : ∀ t ∈ v2.h.l, t ∈ v2.kept ++ v2.waits := fun t ht => p4 t ht (Or.inl ((mem t).2 ((h1.2.2.2 t).1 (p3 t ht))))
    have hnil : (lFlush (lHold v2 false)).h.l = [] := by
      refine List.eq_nil_iff_forall_not_mem.2 fun t ht => ?_
      have e1 : lHold v2 false = ⟨(hDrop v2.h (v2.waits.map (·.1))).1, v2.kept, [], false⟩ := rfl
      obtain ⟨g, e2, k2⟩ := hDrop_those p1.hok (l := v2.waits) (fun s hs => (p1.waitsm s hs).1) p1.ndw
      rw [e1, e2] at ht o2
      have e3 : (lFlush ⟨⟨v2.h.pages, g, hLeft v2.h.l (v2.waits.map (·.1)), v2.h.last⟩, v2.kept, [], false⟩).h = (hDrop ⟨v2.h.pages, g, hLeft v2.h.l (v2.waits.map (·.1)), v2.h.last⟩ (v2.kept.map (·.1))).1 := rfl
      obtain ⟨g2, e4, _⟩ := hDrop_those o2.hok (l := v2.kept) (fun s hs => (o2.keptm s hs).1) p1.ndk
      have e4' : hDrop ⟨v2.h.pages, g, hLeft v2.h.l (v2.waits.map (·.1)), v2.h.last⟩ (v2.kept.map (·.1)) = _ := e4
      rw [e3, e4'] at ht
      have h5 := (left_those o2.hok (l := v2.kept) (fun s hs => (o2.keptm s hs).1) t).1 ht
      have h6 := (left_those p1.hok (l := v2.waits) (fun s hs => (p1.waitsm s hs).1) t).1 h5.1
      rcases List.mem_append.1 (hall t h6.1) with h | h
      · exact h5.2 h
      · exact h6.2 h
    obtain ⟨a, b⟩ := no_spansL o3.hok hnil
    rw [hp3] at a
    exact ⟨a, b⟩

theorem KeepSt.off {w W W' : World} {p hp : Nat} {S : Nat → Prop} {v : LargeV} {k : Nat} {pages : Int} {r : Option Nat} (s : KeepSt w W p hp S v k pages) (hg : W.grownBy W' r) (hr : ∀ b, r = some b → ¬ S b ∧ w.heap.size ≤ b) : KeepSt w W' p hp S v k pages := by
  obtain ⟨⟨Sh, K, kc, V, vc, q1, q2⟩, l0, l1, l2, l3, l4, l5⟩ := s
  have hK : Kept (fun b => r = some b) W W' := (Kept.refl (fun b => r = some b) W).grown hg fun b e => Or.inl e
  exact ⟨⟨Sh, K, kc, V, vc, q1.keep hK fun b hb e => (hr b e).1 (q2 b hb), q2⟩, l0, fun b h => Nat.lt_of_lt_of_le (l1 b h) hg.size, l2, l3.trans (hK.below l3.size fun b e => (hr b e).2), l4, l5⟩

/-- All spans that were taken, and their numbers in a row of the law's own. -/
structure EndK (w W : World) (q p : Nat) (S : Nat → Prop) (u : LargeV) (j : Nat) (pages : Int) (b n c : Nat) (l : List Spn) : Prop where
  st : KeepSt w W q p S u j pages
  k0 : u.kept = []
  w0 : u.waits = []
  h0 : u.held = false
  row : W.ownsRow 0 3 1 (.slice (some ⟨b, 0, none⟩) n c) n (l.map fun s => iv s.1)
  ap : ¬ S b ∧ w.heap.size ≤ b
  len : l.length = n
  nd : l.Nodup
  mem : ∀ s, s ∈ l ↔ s ∈ u.h.l
  big : ∀ s ∈ l, lBig s = true
section
variable {w W W3 : World} {q p : Nat} {S S3 : Nat → Prop} {u u3 : LargeV} {j b n c : Nat} {pages : Int} {l : List Spn}
/-- A Take that has taken nothing. -/
theorem EndK.same (e : EndK w W q p S u j pages b n c l) {x no : Int} {s : Spn} (hno : no ≠ 0) (hT : lTake u x = (u3, s, no)) (s3 : KeepSt w W3 q p S3 u3 (j + 1) pages) (sd : SideK S W S3 W3) : EndK w W3 q p S3 u3 (j + 1) pages b n c l := by
  obtain ⟨h1, h2, h3, h4⟩ := lTake_none e.k0 x
  have hb : b < W.heap.size := (e.row.lt b rfl).2
  have hl : u3.h.l = u.h.l := by
    unfold lTake at hT
    split at hT
    · injection hT with hT _; rw [← hT]
    · rw [e.k0] at hT
      have hl0 : (lOf [] x).getLast? = none := rfl
      rw [hl0] at hT
      injection hT with hT hT2
      injection hT2 with _ hT3
      rw [← hT]
      show (hMake u.h x (-1)).1.l = _
      by_cases c2 : x < 1 ∨ (-1 : Int) < -1 ∨ (3 : Int) < -1
      · rw [hMake_arg c2]
      · cases hb2 : fBest u.h.free x with
        | none => rw [hMake_full c2 hb2]
        | some r =>
          obtain ⟨g, _, _, _, e2, _⟩ := hMake_yes e.st.ok.hok c2 hb2
          rw [e2] at hT3
          exact absurd hT3.symm hno
  rw [hT] at h1 h2 h3
  refine ⟨s3, h1, h2.trans e.w0, h3.trans e.h0, own_kept e.row sd.1 (fun k hk => ?_), ⟨sd.not hb e.ap.1, e.ap.2⟩, e.len, e.nd, fun s => by rw [hl]; exact e.mem s, e.big⟩
  have : b = k := by injection hk
  rw [← this]; exact e.ap.1
/-- .. that has taken a span: its number is put into the row. -/
theorem EndK.push (e : EndK w W q p S u j pages b n c l) {x : Int} {s : Spn} (hT : lTake u x = (u3, s, 0)) (s3 : KeepSt w W3 q p S3 u3 (j + 1) pages) {W5 w6 : World} {r : Option Nat} {b' c' : Nat} {l' : List Spn} (hb5 : Below W3.heap.size W3 W5) (hg : W5.grownBy w6 r) (hr : ∀ b, r = some b → ¬ S3 b ∧ w.heap.size ≤ b)
    (ho : w6.ownsRow 0 3 1 (.slice (some ⟨b', 0, none⟩) (n + 1) c') (n + 1) (l'.map fun s => iv s.1)) (ha : ¬ S3 b' ∧ w.heap.size ≤ b') (hl : l' = l ++ [s] ∨ l' = s :: l) : EndK w w6 q p S3 u3 (j + 1) pages b' (n + 1) c' l' := by
  obtain ⟨h1, h2, h3, h4⟩ := lTake_none e.k0 x
  rw [hT] at h1 h2 h3 h4
  simp only at h1 h2 h3 h4
  obtain ⟨hf, e2⟩ := h4 trivial
  injection e2 with e3 e4
  injection e4 with e4 e5
  obtain ⟨m1, m2, m3, m4⟩ := hMake_made (h := u.h) (n := x) e.st.ok.hok u3.h s (by rw [e3, e4]; exact Prod.ext rfl (Prod.ext rfl e5.symm))
  have hbig : lBig s = true := by unfold lBig; rw [m3, m2, hf]; rfl
  have hnd : (l ++ [s]).Nodup := by
    rw [List.nodup_append]
    refine ⟨e.nd, by simp, fun a ha t ht e6 => ?_⟩
    obtain rfl := List.mem_singleton.1 ht
    subst e6
    have h7 := s3.ok.hok.l_nodup
    rw [m4, List.nodup_append] at h7
    exact h7.2.2 a ((e.mem a).1 ha) a (List.mem_singleton.2 rfl) rfl
  have hp : l'.Perm (l ++ [s]) := by
    rcases hl with rfl | rfl
    · exact List.Perm.refl _
    · exact (List.perm_append_singleton s l).symm
  refine ⟨(s3.below hb5).off hg hr, h1, h2.trans e.w0, h3.trans e.h0, ho, ha, ?_, hp.nodup_iff.2 hnd, fun t => ?_, fun t ht => ?_⟩
  · rw [hp.length_eq, List.length_append, e.len]; rfl
  · rw [hp.mem_iff, m4, List.mem_append, List.mem_append, e.mem]
  · rcases List.mem_append.1 (hp.mem_iff.1 ht) with h | h
    · exact e.big t h
    · obtain rfl := List.mem_singleton.1 h
      exact hbig
theorem KeepSt.fresh {w W : World} {q p : Nat} {S : Nat → Prop} {v : LargeV} {k : Nat} {pages : Int} (s : KeepSt w W q p S v k pages) {b : Nat} (hb : W.heap.size ≤ b) : ¬ S b ∧ w.heap.size ≤ b := ⟨fun c => by have := s.lt b c; omega, Nat.le_trans s.bel.size hb⟩
theorem own_cellsAt {W : World} {base b n c : Nat} {e : TypeId} {xs : List Value} (h : W.ownsRow base e 1 (.slice (some ⟨b, 0, none⟩) n c) n xs) : CellsAt W (some ⟨b, 0, none⟩) xs := fun ad ea j u hj => by
  obtain rfl := Option.some.inj ea
  have hl : xs.length = n := by have := h.1; omega
  have hjl := (List.getElem?_eq_some_iff.1 hj).1
  obtain ⟨b2, off, e2, _, hc⟩ := (Sl.of_own h).2 (by omega)
  injection e2 with e2
  injection e2 with e3 e4
  subst e3 e4
  rw [Go.WideShapes.add_plain]
  exact (hc j (by omega)).trans hj
/-- The number is put behind. -/
theorem EndK.back_ {s1 s2 s3 s4 x : Int} {v : Value} {w6 : World} (e : EndK w W q p S u j pages b n c l) (hT : lTake u x = (u3, (s1, s2, s3, s4), 0)) (st3 : KeepSt w W3 q p S3 u3 (j + 1) pages) (sd : SideK S W S3 W3) (ho : w6.ownsRow 0 3 1 v (n + 1) ((l.map fun s => iv s.1) ++ [.int .i64 s1])) (hg : ((W3.alloc (.cells #[.int .i64 s1, .int .i64 s2, .int .i64 s3, .int .i64 s4] 49)).alloc (.cells #[.int .i64 s1] 3)).grownBy w6 (Value.slice (some ⟨b, 0, none⟩) n c).ownBlock) (hat : v.ownBlock = (Value.slice (some ⟨b, 0, none⟩) n c).ownBlock ∨ v.ownBlock = some ((W3.alloc (.cells #[.int .i64 s1, .int .i64 s2, .int .i64 s3, .int .i64 s4] 49)).alloc (.cells #[.int .i64 s1] 3)).heap.size) :
    ∃ b' c', v = .slice (some ⟨b', 0, none⟩) (n + 1) c' ∧ Hid (EndK w w6 q p S3 u3 (j + 1) pages b' (n + 1) c' (l ++ [(s1, s2, s3, s4)])) := by
  obtain ⟨g, cp, rfl, _, _⟩ := ho.form (by omega)
  have hb : b < W.heap.size := (e.row.lt b rfl).2
  have hz : ((W3.alloc (.cells #[.int .i64 s1, .int .i64 s2, .int .i64 s3, .int .i64 s4] 49)).alloc (.cells #[.int .i64 s1] 3)).heap.size = W3.heap.size + 1 + 1 := by simp
  refine ⟨g, cp, rfl, hidb (e.push hT st3 (bel_al2 ((Below.refl _ _).alloc (Nat.le_refl _) (.cells #[.int .i64 s1, .int .i64 s2, .int .i64 s3, .int .i64 s4] 49)) (.cells #[.int .i64 s1] 3)) hg (fun k hk => ?_) (by rw [List.map_append]; exact ho) ?_ (Or.inl rfl))⟩
  · have : b = k := by injection hk
    rw [← this]
    exact ⟨sd.not hb e.ap.1, e.ap.2⟩
  · rcases hat with h | h
    · have : g = b := by injection h
      rw [this]
      exact ⟨sd.not hb e.ap.1, e.ap.2⟩
    · have : g = ((W3.alloc (.cells #[.int .i64 s1, .int .i64 s2, .int .i64 s3, .int .i64 s4] 49)).alloc (.cells #[.int .i64 s1] 3)).heap.size := by injection h
      exact st3.fresh (by omega)
/-- .. in front. -/
theorem EndK.front_ {s1 s2 s3 s4 x : Int} {v : Value} {w6 : World} (e : EndK w W q p S u j pages b n c l) (hT : lTake u x = (u3, (s1, s2, s3, s4), 0)) (st3 : KeepSt w W3 q p S3 u3 (j + 1) pages) (ho : w6.ownsRow 0 3 1 v (1 + n) ([.int .i64 s1] ++ (l.map fun s => iv s.1))) (hg : ((W3.alloc (.cells #[.int .i64 s1, .int .i64 s2, .int .i64 s3, .int .i64 s4] 49)).alloc (.cells #[.int .i64 s1] 3)).grownBy w6 (Value.slice (some ⟨W3.heap.size + 1, 0, none⟩) 1 1).ownBlock) (hat : v.ownBlock = (Value.slice (some ⟨W3.heap.size + 1, 0, none⟩) 1 1).ownBlock ∨ v.ownBlock = some ((W3.alloc (.cells #[.int .i64 s1, .int .i64 s2, .int .i64 s3, .int .i64 s4] 49)).alloc (.cells #[.int .i64 s1] 3)).heap.size) :
    ∃ b' c', v = .slice (some ⟨b', 0, none⟩) (n + 1) c' ∧ Hid (EndK w w6 q p S3 u3 (j + 1) pages b' (n + 1) c' ((s1, s2, s3, s4) :: l)) := by
  rw [Nat.add_comm] at ho
  obtain ⟨g, cp, rfl, _, _⟩ := ho.form (by omega)
  have hz : ((W3.alloc (.cells #[.int .i64 s1, .int .i64 s2, .int .i64 s3, .int .i64 s4] 49)).alloc (.cells #[.int .i64 s1] 3)).heap.size = W3.heap.size + 1 + 1 := by simp
  refine ⟨g, cp, rfl, hidb (e.push hT st3 (bel_al2 ((Below.refl _ _).alloc (Nat.le_refl _) (.cells #[.int .i64 s1, .int .i64 s2, .int .i64 s3, .int .i64 s4] 49)) (.cells #[.int .i64 s1] 3)) hg (fun k hk => ?_) ho ?_ (Or.inr rfl))⟩
  · have : W3.heap.size + 1 = k := by injection hk
    exact st3.fresh (by omega)
  · rcases hat with h | h
    · have : g = W3.heap.size + 1 := by injection h
      exact st3.fresh (by omega)
    · have : g = ((W3.alloc (.cells #[.int .i64 s1, .int .i64 s2, .int .i64 s3, .int .i64 s4] 49)).alloc (.cells #[.int .i64 s1] 3)).heap.size := by injection h
      exact st3.fresh (by omega)
theorem own_one (X : World) (v : Value) (hv : v.oneCell' = true) (t : TypeId) (g : Nat) (hg : g = X.heap.size) : (X.alloc (.cells #[v] t)).ownsRow 0 t 1 (.slice (some ⟨g, 0, none⟩) 1 1) 1 [v] := by
  subst hg
  exact own_of_whole (n := 1) (c := 1) (s := 1) (L := [v]) (show (X.heap.push _)[X.heap.size]? = _ by simp) (Nat.zero_le _) (Nat.le_refl _) (by unfold maxLen; omega) rfl
end

set_option maxRecDepth 100000 in
set_option maxHeartbeats 8000000 in
theorem largeEnds_any (pages : Int) (A : Option Addr) (m c : Nat) (l : List Int) (held back : Bool) (w : World) (h0 : in64 pages) (hm : m ≤ maxLen) (hs : Sl w w.heap.size A m (l.map iv)) (hid : ∀ i ∈ l, in64 i) :
    Calls Tryz.prog 7 #[.int .i64 pages, .slice A m c, .bool held, .bool back] w fun e w' => e = .returned (.bool true) ∧ Below w.heap.size w w' := by
  have cw := fun W => awake10 W
  unfold maxLen at hm
  by_cases hp : pages < 4 ∨ 1024 < pages
  · have cn := code_hnew_no pages w hp
    by_cases g1 : 100 < pages
    · clear hs hid hp
      go_enter Tryz.func7, Tryz.ntmps7
      go_wp2_with (first
        | (go_at_call 32; (with_reducible refine cn.mono ?_); rintro e w1 ⟨rfl, rfl⟩)
        | (go_at_call 31; (with_reducible refine (cw _).mono ?_); rintro e w1 ⟨rfl, hb⟩))
      go_ret
      exact ⟨rfl, hb⟩
    · by_cases g2 : 100 < m
      · have g3 : (100 : Int) < (m : Int) := by omega
        clear hs hid hp
        go_enter Tryz.func7, Tryz.ntmps7
        go_wp2_with (first
          | (go_at_call 32; (with_reducible refine cn.mono ?_); rintro e w1 ⟨rfl, rfl⟩)
          | (go_at_call 31; (with_reducible refine (cw _).mono ?_); rintro e w1 ⟨rfl, hb⟩))
        go_ret
        exact ⟨rfl, hb⟩
      · have g3 : ¬ (100 : Int) < (m : Int) := by omega
        clear hs hid hp
        go_enter Tryz.func7, Tryz.ntmps7
        go_wp2_with (first
          | (go_at_call 32; (with_reducible refine cn.mono ?_); rintro e w1 ⟨rfl, rfl⟩)
          | (go_at_call 31; (with_reducible refine (cw _).mono ?_); rintro e w1 ⟨rfl, hb⟩))
        go_ret
        exact ⟨rfl, hb⟩
  obtain ⟨F, hN, cn⟩ := t_hnew pages w (by omega) (by omega)
  by_cases g1 : 100 < pages
  · clear hs hid hp
    go_enter Tryz.func7, Tryz.ntmps7
    go_wp2_with (first
      | (go_at_call 32; (with_reducible refine cn.mono ?_); rintro e w1 ⟨q, Sh, rfl, s1⟩; have B1 := hidb s1.bel; clear s1)
      | (go_at_call 31; (with_reducible refine (cw _).mono ?_); rintro e w2 ⟨rfl, hb⟩))
    go_ret
    exact ⟨rfl, bel_tr2 B1.out hb⟩
  by_cases g2 : 100 < m
  · have g3 : (100 : Int) < (m : Int) := by omega
    clear hs hid hp
    go_enter Tryz.func7, Tryz.ntmps7
    go_wp2_with (first
      | (go_at_call 32; (with_reducible refine cn.mono ?_); rintro e w1 ⟨q, Sh, rfl, s1⟩; have B1 := hidb s1.bel; clear s1)
      | (go_at_call 31; (with_reducible refine (cw _).mono ?_); rintro e w2 ⟨rfl, hb⟩))
    go_ret
    exact ⟨rfl, bel_tr2 B1.out hb⟩
  have g3 : ¬ (100 : Int) < (m : Int) := by omega
  have HR := hidb hs
  have HID := hidb hid
  clear hs hid
  obtain ⟨i0, hi, hz0, hz1, hz2⟩ := info_parts info_int
  have CN : Hid (∀ W p Sh, HeapSt w W p Sh ⟨pages, F, [], 0⟩ 0 pages → Calls Tryz.prog 33 #[.pointer (some ⟨p, 0, none⟩)] W fun e w' => ∃ q S, e = .returned (.pointer (some ⟨q, 0, none⟩)) ∧ Hid (EndK w (w'.alloc (.cells #[] 3)) q p S ⟨⟨pages, F, [], 0⟩, [], [], false⟩ 0 pages w'.heap.size 0 0 [])) := hidb (fun W p Sh s => (t_knew s).mono fun e w' ⟨q, S, a, b⟩ => ⟨q, S, a, hidb ⟨b.below ((Below.refl _ _).alloc (Nat.le_refl _) _), rfl, rfl, rfl, own_empty w' 0 3 1 (Nat.zero_le _), b.fresh (Nat.le_refl _), rfl, List.nodup_nil, fun s => Iff.rfl, fun s hs => by cases hs⟩⟩)
  have CT : Hid (∀ W q p S (v : LargeV) j x v1 s1 s2 s3 s4 no, KeepSt w W q p S v j pages → j < m → in64 x → lTake v x = (v1, (s1, s2, s3, s4), no) → Calls Tryz.prog 39 #[.pointer (some ⟨q, 0, none⟩), .int .i64 x] W fun e w' => e = .returned (.tuple #[.agg #[.int .i64 s1, .int .i64 s2, .int .i64 s3, .int .i64 s4], .int .i64 no]) ∧ ∃ S', Hid (KeepSt w w' q p S' v1 (j + 1) pages ∧ SideK S W S' w')) := hidb (fun W q p S v j x v1 s1 s2 s3 s4 no s hj hx hT => (t_ktake s (by omega) x hx v1 s1 s2 s3 s4 no hT).mono fun e w' ⟨a, S', b, c⟩ => ⟨a, S', hidb ⟨b, c⟩⟩)
  go_enter Tryz.func7, Tryz.ntmps7
  go_wp2_with (first
    | (go_at_call 32; (with_reducible refine cn.mono ?_); rintro e w1 ⟨p, Sh, rfl, s1⟩; have c2 := CN.out _ _ _ s1; clear s1)
    | (go_at_call 33; (with_reducible refine c2.mono ?_); rintro e w2 ⟨q, S2, rfl, HE0⟩))
  clear cn CN c2
  go_loopw [12, 13, 14, 15] (fun ids x _ _ wr => ∃ (j : Nat) (S' : Nat → Prop) (u : LargeV) (b n c : Nat) (ll : List Spn), ids = .slice (some ⟨b, 0, none⟩) n c ∧ x = .int .i64 j ∧ j ≤ m ∧ n ≤ j ∧ Hid (EndK w wr q p S' u j pages b n c ll)) (fun _ x _ _ _ => (m - intOf x).toNat)
  case atStart => exact ⟨0, S2, _, w2.heap.size, 0, 0, [], rfl, rfl, Nat.zero_le _, Nat.le_refl _, HE0⟩
  case round =>
    obtain ⟨j, S', u, b, n, cc, ll, rfl, rfl, hj, hn, HE⟩ := hrel
    by_cases hlt : j < m
    · obtain ⟨bb, off, x, rfl, hx, hc⟩ := (HR.out.below HE.out.st.bel).int_ hlt
      have hx64 := HID.out x (List.mem_of_getElem? hx)
      obtain ⟨⟨v1, ⟨s1, s2, s3, s4⟩, no⟩, hT⟩ : ∃ r, lTake u x = r := ⟨_, rfl⟩
      have ct := CT.out wr q p S' u j x v1 s1 s2 s3 s4 no HE.out.st hlt hx64 hT
      have hi0 : (0 : Int) ≤ (j : Int) := by omega
      have hi1 : (j : Int) < (m : Int) := by omega
      have HT := hidb hT
      clear hx hT
      by_cases hno : no = 0
      · subst hno
        have HONE : Hid (∀ u ∈ [Value.int .i64 s1], u.oneCell' = true) := hidb (ints_oneCell .i64 [s1])
        have HNW : Hid ((ll.map fun s => iv s.1).length = n * 1 ∧ ∀ u ∈ (ll.map fun s => iv s.1), u.oneCell' = true) := hidb ⟨by rw [List.length_map, HE.out.len]; omega, fun u hu => by
          obtain ⟨s, _, rfl⟩ := List.mem_map.1 hu
          rfl⟩
        cases back with
        | true =>
          have HB : Hid (∀ w3 S3, Hid (KeepSt w w3 q p S3 v1 (j + 1) pages ∧ SideK S' wr S3 w3) → ∀ i y, (ll.map fun s => iv s.1)[i]? = some y → ((w3.alloc (.cells #[.int .i64 s1, .int .i64 s2, .int .i64 s3, .int .i64 s4] 49)).alloc (.cells #[.int .i64 s1] 3)).cell? ((⟨b, 0, none⟩ : Addr).add i) = some y) := hidb (fun w3 S3 h i y hy => by
            have h1 := own_kept HE.out.row h.out.2.1 (fun k hk => by
              have : b = k := by injection hk
              rw [← this]; exact HE.out.ap.1)
            have h2 := own_below (own_below h1 ((Below.refl _ _).alloc (Nat.le_refl _) (.cells #[.int .i64 s1, .int .i64 s2, .int .i64 s3, .int .i64 s4] 49))) ((Below.refl _ _).alloc (Nat.le_refl _) (.cells #[.int .i64 s1] 3))
            exact own_cellsAt h2 _ rfl i y hy)
          go_wp2_with (first
            | (go_at_call 39; (with_reducible refine ct.mono ?_); rintro e w3 ⟨rfl, S3, H3⟩)
            | (at_builtin; refine wpList_append_own_at _ rfl _ _ 38 rfl 0 3 i0 (.int .i64 0) 1 8 Tryz.underlying38 hi hz0 hz1 hz2 rfl (by decide) _ 1 _ rfl (own_one _ (.int .i64 s1) rfl 3 (w3.heap.size + 1) (by simp)) ⟨b, 0, none⟩ n cc _ rfl HNW.out.1 (HB.out _ _ H3) HNW.out.2 (by unfold maxLen; omega) (by omega) (Nat.zero_le _) ?_; intro v' w5 hown' hgrow hnil hat; obtain ⟨b5, c5, rfl, HP⟩ := EndK.front_ HE.out HT.out H3.out.1 hown' hgrow hat; clear hown' hgrow hnil hat))
          go_roundw
          case rel => exact ⟨j + 1, S3, v1, b5, n + 1, c5, _, rfl, by go_num, by omega, by omega, HP⟩
          case measure => simp [intOf]; omega
        | false =>
          have HO : Hid (∀ w3 S3, Hid (KeepSt w w3 q p S3 v1 (j + 1) pages ∧ SideK S' wr S3 w3) → ((w3.alloc (.cells #[.int .i64 s1, .int .i64 s2, .int .i64 s3, .int .i64 s4] 49)).alloc (.cells #[.int .i64 s1] 3)).ownsRow 0 3 1 (.slice (some ⟨b, 0, none⟩) n cc) n (ll.map fun s => iv s.1)) := hidb (fun w3 S3 h => by
            have h1 := own_kept HE.out.row h.out.2.1 (fun k hk => by
              have : b = k := by injection hk
              rw [← this]; exact HE.out.ap.1)
            exact own_below (own_below h1 ((Below.refl _ _).alloc (Nat.le_refl _) (.cells #[.int .i64 s1, .int .i64 s2, .int .i64 s3, .int .i64 s4] 49))) ((Below.refl _ _).alloc (Nat.le_refl _) (.cells #[.int .i64 s1] 3)))
          have HCO : Hid (∀ (w3 : World) i y, [Value.int .i64 s1][i]? = some y → ((w3.alloc (.cells #[.int .i64 s1, .int .i64 s2, .int .i64 s3, .int .i64 s4] 49)).alloc (.cells #[.int .i64 s1] 3)).cell? ((⟨w3.heap.size + 1, 0, none⟩ : Addr).add i) = some y) := hidb (fun w3 i y hy => cells_new' (w3.alloc (.cells #[.int .i64 s1, .int .i64 s2, .int .i64 s3, .int .i64 s4] 49)) [Value.int .i64 s1] 3 (w3.heap.size + 1) (by simp) _ rfl i y hy)
          go_wp2_with (first
            | (go_at_call 39; (with_reducible refine ct.mono ?_); rintro e w3 ⟨rfl, S3, H3⟩)
            | (at_builtin; refine wpList_append_own_at _ rfl _ _ 38 rfl 0 3 i0 (.int .i64 0) 1 8 Tryz.underlying38 hi hz0 hz1 hz2 rfl (by decide) _ n _ rfl (HO.out _ _ H3) ⟨w3.heap.size + 1, 0, none⟩ 1 1 [.int .i64 s1] rfl rfl (HCO.out w3) HONE.out (by unfold maxLen; omega) (by omega) (Nat.zero_le _) ?_; intro v' w5 hown' hgrow hnil hat; obtain ⟨b5, c5, rfl, HP⟩ := EndK.back_ HE.out HT.out H3.out.1 H3.out.2 hown' hgrow hat; clear hown' hgrow hnil hat))
          go_roundw
          case rel => exact ⟨j + 1, S3, v1, b5, n + 1, c5, _, rfl, by go_num, by omega, by omega, HP⟩
          case measure => simp [intOf]; omega
      · go_wp2_with (first
          | (go_at_call 39; (with_reducible refine ct.mono ?_); rintro e w3 ⟨rfl, S3, H3⟩))
        have HP : Hid (EndK w w3 q p S3 v1 (j + 1) pages b n cc ll) := hidb (EndK.same HE.out hno HT.out H3.out.1 H3.out.2)
        have HP2 : Hid (EndK w (w3.alloc (.cells #[.int .i64 s1, .int .i64 s2, .int .i64 s3, .int .i64 s4] 49)) q p S3 v1 (j + 1) pages b n cc ll) := hidb (by
          have hb := (Below.refl _ w3).alloc (Nat.le_refl _) (.cells #[.int .i64 s1, .int .i64 s2, .int .i64 s3, .int .i64 s4] 49)
          exact ⟨HP.out.st.below hb, HP.out.k0, HP.out.w0, HP.out.h0, own_below HP.out.row hb, HP.out.ap, HP.out.len, HP.out.nd, HP.out.mem, HP.out.big⟩)
        go_roundw
        case rel => exact ⟨j + 1, S3, v1, b, n, cc, ll, rfl, by go_num, by omega, by omega, HP2⟩
        case measure => simp [intOf]; omega
    · obtain rfl : j = m := by omega
      clear CT
      obtain ⟨v2, e1, e2, e3, e4, e5⟩ := hold_all HE.out.st.ok HE.out.k0 HE.out.w0 HE.out.nd HE.out.mem HE.out.big held
      have C1 : Hid (Calls Tryz.prog 40 #[.pointer (some ⟨q, 0, none⟩), .bool held] wr fun e w' => e = .returned (.bool false) ∧ ∃ S2, Hid (KeepSt w w' q p S2 (lHold u held) j pages ∧ Sl w' w'.heap.size (some ⟨b, 0, none⟩) n ((ll.map (·.1)).map iv))) := hidb ((t_khold HE.out.st held _ false rfl HE.out.h0).mono fun e w' ⟨a, S2, s2, c⟩ => ⟨a, S2, hidb ⟨s2, by
        rw [List.map_map]
        exact c.sl (Sl.of_own HE.out.row) fun ad had => by
          obtain rfl := Option.some.inj had
          exact HE.out.ap.1⟩⟩)
      have C2 : Hid (∀ W S2, Hid (KeepSt w W q p S2 (lHold u held) j pages ∧ Sl W W.heap.size (some ⟨b, 0, none⟩) n ((ll.map (·.1)).map iv)) → Calls Tryz.prog 41 #[.pointer (some ⟨q, 0, none⟩), .slice (some ⟨b, 0, none⟩) n cc] W fun e w' => e = .returned (.int .i64 0) ∧ ∃ S3, Hid (KeepSt w w' q p S3 v2 j pages)) := hidb (fun W S2 s => (t_kgive s.out.1 _ n cc _ s.out.2 (by omega) (fun i hi => by
        obtain ⟨t, ht, rfl⟩ := List.mem_map.1 hi
        exact (HE.out.st.ok.ids64 (by have := HE.out.st.la; omega) ((HE.out.mem t).1 ht)).1) v2 0 e1).mono fun e w' ⟨a, S3, s3, c⟩ => ⟨a, S3, hidb s3⟩)
      have C3 : Hid (∀ W S2, Hid (KeepSt w W q p S2 v2 j pages) → Calls Tryz.prog 40 #[.pointer (some ⟨q, 0, none⟩), .bool false] W fun e w' => e = .returned (.bool held) ∧ ∃ S3, Hid (KeepSt w w' q p S3 (lHold v2 false) j pages)) := hidb (fun W S2 s => (t_khold s.out false _ held rfl (e2.trans e3)).mono fun e w' ⟨a, S3, s3, c⟩ => ⟨a, S3, hidb s3⟩)
      have C4 : Hid (∀ W S2, Hid (KeepSt w W q p S2 (lHold v2 false) j pages) → Calls Tryz.prog 42 #[.pointer (some ⟨q, 0, none⟩)] W fun e w' => (∃ n : Nat, e = .returned (.int .i64 (n : Int))) ∧ ∃ S3, Hid (KeepSt w w' q p S3 (lFlush (lHold v2 false)) j pages)) := hidb (fun W S2 s => (t_kflush s.out _ _ rfl rfl).mono fun e w' ⟨a, S3, s3, c⟩ => ⟨⟨_, a⟩, S3, hidb s3⟩)
      have C5 : Hid (∀ W S2, Hid (KeepSt w W q p S2 (lFlush (lHold v2 false)) j pages) → Calls Tryz.prog 24 #[.pointer (some ⟨p, 0, none⟩)] W fun e w' => ∃ A c, e = .returned (.slice A 0 c) ∧ Hid (KeepSt w w' q p S2 (lFlush (lHold v2 false)) j pages)) := hidb (fun W S2 s => (t_khspans s.out [] e5).mono fun e w' ⟨A, c, a, _, hb⟩ => ⟨A, c, a, hidb (s.out.below hb)⟩)
      have e4' : fList (lFlush (lHold v2 false)).h.free = [(0, pages)] := by rw [e4, HE.out.st.pg]
      have C6 : Hid (∀ W S2, Hid (KeepSt w W q p S2 (lFlush (lHold v2 false)) j pages) → Calls Tryz.prog 27 #[.pointer (some ⟨p, 0, none⟩)] W fun e w' => ∃ A c, e = .returned (.slice A 1 c) ∧ Hid (Rn w' w'.heap.size A 1 [(0, pages)] ∧ Below w.heap.size w w')) := hidb (fun W S2 s => (t_khruns s.out [(0, pages)] e4').mono fun e w' ⟨A, c, a, hr, hb⟩ => ⟨A, c, a, hidb ⟨Rn.of_own hr rfl, bel_tr2 s.out.bel hb⟩⟩)
      have C7 : Hid (∀ W A c, Hid (Rn W W.heap.size A 1 [(0, pages)] ∧ Below w.heap.size w W) → Calls Tryz.prog 26 #[.slice A 1 c, .slice (some ⟨W.heap.size, 0, none⟩) 1 1] (W.alloc (.cells #[.int .i64 0, .int .i64 pages] 47)) fun e w' => e = .returned (.bool true) ∧ Hid (Below w.heap.size w w')) := hidb (fun W A c s => (ref_xsame A _ 1 c 1 1 [(0, pages)] [(0, pages)] _ _ _ (s.out.1.below ((Below.refl _ W).alloc (Nat.le_refl _) _)) (RnOne.plain_ W 0 pages _) (by omega) (by omega)).mono fun e w' ⟨a, nq, b⟩ => ⟨by rw [a]; simp, hidb (by rw [b]; exact belowN (bel_al2 s.out.2 _) nq)⟩)
      clear e1 e2 e3 e4 e5 e4'
      cases held with
      | true =>
        go_wp2_with (first
          | (go_at_call 40; (with_reducible refine C1.out.mono ?_); rintro e w3 ⟨rfl, S3, H3⟩; clear C1)
          | (go_at_call 41; (with_reducible refine (C2.out _ _ H3).mono ?_); rintro e w4 ⟨rfl, S4, H4⟩)
          | (go_at_call 40; (with_reducible refine (C3.out _ _ H4).mono ?_); rintro e w5 ⟨rfl, S5, H5⟩)
          | (go_at_call 42; (with_reducible refine (C4.out _ _ H5).mono ?_); rintro e w6 ⟨⟨n6, rfl⟩, S6, H6⟩)
          | (go_at_call 24; (with_reducible refine (C5.out _ _ H6).mono ?_); rintro e w7 ⟨A7, c7, rfl, H7⟩)
          | (go_at_call 27; (with_reducible refine (C6.out _ _ H7).mono ?_); rintro e w8 ⟨A8, c8, rfl, H8⟩)
          | (go_at_call 26; (with_reducible refine (C7.out _ _ _ H8).mono ?_); rintro e w9 ⟨rfl, H9⟩)
          | (go_at_call 31; (with_reducible refine (cw _).mono ?_); rintro e w10 ⟨rfl, hb10⟩))
        go_ret
        exact ⟨rfl, bel_tr2 H9.out hb10⟩
      | false =>
        go_wp2_with (first
          | (go_at_call 40; (with_reducible refine C1.out.mono ?_); rintro e w3 ⟨rfl, S3, H3⟩; clear C1)
          | (go_at_call 41; (with_reducible refine (C2.out _ _ H3).mono ?_); rintro e w4 ⟨rfl, S4, H4⟩)
          | (go_at_call 40; (with_reducible refine (C3.out _ _ H4).mono ?_); rintro e w5 ⟨rfl, S5, H5⟩)
          | (go_at_call 42; (with_reducible refine (C4.out _ _ H5).mono ?_); rintro e w6 ⟨⟨n6, rfl⟩, S6, H6⟩)
          | (go_at_call 24; (with_reducible refine (C5.out _ _ H6).mono ?_); rintro e w7 ⟨A7, c7, rfl, H7⟩)
          | (go_at_call 27; (with_reducible refine (C6.out _ _ H7).mono ?_); rintro e w8 ⟨A8, c8, rfl, H8⟩)
          | (go_at_call 26; (with_reducible refine (C7.out _ _ _ H8).mono ?_); rintro e w9 ⟨rfl, H9⟩)
          | (go_at_call 31; (with_reducible refine (cw _).mono ?_); rintro e w10 ⟨rfl, hb10⟩))
        go_ret
        exact ⟨rfl, bel_tr2 H9.out hb10⟩

end Go.Proofs.YtfemnkokoohdoaaGreat
