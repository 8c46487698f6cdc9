/- The walk of layer 7's statement on a heap all of whose spans are freed. -/
import Derived.Test.YtdobmdhhgponpaaHeapBack
import Derived.Maps.AppendAt
namespace Go.Proofs.Ytdobmdhhgponpaa
open Go.RowKit
set_option linter.unusedVariables false

/-- A heap without spans has one free run. -/
theorem no_spans {h : HeapV} (k : HOk h) (hl : h.l = []) : fList h.free = [(0, h.pages)] ∧ hSpans h = [] := by
  refine ⟨k.ends hl, ?_⟩
  cases e : hSpans h with
  | nil => rfl
  | cons s l =>
    have := (hSpans_mem k s).1 (by rw [e]; exact List.mem_cons_self ..)
    rw [hl] at this; cases this
theorem spans_len2 {h : HeapV} (k : HOk h) {n : Nat} (hlb : h.last ≤ n) : (hSpans h).length ≤ n := by
  have hr := hSpans_rises k
  have hn : ((hSpans h).map (·.1)).Nodup := by
    unfold List.Nodup
    rw [List.pairwise_map]
    refine List.Pairwise.imp_of_mem ?_ hr
    intro a b ha hb h1 e
    have := ids_inj k.ids ((hSpans_mem k a).1 ha) ((hSpans_mem k b).1 hb) e
    subst this; omega
  have h1 := nodup_bound n ((hSpans h).map (·.1)) hn fun x hx => by
    obtain ⟨s, hs, rfl⟩ := List.mem_map.1 hx
    have := k.idr s ((hSpans_mem k s).1 hs)
    omega
  rwa [List.length_map] at h1
theorem spans_nodup {h : HeapV} (k : HOk h) : ((hSpans h).map (·.1)).Nodup := by
  unfold List.Nodup
  rw [List.pairwise_map]
  refine List.Pairwise.imp_of_mem ?_ (hSpans_rises k)
  intro a b ha hb h1 e
  have := ids_inj k.ids ((hSpans_mem k a).1 ha) ((hSpans_mem k b).1 hb) e
  subst this; omega

/-- The numbers of the last spans, the last one first. -/
def lastIds (LS : List (Int × Int × Int × Int)) (i : Nat) : List Int := (LS.reverse.take i).map (·.1)
theorem lastIds_succ {LS : List (Int × Int × Int × Int)} {i q : Nat} {y : Int × Int × Int × Int} (hn : LS.length = i + q + 1) (hy : LS[q]? = some y) : lastIds LS (i + 1) = lastIds LS i ++ [y.1] := by
  unfold lastIds
  have h : LS.reverse[i]? = some y := by
    rw [List.getElem?_reverse (by omega), show LS.length - 1 - i = q by omega]; exact hy
  rw [List.take_add_one, h, List.map_append]; rfl
theorem lastIds_all {LS : List (Int × Int × Int × Int)} {n : Nat} (hn : LS.length = n) : lastIds LS n = (LS.map (·.1)).reverse := by
  unfold lastIds
  rw [List.take_of_length_le (by rw [List.length_reverse]; omega), List.map_reverse]
theorem lastIds_new {LS : List (Int × Int × Int × Int)} {i q : Nat} {y : Int × Int × Int × Int} (hd : (LS.map (·.1)).Nodup) (hn : LS.length = i + q + 1) (hy : LS[q]? = some y) : y.1 ∉ lastIds LS i := by
  have h1 : (lastIds LS (i + 1)).Nodup := by
    unfold lastIds
    have h2 : (LS.reverse.map (·.1)).Nodup := by rw [List.map_reverse]; unfold List.Nodup; rw [List.pairwise_reverse]; exact hd.imp Ne.symm
    rw [List.map_take]
    exact (List.take_sublist _ _).nodup h2
  rw [lastIds_succ hn hy] at h1
  intro hc
  exact (List.nodup_append.1 h1).2.2 _ hc _ (List.mem_singleton.2 rfl) rfl

/-- Behind the last i spans: both rows, and the heap; where they are freed one by one, the last im are gone. -/
structure EndSt (w w3 W : World) (p : Nat) (S : Nat → Prop) (h hi : HeapV) (LS : List (Int × Int × Int × Int)) (n i im : Nat) (A : Option Addr) (c : Nat) (A2 : Option Addr) (c2 base : Nat) (k : Nat) (pages : Int) (tg : Bool) : Prop where
  st : HeapSt w W p S hi k pages
  sp : OwnAp S W base 35 4 (.slice A2 n c2) n (cellsAll scells LS)
  ids : OwnAp S W w3.heap.size 3 1 (.slice A i c) i ((lastIds LS i).map iv)
  mem : ∀ s, s ∈ hi.l ↔ s ∈ h.l ∧ (tg = false → s.1 ∉ lastIds LS im)
  spb : ∀ b, (Value.slice A2 n c2).ownBlock = some b → b < w3.heap.size
  bas : w3.heap.size ≤ W.heap.size
  wb : w.heap.size ≤ w3.heap.size
section
variable {w w3 W W' : World} {p : Nat} {S S' : Nat → Prop} {h hi hi' : HeapV} {LS : List (Int × Int × Int × Int)} {n i im : Nat} {A A' : Option Addr} {c c' : Nat} {A2 : Option Addr} {c2 base k : Nat} {pages : Int} {tg : Bool}
theorem EndSt.below (e : EndSt w w3 W p S h hi LS n i im A c A2 c2 base k pages tg) (hb : Below W.heap.size W W') : EndSt w w3 W' p S h hi LS n i im A c A2 c2 base k pages tg :=
  ⟨e.st.below hb, ToO.below hb _ _ _ _ _ _ e.sp, ToO.below hb _ _ _ _ _ _ e.ids, e.mem, e.spb, Nat.le_trans e.bas hb.size, e.wb⟩
/-- A number more. -/
theorem EndSt.push {y1 y2 y3 y4 : Int} {q : Nat} {o : Obj} {v : Value} (e : EndSt w w3 W p S h hi LS n i im A c A2 c2 base k pages tg) (hr : W'.ownsRow w3.heap.size 3 1 v (i + 1) ((lastIds LS i).map iv ++ [.int .i64 y1])) (hg : (W.alloc o).grownBy W' (Value.slice A i c).ownBlock) (hat : v.ownBlock = (Value.slice A i c).ownBlock ∨ v.ownBlock = some (W.alloc o).heap.size) (hn : LS.length = i + q + 1) (hy : LS[q]? = some (y1, y2, y3, y4)) :
    ∃ A' c', v = .slice A' (i + 1) c' ∧ Hid (EndSt w w3 W' p S h hi LS n (i + 1) im A' c' A2 c2 base k pages tg) := by
  obtain ⟨g, cp, rfl, _, _⟩ := hr.form (by omega)
  refine ⟨_, _, rfl, hidb ?_⟩
  have hs := hg.size
  simp only [World.size_alloc] at hs hat
  have hbas := e.bas
  have hwb := e.wb
  have hK : Kept (fun b => (Value.slice A i c).ownBlock = some b) W W' := ((Kept.refl _ W).grown (World.grownBy_alloc W o none) (fun k hk => by cases hk)).grown hg (fun k hk => Or.inl hk)
  refine ⟨⟨e.st.hp.keep hK (fun b hb hc => e.ids.2 b hc hb), e.st.low, ?_, e.st.la, e.st.pg⟩, ⟨own_kept e.sp.1 hK (fun b hb hc => by have h1 := e.spb b hb; have h2 := (e.ids.1.lt b hc).1; omega), e.sp.2⟩, ⟨?_, fun b hb hc => ?_⟩, e.mem, e.spb, by omega, e.wb⟩
  · exact e.st.bel.trans (hK.below e.st.bel.size (fun b hb => by have := (e.ids.1.lt b hb).1; omega))
  · rw [lastIds_succ hn hy, List.map_append]; exact hr
  · rw [hb] at hat
    rcases hat with h1 | h1
    · exact e.ids.2 b h1.symm hc
    · have := e.st.hp.lt b hc
      injection h1 with h1
      omega
/-- All at once: nothing is gone before the end. -/
theorem EndSt.all_ (e : EndSt w w3 W p S h hi LS n i im A c A2 c2 base k pages true) (j : Nat) : EndSt w w3 W p S h hi LS n i j A c A2 c2 base k pages true :=
  ⟨e.st, e.sp, e.ids, fun s => ⟨fun h => ⟨((e.mem s).1 h).1, fun c => by cases c⟩, fun h => (e.mem s).2 ⟨h.1, fun c => by cases c⟩⟩, e.spb, e.bas, e.wb⟩
/-- The next span goes. -/
theorem EndSt.drop {y1 y2 y3 y4 : Int} {q : Nat} (e : EndSt w w3 W p S h hi LS n i im A c A2 c2 base k pages false) (hm : ∀ s, s ∈ LS ↔ s ∈ h.l) (hd : (LS.map (·.1)).Nodup) (hn : LS.length = im + q + 1) (hy : LS[q]? = some (y1, y2, y3, y4)) :
    ∃ g, hDrop hi [y1] = (⟨hi.pages, g, hLeft hi.l [y1], hi.last⟩, 0) := by
  have h1 := lastIds_new hd hn hy
  have h2 : (y1, y2, y3, y4) ∈ hi.l := (e.mem _).2 ⟨(hm _).1 (List.mem_of_getElem? hy), fun _ => h1⟩
  obtain ⟨g, e1, _⟩ := hDrop_yes e.st.hp.ok (ids := [y1]) ⟨by simp, fun i hi => ⟨_, h2, (List.mem_singleton.1 hi).symm⟩⟩
  exact ⟨g, e1⟩
theorem EndSt.gone {y1 y2 y3 y4 : Int} {q : Nat} {g : List Bool} (e : EndSt w w3 W p S h hi LS n (i + 1) i A c A2 c2 base k pages false) (hn : LS.length = i + q + 1) (hy : LS[q]? = some (y1, y2, y3, y4))
    (st : HeapSt w W' p S' ⟨hi.pages, g, hLeft hi.l [y1], hi.last⟩ k pages) (ht : ToO S W S' W') : EndSt w w3 W' p S' h ⟨hi.pages, g, hLeft hi.l [y1], hi.last⟩ LS n (i + 1) (i + 1) A c A2 c2 base k pages false := by
  have hI := ht _ _ _ _ _ _ e.ids
  refine ⟨st, ht _ _ _ _ _ _ e.sp, hI, fun s => ?_, e.spb, ?_, e.wb⟩
  · show s ∈ hLeft hi.l [y1] ↔ _
    rw [hLeft_mem, e.mem, lastIds_succ hn hy]
    constructor
    · rintro ⟨⟨h1, h2⟩, h3⟩
      refine ⟨h1, fun _ hc => ?_⟩
      rcases List.mem_append.1 hc with h4 | h4
      · exact h2 rfl h4
      · exact h3 h4
    · rintro ⟨h1, h2⟩
      exact ⟨⟨h1, fun _ hc => h2 rfl (List.mem_append.2 (Or.inl hc))⟩, fun hc => h2 rfl (List.mem_append.2 (Or.inr hc))⟩
  · obtain ⟨g2, cp, hv, _, _⟩ := hI.1.form (by omega)
    have h1 := hI.1.lt g2 (by rw [hv]; rfl)
    omega
/-- At the end no span is left. -/
theorem EndSt.none_ (e : EndSt w w3 W p S h hi LS n n n A c A2 c2 base k pages false) (hm : ∀ s, s ∈ LS ↔ s ∈ h.l) (hn : LS.length = n) : fList hi.free = [(0, pages)] ∧ hSpans hi = [] := by
  have h1 : hi.l = [] := by
    refine List.eq_nil_iff_forall_not_mem.2 fun s hs => ?_
    have h2 := (e.mem s).1 hs
    rw [lastIds_all hn] at h2
    exact h2.2 rfl (List.mem_reverse.2 (List.mem_map.2 ⟨s, (hm s).2 h2.1, rfl⟩))
  have h3 := no_spans e.st.hp.ok h1
  rwa [e.st.pg] at h3
theorem EndSt.same (e : EndSt w w3 W p S h hi LS n n im A c A2 c2 base k pages true) (hm : ∀ s, s ∈ LS ↔ s ∈ h.l) (hd : (LS.map (·.1)).Nodup) (hn : LS.length = n) :
    ∃ h', hDrop hi (lastIds LS n) = (h', 0) ∧ h'.pages = hi.pages ∧ (HOk h' → fList h'.free = [(0, pages)] ∧ hSpans h' = []) := by
  have h1 : ∀ s, s ∈ hi.l ↔ s ∈ LS := fun s => ⟨fun h => (hm s).2 ((e.mem s).1 h).1, fun h => (e.mem s).2 ⟨(hm s).1 h, fun c => by cases c⟩⟩
  obtain ⟨g, e1, k1⟩ := hDrop_yes e.st.hp.ok (ids := lastIds LS n) ⟨by rw [lastIds_all hn]; unfold List.Nodup; rw [List.pairwise_reverse]; exact hd.imp Ne.symm, fun i hi => by
    rw [lastIds_all hn] at hi
    obtain ⟨s, hs, rfl⟩ := List.mem_map.1 (List.mem_reverse.1 hi)
    exact ⟨s, (h1 s).2 hs, rfl⟩⟩
  refine ⟨_, e1, rfl, fun _ => ?_⟩
  have h2 : hLeft hi.l (lastIds LS n) = [] := by
    refine List.eq_nil_iff_forall_not_mem.2 fun s hs => ?_
    obtain ⟨h3, h4⟩ := (hLeft_mem s).1 hs
    rw [lastIds_all hn] at h4
    exact h4 (List.mem_reverse.2 (List.mem_map.2 ⟨s, (h1 s).1 h3, rfl⟩))
  have h3 := no_spans k1 h2
  exact ⟨h3.1.trans (congrArg (fun x => [((0 : Int), x)]) e.st.pg), h3.2⟩
end
theorem EndSt.start {w w3 W : World} {p : Nat} {S : Nat → Prop} {h : HeapV} {LS : List (Int × Int × Int × Int)} {n : Nat} {A2 : Option Addr} {c2 base k : Nat} {pages : Int} {tg : Bool} (st : HeapSt w W p S h k pages) (hB : W.heap.size = base) (hm : ∀ s, s ∈ LS ↔ s ∈ h.l)
    (hr : w3.ownsRow base 35 4 (.slice A2 n c2) n (cellsAll scells LS)) (hb : Below base W w3) :
    EndSt w w3 (w3.alloc (.cells #[] 3)) p S h h LS n 0 0 (some ⟨w3.heap.size, 0, none⟩) 0 A2 c2 base k pages tg := by
  subst hB
  have h3 := hb.size
  have hw := st.bel.size
  have ha : Below w3.heap.size w3 (w3.alloc (.cells #[] 3)) := (Below.refl _ w3).alloc (Nat.le_refl _) _
  have e0 : (lastIds LS 0).map iv = [] := by unfold lastIds; rfl
  refine ⟨(st.below hb).below ha, ToO.below ha _ _ _ _ _ _ (st.new_ hr), ⟨?_, fun b hb2 hc => ?_⟩, fun s => ?_, fun b hb2 => (hr.lt b hb2).2, ha.size, by omega⟩
  · rw [e0]; exact own_empty w3 _ _ _ (Nat.le_refl _)
  · have h1 := st.hp.lt b hc
    have h2 : b = w3.heap.size := by injection hb2 with h2; exact h2.symm
    omega
  · have e1 : lastIds LS 0 = [] := by unfold lastIds; rfl
    rw [e1]; exact ⟨fun h => ⟨h, fun _ => List.not_mem_nil⟩, fun h => h.1⟩
theorem Sn.span_own {w : World} {base n c : Nat} {A : Option Addr} {l : List (Int × Int × Int × Int)} {j : Nat} (h : w.ownsRow base 35 4 (.slice A n c) n (cellsAll scells l)) (hl : l.length = n) (hj : j < n) :
    ∃ b off i s k o, A = some ⟨b, off, none⟩ ∧ l[j]? = some (i, s, k, o) ∧ w.cell? ⟨b, off + j * 4, none⟩ = some (.int .i64 i) ∧ w.cell? ⟨b, off + j * 4 + 1, none⟩ = some (.int .i64 s) ∧ w.cell? ⟨b, off + j * 4 + 2, none⟩ = some (.int .i64 k) ∧ w.cell? ⟨b, off + j * 4 + 3, none⟩ = some (.int .i64 o) :=
  Sn.span (RowOf.of_own scells_len h hl) hj

/-- The number of a span, in its cell. -/
theorem Sn.cell_own {w : World} {base n c b off : Nat} {l : List (Int × Int × Int × Int)} {j : Nat} {i s k o : Int} (h : w.ownsRow base 35 4 (.slice (some ⟨b, off, none⟩) n c) n (cellsAll scells l)) (hl : l.length = n) (hj : l[j]? = some (i, s, k, o)) : w.cell? ⟨b, off + j * 4, none⟩ = some (.int .i64 i) := by
  have hl2 := (List.getElem?_eq_some_iff.1 hj).1
  obtain ⟨b2, off2, i2, s2, k2, o2, e, hy, c1, _⟩ := Sn.span_own (j := j) h hl (by omega)
  rw [hj] at hy
  injection hy with hy
  injection hy with h1 _
  injection e with e
  injection e with e1 e2 _
  subst h1 e1 e2
  exact c1
theorem hid_pair {a b : Prop} (h : a ∧ b) : Hid a ∧ Hid b := ⟨hidb h.1, hidb h.2⟩
/-- A run that is written out, and a row of one run that was answered. -/
theorem t_same5r {A : Option Addr} {c : Nat} {S : Nat → Prop} {W : World} {base : Nat} {x y : Int} (h : OwnAp S W base 33 2 (.slice A 1 c) 1 (rcells [(x, y)])) :
    Calls Try.prog 13 #[.slice A 1 c, .slice (some ⟨W.heap.size, 0, none⟩) 1 1] (W.alloc (.cells #[.int .i64 x, .int .i64 y] 33)) fun e w' => e = .returned (.bool true) ∧ Below (W.alloc (.cells #[.int .i64 x, .int .i64 y] 33)).heap.size (W.alloc (.cells #[.int .i64 x, .int .i64 y] 33)) w' :=
  (same_offH ((Rn.of_own h.1 rfl).keep (w' := W.alloc (.cells #[.int .i64 x, .int .i64 y] 33)) fun p hp => World.cell?_alloc_lt W _ p hp) (RnOne.plain_ W x y _) (by decide) (by decide)).mono fun e w' ⟨x, y⟩ => ⟨by rw [x]; simp, y⟩

set_option maxRecDepth 100000 in
set_option maxHeartbeats 8000000 in
theorem heapEnds_any (pages : Int) (A : Option Addr) (m c : Nat) (l : List Act7) (tg : Bool) (w : World) (h0 : in64 pages) (hm : m ≤ maxLen) (hs : RowOf (Act7Is w) 4 w w.heap.size A m l) :
    Calls Try.prog 4 #[.int .i64 pages, .slice A m c, .bool tg] w fun e w' => e = .returned (.bool true) ∧ Below w.heap.size w w' := by
  have cw := fun W => awake7 W
  unfold maxLen at hm
  by_cases hbad : pages < 4 ∨ 1024 < pages
  · have cn := code_hnew_no pages w hbad
    by_cases g1 : 100 < m
    · have g2 : (100 : Int) < (m : Int) := by omega
      clear hs hbad
      go_enter Try.func4, Try.ntmps4
      go_wp2_with (first
        | (go_at_call 6; (with_reducible refine cn.mono ?_); rintro e w1 ⟨rfl, rfl⟩)
        | (go_at_call 7; (with_reducible refine (cw _).mono ?_); rintro e w2 ⟨rfl, hb2⟩))
      go_ret
      exact ⟨rfl, hb2⟩
    · have g2 : ¬ (100 : Int) < (m : Int) := by omega
      clear hs hbad
      go_enter Try.func4, Try.ntmps4
      go_wp2_with (first
        | (go_at_call 6; (with_reducible refine cn.mono ?_); rintro e w1 ⟨rfl, rfl⟩)
        | (go_at_call 7; (with_reducible refine (cw _).mono ?_); rintro e w2 ⟨rfl, hb2⟩))
      go_ret
      exact ⟨rfl, hb2⟩
  obtain ⟨F, hN, cn⟩ := t_hnew pages w (by omega) (by omega)
  clear hN
  by_cases g1 : 100 < m
  · have g2 : (100 : Int) < (m : Int) := by omega
    clear hs hbad
    go_enter Try.func4, Try.ntmps4
    go_wp2_with (first
      | (go_at_call 6; (with_reducible refine cn.mono ?_); rintro e w1 ⟨p, S, rfl, s1⟩; have S1 := hidb s1; clear s1)
      | (go_at_call 7; (with_reducible refine (cw _).mono ?_); rintro e w2 ⟨rfl, hb2⟩))
    go_ret
    exact ⟨rfl, S1.out.bel.trans (hb2.mono S1.out.bel.size)⟩
  have g2 : ¬ (100 : Int) < (m : Int) := by omega
  have HR := hidb hs
  have hm50 : m ≤ 100 := by omega
  have hp0 : 4 ≤ pages ∧ pages ≤ 1024 := by omega
  clear hs hbad
  go_enter Try.func4, Try.ntmps4
  go_wp2_with (first
    | (go_at_call 6; (with_reducible refine cn.mono ?_); rintro e w1 ⟨p, S, rfl, s1⟩; have S1 := hidb s1; clear s1))
  clear cn
  go_loopw [9] (fun v wr => ∃ (j : Nat) (S' : Nat → Prop) (h : HeapV), j ≤ m ∧ v = .int .i64 j ∧ Hid (HeapSt w wr p S' h j pages)) (fun v _ => (m - intOf v).toNat)
  case atStart => exact ⟨0, S, _, Nat.zero_le _, rfl, S1⟩
  case round =>
    obtain ⟨j, S', h, hj, rfl, HS⟩ := hrel
    by_cases hlt : j < m
    · obtain ⟨b, off, a, rfl, hbz, hx, ha, hc0, hc1, hc2, hc3⟩ := act_at (HR.out.below HS.out.bel) hlt
      obtain ⟨_, ha1, ha2, ha3, ha4, ha5⟩ := ha
      have hi0 : (0 : Int) ≤ (j : Int) := by omega
      have hi1 : (j : Int) < (m : Int) := by omega
      obtain ⟨af, aA, alen, acap, aids, apg, aor⟩ := a
      simp only at hc0 hc1 hc2 hc3 ha4 ha5
      clear hx ha1 ha2 ha3
      have hk9 : j + 1 ≤ 1000000000 := by omega
      cases af with
      | true =>
        go_wp2
        go_roundw
        case rel => exact ⟨j + 1, S', h, by omega, by go_num, hidb ⟨HS.out.hp, HS.out.low, HS.out.bel, by have := HS.out.la; omega, HS.out.pg⟩⟩
        case measure => simp [intOf]; omega
      | false =>
        obtain ⟨⟨h', ⟨s1, s2, s3, s4⟩, no⟩, hM⟩ : ∃ r, hMake h apg aor = r := ⟨_, rfl⟩
        have cm := t_hmake (HS.out.below (Below.refl _ wr).drew) hk9 apg aor ha4 ha5 h' s1 s2 s3 s4 no hM
        have HCE : Hid (∀ w2, Below w.heap.size w w2 → w2.cell? ⟨b, off + j * 4 + 2, none⟩ = some (.int .i64 apg) ∧ w2.cell? ⟨b, off + j * 4 + 3, none⟩ = some (.int .i64 aor)) := hidb (fun w2 hb => by
          rw [hb.cell (p := ⟨b, off + j * 4 + 2, none⟩) hbz, hb.cell (p := ⟨b, off + j * 4 + 3, none⟩) hbz, ← HS.out.bel.cell (p := ⟨b, off + j * 4 + 2, none⟩) hbz, ← HS.out.bel.cell (p := ⟨b, off + j * 4 + 3, none⟩) hbz]
          exact ⟨hc2, hc3⟩)
        clear hM
        go_wp2
        go_region_held3 (fun w' => w'.cell? ⟨b, off + j * 4 + 2, none⟩ = some (.int .i64 apg) ∧ w'.cell? ⟨b, off + j * 4 + 3, none⟩ = some (.int .i64 aor)) (go_keep)
          (first | (go_at_call 9; (with_reducible refine cm.mono ?_); rintro e w2 ⟨rfl, S2, s2', _⟩; have HS2 := hidb s2'; clear s2'; obtain ⟨c2', c3'⟩ := HCE.out _ HS2.out.bel))
        go_wp2
        go_roundw
        case rel => exact ⟨j + 1, S2, h', by omega, by go_num, hidb ⟨HS2.out.hp, HS2.out.low, HS2.out.bel, by have := HS2.out.la; omega, HS2.out.pg⟩⟩
        case measure => simp [intOf]; omega
    · obtain rfl : j = m := by omega
      obtain ⟨LS, hLS⟩ : ∃ LS, hSpans h = LS := ⟨_, rfl⟩
      have hl2 : LS.length ≤ j := by rw [← hLS]; exact spans_len2 HS.out.hp.ok HS.out.la
      have hnd : (LS.map (·.1)).Nodup := by rw [← hLS]; exact spans_nodup HS.out.hp.ok
      have hmem : ∀ s, s ∈ LS ↔ s ∈ h.l := by rw [← hLS]; exact hSpans_mem HS.out.hp.ok
      have HLS := hidb hLS
      have HND := hidb hnd
      have HMEM := hidb hmem
      have HIR : Hid (∀ s ∈ h.l, in64 s.1) := hidb (fun s hs => by have h1 := HS.out.hp.ok.idr s hs; have h2 := HS.out.la; exact ⟨by omega, by omega⟩)
      obtain ⟨n, hn⟩ : ∃ n, LS.length = n := ⟨_, rfl⟩
      have cs := t_hspans HS.out LS hLS
      rw [hn] at cs hl2
      have HNL := hidb hn
      clear hLS hnd hmem hn
      obtain ⟨base, hbase⟩ : ∃ base, wr.heap.size = base := ⟨_, rfl⟩
      rw [hbase] at cs
      have HBASE := hidb hbase
      clear hbase
      go_wp2_with (first
        | (go_at_call 11; (with_reducible refine cs.mono ?_); rintro e w3 ⟨A2, c2, rfl, hr3, hb3⟩; have HSP := hidb hr3; have HB3 := hidb hb3; clear hr3 hb3))
      have hwb : w.heap.size ≤ w3.heap.size := by have h1 := HS.out.bel.size; have h2 := HB3.out.size; omega
      have HE0 : Hid (EndSt w w3 (w3.alloc (.cells #[] 3)) p S' h h LS n 0 0 (some ⟨w3.heap.size, 0, none⟩) 0 A2 c2 base j pages tg) := hidb (EndSt.start HS.out HBASE.out HMEM.out HSP.out HB3.out)
      obtain ⟨i0, hi, hz0, hz1, hz2⟩ := info_parts info_int
      clear cs
      go_wp2
      go_loopw [11, 12] (fun v u wr => ∃ (i : Nat) (Ai : Option Addr) (ci : Nat) (S2 : Nat → Prop) (hi2 : HeapV), i ≤ n ∧ v = .slice Ai i ci ∧ u = .int .i64 i ∧ Hid (EndSt w w3 wr p S2 h hi2 LS n i i Ai ci A2 c2 base j pages tg)) (fun _ u _ => (n - intOf u).toNat)
      case atStart => exact ⟨0, _, 0, S', h, Nat.zero_le _, rfl, rfl, HE0⟩
      case round =>
        obtain ⟨i, Ai, ci, S2, hi2, hin, rfl, rfl, HE⟩ := hrel
        by_cases hlt2 : i < n
        · obtain ⟨q, hq⟩ : ∃ q, n = i + q + 1 := ⟨n - i - 1, by omega⟩
          obtain ⟨b, off, y1, y2, y3, y4, rfl, hy, c1, c2', c3', c4'⟩ := Sn.span_own HE.out.sp.1 HNL.out (show q < n by omega)
          have HQ : Hid (LS.length = i + q + 1) := hidb (by rw [HNL.out]; exact hq)
          have HY := hidb hy
          have hw1 : IntKind.i64.wrap ((n : Int) - 1) = ((i + q : Nat) : Int) := by rw [IntKind.wrap_i64]; omega
          have hw2 : IntKind.i64.wrap (((i + q : Nat) : Int) - (i : Int)) = (q : Int) := by rw [IntKind.wrap_i64]; omega
          have hq0 : (0 : Int) ≤ (q : Int) := by omega
          have hq1 : (q : Int) < (n : Int) := by omega
          have HONE : Hid (∀ u ∈ [Value.int .i64 y1], u.oneCell' = true) := hidb (ints_oneCell .i64 [y1])
          have HBS : Hid (w3.heap.size ≤ (wr.alloc (.cells #[.int .i64 y1] 3)).heap.size) := hidb (by have := HE.out.bas; simp; omega)
          clear c2' c3' c4' hy hq
          cases tg with
          | true =>
            go_wp2_with (first
              | (at_builtin; refine wpList_append_own_at _ rfl _ _ 28 rfl w3.heap.size 3 i0 (.int .i64 0) 1 8 Try.underlying28 hi hz0 hz1 hz2 rfl (by decide) _ _ _ rfl (HE.out.ids.1.alloc _) ⟨wr.heap.size, 0, none⟩ 1 1 [.int .i64 y1] rfl rfl (cell_one_new _ _ _) HONE.out (by unfold maxLen; omega) (by omega) HBS.out ?_; intro v' w5 hown' hgrow hnil hat; obtain ⟨A5, c5, rfl, HP⟩ := EndSt.push HE.out hown' hgrow hat HQ.out HY.out; clear hown' hgrow hnil hat))
            go_roundw
            case rel => exact ⟨i + 1, A5, c5, S2, hi2, by omega, rfl, by go_num, hidb (HP.out.all_ _)⟩
            case measure => simp [intOf]; omega
          | false =>
            obtain ⟨gg, hD⟩ := EndSt.drop HE.out HMEM.out HND.out HQ.out HY.out
            have HD := hidb hD
            have HIN : Hid (∀ x ∈ [y1], in64 x) := hidb (fun x hx => by obtain rfl := List.mem_singleton.1 hx; exact HIR.out _ ((HMEM.out _).1 (List.mem_of_getElem? HY.out)))
            clear hD
            go_wp2_with (first
              | (at_builtin; refine wpList_append_own_at _ rfl _ _ 28 rfl w3.heap.size 3 i0 (.int .i64 0) 1 8 Try.underlying28 hi hz0 hz1 hz2 rfl (by decide) _ _ _ rfl (HE.out.ids.1.alloc _) ⟨wr.heap.size, 0, none⟩ 1 1 [.int .i64 y1] rfl rfl (cell_one_new _ _ _) HONE.out (by unfold maxLen; omega) (by omega) HBS.out ?_; intro v' w5 hown' hgrow hnil hat; obtain ⟨A5, c5, rfl, HP⟩ := EndSt.push HE.out hown' hgrow hat HQ.out HY.out; clear hown' hgrow hnil hat; have c1b := Sn.cell_own HP.out.sp.1 HNL.out HY.out)
              | (go_at_call 8; (with_reducible refine (t_hfree (HP.out.st.below ((Below.refl _ _).alloc (Nat.le_refl _) (.cells #[.int .i64 y1] 3))) _ 1 1 [y1] (Sl.one_ _ y1 _) Nat.le_k HIN.out _ 0 HD.out).mono ?_); rintro e w8 ⟨rfl, S8, s8, to8⟩; have HG := hidb (EndSt.gone (HP.out.below ((Below.refl _ _).alloc (Nat.le_refl _) (.cells #[.int .i64 y1] 3))) HQ.out HY.out s8 to8); clear s8 to8))
            go_roundw
            case rel => exact ⟨i + 1, A5, c5, S8, _, by omega, rfl, by go_num, HG⟩
            case measure => simp [intOf]; omega
        · obtain rfl : i = n := by omega
          have h100 : i ≤ 60000 := by omega
          cases tg with
          | true =>
            obtain ⟨h', hD, hpg, hO⟩ := EndSt.same HE.out HMEM.out HND.out HNL.out
            have HD := hidb hD
            have HO := hidb hO
            have HIN : Hid (∀ x ∈ lastIds LS i, in64 x) := hidb (fun x hx => by rw [lastIds_all HNL.out] at hx; obtain ⟨s, hs, rfl⟩ := List.mem_map.1 (List.mem_reverse.1 hx); exact HIR.out _ ((HMEM.out _).1 hs))
            have ST := hidb HE.out.st
            clear hD hpg hO
            go_wp2_with (first
              | (go_at_call 8; (with_reducible refine (t_hfree ST.out _ i ci (lastIds LS i) (Sl.of_own HE.out.ids.own) h100 HIN.out h' 0 HD.out).mono ?_); rintro e w8 ⟨rfl, S8, s8, to8⟩; replace ST := hidb s8; obtain ⟨HL2, HL3⟩ := hid_pair (HO.out s8.hp.ok); clear s8 to8)
              | (go_at_call 11; (with_reducible refine (t_hspans ST.out [] HL3.out).mono ?_); rintro e w9 ⟨A9, c9, rfl, hr9, hb9⟩; replace ST := hidb (ST.out.below hb9); clear hr9 hb9)
              | (go_at_call 10; (with_reducible refine (t_hruns ST.out [(0, pages)] HL2.out).mono ?_); rintro e w10 ⟨A10, c10, rfl, hr10, hb10⟩; have HW := hidb (ST.out.new_ hr10); replace ST := hidb (ST.out.below hb10); clear hr10 hb10)
              | (go_at_call 13; (with_reducible refine (t_same5r HW.out).mono ?_); rintro e w6 ⟨rfl, hb6⟩; replace ST := hidb ((ST.out.below ((Below.refl _ _).alloc (Nat.le_refl _) _)).below hb6); clear hb6)
              | (go_at_call 7; (with_reducible refine (cw _).mono ?_); rintro e w7 ⟨rfl, hb7⟩))
            go_ret
            exact ⟨rfl, ST.out.bel.trans (hb7.mono ST.out.bel.size)⟩
          | false =>
            obtain ⟨HL2, HL3⟩ := hid_pair (EndSt.none_ HE.out HMEM.out HNL.out)
            have ST := hidb HE.out.st
            go_wp2_with (first
              | (go_at_call 11; (with_reducible refine (t_hspans ST.out [] HL3.out).mono ?_); rintro e w9 ⟨A9, c9, rfl, hr9, hb9⟩; replace ST := hidb (ST.out.below hb9); clear hr9 hb9)
              | (go_at_call 10; (with_reducible refine (t_hruns ST.out [(0, pages)] HL2.out).mono ?_); rintro e w10 ⟨A10, c10, rfl, hr10, hb10⟩; have HW := hidb (ST.out.new_ hr10); replace ST := hidb (ST.out.below hb10); clear hr10 hb10)
              | (go_at_call 13; (with_reducible refine (t_same5r HW.out).mono ?_); rintro e w6 ⟨rfl, hb6⟩; replace ST := hidb ((ST.out.below ((Below.refl _ _).alloc (Nat.le_refl _) _)).below hb6); clear hb6)
              | (go_at_call 7; (with_reducible refine (cw _).mono ?_); rintro e w7 ⟨rfl, hb7⟩))
            go_ret
            exact ⟨rfl, ST.out.bel.trans (hb7.mono ST.out.bel.size)⟩

end Go.Proofs.Ytdobmdhhgponpaa
