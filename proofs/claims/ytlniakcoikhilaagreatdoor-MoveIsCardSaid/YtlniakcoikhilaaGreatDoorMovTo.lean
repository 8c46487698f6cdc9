/- The walk of the document's own To of layer 17 (move). -/
import Derived.Test.YtlniakcoikhilaaGreatDoorMovRef
namespace Go.Proofs.YtlniakcoikhilaaGreatDoor
open Go.RowKit
set_option linter.unusedVariables false

theorem wkGo_countT {xs : List Nat} {l : Fns} (hl : ∀ x ∈ l, 0 ≤ x.1 ∧ x.1 ≤ 1000) {hi : Int} : ∀ (n : Nat) (a : Int) (acc L : List FrV), wkGo xs l hi n a acc = some L → L.length ≤ acc.length + (hi - a).toNat
  | 0, a, acc, L, h => by
    unfold wkGo at h
    split at h
    · cases h
    · injection h with h; subst h; omega
  | n + 1, a, acc, L, h => by
    unfold wkGo at h
    by_cases ha : a < hi
    · rw [if_pos ha] at h
      cases hw : wkOne xs l hi a with
      | none => rw [hw] at h; cases h
      | some xe =>
        obtain ⟨x, e⟩ := xe
        rw [hw] at h
        have hg := wkOne_good hl hw
        have := wkGo_countT hl n e (x :: acc) L h
        simp only [List.length_cons] at this
        omega
    · rw [if_neg ha] at h
      injection h with h; subst h; omega
theorem wkFrames_fewT {xs : List Nat} {l : Fns} {s : StV} {L : List FrV} {e : Int} (hl : ∀ x ∈ l, 0 ≤ x.1 ∧ x.1 ≤ 1000) (h : wkFrames xs l s = (L, e)) (hn : xs.length ≤ 65536) : L.length ≤ 65536 := by
  unfold wkFrames at h
  split at h
  · injection h with h; subst h; simp
  · rename_i hm
    have hf := wkGo_few (l := l) (xs := xs) (s := s) (by simpa using hm)
    cases hg : wkGo xs l (s.lo + s.size) (s.lo + s.size - s.sp).toNat s.sp [] with
    | none => rw [hg] at h; injection h with h; subst h; simp
    | some f =>
      rw [hg] at h
      injection h with h; subst h
      have := wkGo_countT hl _ _ _ _ hg
      simp only [List.length_nil] at this
      omega
theorem apart_words {W : World} {b n : Nat} {B : Option Addr} {us : List Nat} {B0 : Nat} {t : TypeId} (hb : W.heap[b]? = some (.cells #[.int .i64 0, .int .i64 0, .int .i64 0] t (0, 0))) (hs : Sl W B0 B n (us.map wv)) (h0 : 0 < n) : ∀ a, B = some a → a.block ≠ b := fun a ha e => by
  obtain ⟨b', off, e1, _, hc⟩ := hs.2 h0
  rw [ha] at e1
  injection e1 with e1
  subst e1
  have h1 := hc 0 h0
  have hl : us.length = n := by have := hs.1; simpa using this
  rw [List.getElem?_map, List.getElem?_eq_getElem (by omega)] at h1
  simp only at e
  subst e
  simp [World.cell?, hb, wv] at h1
  match off, h1 with
  | 0, h1 => simp at h1
  | 1, h1 => simp at h1
  | 2, h1 => simp at h1
  | k + 3, h1 => simp at h1
theorem slGet_good {xs : List Nat} {l : Fns} {L : List FrV} {d i : Int} (hx : Wd xs) : (slGet xs l L d i).1.kind < 256 ∧ (slGet xs l L d i).1.bits < 18446744073709551616 := by
  unfold slGet
  split
  · exact ⟨by decide, by decide⟩
  · rename_i h
    split
    · refine ⟨by simp, ?_⟩
      simp only
      rw [List.getD_eq_getElem?_getD, List.getElem?_eq_getElem (by omega)]
      exact hx _ (List.getElem_mem _)
    · split
      · exact ⟨by decide, by decide⟩
      · split
        · exact ⟨by decide, by decide⟩
        · split
          · exact ⟨by decide, by decide⟩
          · split <;> exact ⟨by simp [vl0], by simp [vl0]⟩
theorem slAllAux_good {xs : List Nat} {l : Fns} {L : List FrV} (hx : Wd xs) : ∀ (q : List FrV) (d : Nat) (acc : List (List VlV)), (∀ r ∈ acc, ∀ v ∈ r, v.kind < 256 ∧ v.bits < 18446744073709551616) → ∀ r ∈ (slAllAux xs l L d q acc).1, ∀ v ∈ r, v.kind < 256 ∧ v.bits < 18446744073709551616
  | [], _, acc, h => h
  | x :: q, d, acc, h => by
    unfold slAllAux
    split
    · refine slAllAux_good hx q (d + 1) _ fun r hr => ?_
      rcases List.mem_append.1 hr with hr | hr
      · exact h r hr
      · rw [List.mem_singleton.1 hr]
        intro v hv
        unfold slRow at hv
        obtain ⟨i, _, rfl⟩ := List.mem_map.1 hv
        exact slGet_good hx
    · intro r hr; cases hr
theorem slAllAux_count {xs : List Nat} {l : Fns} {L : List FrV} : ∀ (q : List FrV) (d : Nat) (acc : List (List VlV)), (slAllAux xs l L d q acc).1.length ≤ acc.length + q.length
  | [], _, acc => by unfold slAllAux; simp
  | x :: q, d, acc => by
    unfold slAllAux
    split
    · have := slAllAux_count (xs := xs) (l := l) (L := L) q (d + 1) (acc ++ [slRow xs l L d (slSize l x).toNat])
      simp only [List.length_append, List.length_cons, List.length_nil] at this ⊢
      omega
    · simp
theorem slAllAux_wide {xs : List Nat} {l : Fns} {L : List FrV} (hl : ∀ x ∈ l, 0 ≤ x.1 ∧ x.1 ≤ 1000) : ∀ (q : List FrV) (d : Nat) (acc : List (List VlV)), (∀ r ∈ acc, r.length ≤ 1000) → ∀ r ∈ (slAllAux xs l L d q acc).1, r.length ≤ 1000
  | [], _, acc, h => h
  | x :: q, d, acc, h => by
    unfold slAllAux
    split
    · refine slAllAux_wide hl q (d + 1) _ fun r hr => ?_
      rcases List.mem_append.1 hr with hr | hr
      · exact h r hr
      · rw [List.mem_singleton.1 hr, slRow_length]
        have := slSize_range l hl x
        omega
    · intro r hr; cases hr
theorem aStore_wdM {xs ys : List Nat} (hx : Wd xs) (hy : Wd ys) (i : Nat) : Wd (aStore xs i ys) := fun z hz => by
  unfold aStore at hz
  rcases List.mem_append.1 hz with hz | hz
  · rcases List.mem_append.1 hz with hz | hz
    · exact hx z (List.mem_of_mem_take hz)
    · exact hy z hz
  · exact hx z (List.mem_of_mem_drop hz)
theorem frPush_wd {xs : List Nat} {l : Fns} (hl : ∀ x ∈ l, 0 ≤ x.1 ∧ x.1 ≤ 1000) (hk : l.length ≤ 1000) (hn : xs.length ≤ 65536) (hx : Wd xs) (lo sp f link : Int) : Wd (frPush xs l lo sp f link).1 := by
  have hr := fWords_cases l hl f
  unfold frPush
  split
  · exact hx
  · split
    · exact hx
    · refine aStore_wdM hx (fun z hz => ?_) _
      unfold frRow at hz
      rcases List.mem_cons.1 hz with rfl | hz
      · omega
      · rcases List.mem_cons.1 hz with rfl | hz
        · omega
        · rw [List.eq_of_mem_replicate hz]; omega
theorem layGo_wd {l : Fns} {lo : Int} (hl : ∀ x ∈ l, 0 ≤ x.1 ∧ x.1 ≤ 1000) (hk : l.length ≤ 1000) : ∀ (fs : List Int) (xs : List Nat) (sp link : Int), xs.length ≤ 65536 → Wd xs → Wd (layGo l lo fs xs sp link).1
  | [], _, _, _, _, hx => hx
  | f :: r, xs, sp, link, hn, hx => by
    unfold layGo
    split
    · exact layGo_wd hl hk r _ _ _ (by rw [frPush_len _ _ _ _ _ _ hl]; exact hn) (frPush_wd hl hk hn hx _ _ _ _)
    · exact hx
theorem layGo_sp {l : Fns} {lo : Int} : ∀ (fs : List Int) (xs : List Nat) (sp link : Int), lo ≤ sp → lo ≤ (layGo l lo fs xs sp link).2.1 ∧ (layGo l lo fs xs sp link).2.1 ≤ sp
  | [], _, _, _, h => ⟨h, Int.le_refl _⟩
  | f :: r, xs, sp, link, h => by
    unfold layGo
    split
    · rename_i h0
      obtain ⟨ys, b, no, hp⟩ : ∃ ys b no, frPush xs l lo sp f link = (ys, b, no) := ⟨_, _, _, rfl⟩
      rw [hp] at h0 ⊢
      simp only at h0 ⊢
      subst h0
      have hg := frPush_good hp
      have := layGo_sp (l := l) r ys b b hg.2.1
      omega
    · exact ⟨h, Int.le_refl _⟩
/-- What To answers. -/
def ResT (w : World) (n : Nat) (r : List Nat × StV × Int) (e : Ending) (w' : World) : Prop := ∃ B k, e = .returned (.tuple #[.slice B n k, stC r.2.1, .int .i64 r.2.2]) ∧ Sl w' w'.heap.size B n (r.1.map wv) ∧ (B = none → k = 0) ∧ Below w.heap.size w w'
/-- To's four blocks: the stack that came in, the result's, the empty one. -/
structure T3 (W : World) (b : Nat) (s : StV) : Prop where
  s0 : W.cell? ⟨b, 0, none⟩ = some (.int .i64 s.lo)
  s1 : W.cell? ⟨b, 1, none⟩ = some (.int .i64 s.size)
  s2 : W.cell? ⟨b, 2, none⟩ = some (.int .i64 s.sp)
  r0 : W.cell? ⟨b + 1, 0, none⟩ = some (.int .i64 0)
  r1 : W.cell? ⟨b + 1, 1, none⟩ = some (.int .i64 0)
  r2 : W.cell? ⟨b + 1, 2, none⟩ = some (.int .i64 0)
  z0 : W.cell? ⟨b + 2, 0, none⟩ = some (.int .i64 0)
  z1 : W.cell? ⟨b + 2, 1, none⟩ = some (.int .i64 0)
  z2 : W.cell? ⟨b + 2, 2, none⟩ = some (.int .i64 0)
  fr : ∀ i, W.frozen? ⟨b + 1, i, none⟩ = false
  rb : W.heap[b + 1]? = some (.cells #[.int .i64 0, .int .i64 0, .int .i64 0] 25 (0, 0))
theorem T3.step {W W' : World} {b : Nat} {s : StV} (h : T3 W b s) (hb : Below W.heap.size W W') : T3 W' b s := by
  have h0 : b < W.heap.size := lt_of_cell' h.s0
  have h1 : b + 1 < W.heap.size := lt_of_cell' h.r0
  have h2 : b + 2 < W.heap.size := lt_of_cell' h.z0
  exact ⟨(hb.cell (p := ⟨b, 0, none⟩) h0).trans h.s0, (hb.cell (p := ⟨b, 1, none⟩) h0).trans h.s1, (hb.cell (p := ⟨b, 2, none⟩) h0).trans h.s2, (hb.cell (p := ⟨b + 1, 0, none⟩) h1).trans h.r0, (hb.cell (p := ⟨b + 1, 1, none⟩) h1).trans h.r1, (hb.cell (p := ⟨b + 1, 2, none⟩) h1).trans h.r2, (hb.cell (p := ⟨b + 2, 0, none⟩) h2).trans h.z0, (hb.cell (p := ⟨b + 2, 1, none⟩) h2).trans h.z1, (hb.cell (p := ⟨b + 2, 2, none⟩) h2).trans h.z2, fun i => (hb.frozen (p := ⟨b + 1, i, none⟩) h1).trans (h.fr i), (hb.block _ h1).trans h.rb⟩

set_option maxRecDepth 100000 in
set_option maxHeartbeats 8000000 in
theorem ref_mvto {w : World} {A A2 : Option Addr} {n c n2 c2 lo' hi' : Nat} {xs : List Nat} {ys : List FnV} (hs : Sl w w.heap.size A n (xs.map wv)) (hA0 : A = none → c = 0) (h0 : 0 < n) (hn : n ≤ 65536) (hx : Wd xs) (hr : FnRow w lo' hi' A2 n2 ys) (hhi : hi' ≤ w.heap.size) (hn2 : n2 ≤ 1000) (hl : ∀ x ∈ vals ys, 0 ≤ x.1 ∧ x.1 ≤ 1000) (s : StV) (i1 : in64 s.lo) (i2 : in64 s.size) (i3 : in64 s.sp) (lo size : Int) (i4 : in64 lo) (i5 : in64 size) :
    Calls Tryz.prog 9 #[.slice A n c, .slice A2 n2 c2, stC s, .int .i64 lo, .int .i64 size] w (ResT w n (mvTo xs (vals ys) s lo size)) := by
  have hlen : xs.length = n := by have := hs.1; simpa using this
  obtain ⟨sl, ss, sp⟩ := s
  simp only at i1 i2 i3
  obtain ⟨W0, hW0⟩ : ∃ W0, W0 = ((w.alloc (.cells #[.int .i64 sl, .int .i64 ss, .int .i64 sp] 25)).alloc (.cells #[.int .i64 0, .int .i64 0, .int .i64 0] 25)).alloc (.cells #[.int .i64 0, .int .i64 0, .int .i64 0] 25) := ⟨_, rfl⟩
  have hb0 : Below w.heap.size w W0 := by rw [hW0]; exact belF_al (belF_al (belF_al (Below.refl _ _) _) _) _
  have hT3 : T3 W0 w.heap.size ⟨sl, ss, sp⟩ := by
    obtain ⟨W1, hW1⟩ : ∃ W1, W1 = w.alloc (.cells #[.int .i64 sl, .int .i64 ss, .int .i64 sp] 25) := ⟨_, rfl⟩
    obtain ⟨W2, hW2⟩ : ∃ W2, W2 = W1.alloc (.cells #[.int .i64 0, .int .i64 0, .int .i64 0] 25) := ⟨_, rfl⟩
    have z1 : W1.heap.size = w.heap.size + 1 := by rw [hW1]; simp
    have z2 : W2.heap.size = w.heap.size + 2 := by rw [hW2]; simp; omega
    have e : W0 = W2.alloc (.cells #[.int .i64 0, .int .i64 0, .int .i64 0] 25) := by rw [hW0, hW2, hW1]
    have b1 : Below W1.heap.size W1 W2 := by rw [hW2]; exact belF_al (Below.refl _ _) _
    have b2 : Below W2.heap.size W2 W0 := by rw [e]; exact belF_al (Below.refl _ _) _
    have a1 : ∀ i, W0.cell? ⟨w.heap.size, i, none⟩ = W1.cell? ⟨w.heap.size, i, none⟩ := fun i => (b2.cell (by show w.heap.size < _; omega)).trans (b1.cell (by show w.heap.size < _; omega))
    have a2 : ∀ i, W0.cell? ⟨w.heap.size + 1, i, none⟩ = W2.cell? ⟨w.heap.size + 1, i, none⟩ := fun i => b2.cell (by show w.heap.size + 1 < _; omega)
    have f2 : ∀ i, W0.frozen? ⟨w.heap.size + 1, i, none⟩ = W2.frozen? ⟨w.heap.size + 1, i, none⟩ := fun i => b2.frozen (by show w.heap.size + 1 < _; omega)
    refine ⟨?_, ?_, ?_, ?_, ?_, ?_, ?_, ?_, ?_, fun i => ?_, ?_⟩
    · rw [a1, hW1]; simp
    · rw [a1, hW1]; simp
    · rw [a1, hW1]; simp
    · rw [a2, hW2, ← z1]; simp
    · rw [a2, hW2, ← z1]; simp
    · rw [a2, hW2, ← z1]; simp
    · rw [e, ← z2]; simp
    · rw [e, ← z2]; simp
    · rw [e, ← z2]; simp
    · rw [f2, hW2, ← z1]; simp [go_sem]
    · rw [b2.block _ (by omega), hW2, ← z1]; exact heap_alloc_new W1 _
  have hM := fun (W : World) (x : StV) (j1 : in64 x.lo) (j2 : in64 x.size) (j3 : in64 x.sp) => ref_stmay x (n : Int) W j1 j2 j3 (by omega) _ rfl
  have HFR : Hid (∀ W B k (us : List Nat) (x : StV), Below w.heap.size w W → Sl W W.heap.size B n (us.map wv) → Wd us → in64 x.lo → in64 x.size → in64 x.sp → Calls Tryz.prog 22 #[.slice B n k, .slice A2 n2 c2, stC x] W (ResFr W (wkFrames us (vals ys) x))) := hidb (fun W B k us x hb hu hw j1 j2 j3 => ref_frames hu hn hw (hr.below (hb.mono hhi)) (Nat.le_trans hhi hb.size) hn2 hl x j1 j2 j3)
  have HALL : Hid (∀ W C k m (L : List FrV), Below w.heap.size w W → FrRow W W.heap.size C m L → m ≤ 1000000 → Calls Tryz.prog 23 #[.slice A n c, .slice A2 n2 c2, .slice C m k] W (ResV W (slAll xs (vals ys) L))) := hidb (fun W C k m L hb hL hm => ref_slall ((hs.below hb).more hb.size) hn hx (hr.below (hb.mono hhi)) (Nat.le_trans hhi hb.size) hn2 hl hL hm)
  have HLAY : Hid (∀ W C k q (fs : List Int), Below w.heap.size w W → Sl W W.heap.size C q (fs.map iv) → q ≤ 1000000 → (0 ≤ lo ∧ lo ≤ 65536) → (0 ≤ size ∧ size ≤ 65536) → Calls Tryz.prog 25 #[.slice A n c, .slice A2 n2 c2, .int .i64 lo, .int .i64 size, .slice C q k] W (ResL W n (layGo (vals ys) lo fs xs (lo + size) (-1)) lo size)) := hidb (fun W C k q fs hb hf hq j1 j2 => ref_frlay ((hs.below hb).more hb.size) hA0 h0 hn (hr.below (hb.mono hhi)) (Nat.le_trans hhi hb.size) hn2 hl hf hq lo size j1 j2)
  have HPUT : Hid (∀ W B k (us : List Nat) C kc m (L : List FrV) (d i : Int) (v : VlV), Below w.heap.size w W → Sl W W.heap.size B n (us.map wv) → (B = none → k = 0) → FrRow W W.heap.size C m L → m ≤ 1000000 → in64 i → v.kind < 256 → v.bits < 18446744073709551616 → Calls Tryz.prog 26 #[.slice B n k, .slice A2 n2 c2, .slice C m kc, .int .i64 d, .int .i64 i, vlC v] W (ResW W n (slPut us (vals ys) L d i v))) := hidb (fun W B k us C kc m L d i v hb hu hB hL hm hi h1 h2 => ref_slput hu hB hn (hr.below (hb.mono hhi)) (Nat.le_trans hhi hb.size) hn2 hl hL hm d i hi v h1 h2)
  have HB0 := hidb hb0
  have HT0 := hidb hT3
  have HSAME : Hid (∀ W no, Below w.heap.size w W → mvTo xs (vals ys) ⟨sl, ss, sp⟩ lo size = (xs, st0, no) → ResT w n (mvTo xs (vals ys) ⟨sl, ss, sp⟩ lo size) (.returned (.tuple #[.slice A n c, .agg #[.int .i64 0, .int .i64 0, .int .i64 0], .int .i64 no])) ((((W.setCell ⟨w.heap.size + 1, 0, none⟩ (.int .i64 0)).setCell ⟨w.heap.size + 1, 1, none⟩ (.int .i64 0)).setCell ⟨w.heap.size + 1, 2, none⟩ (.int .i64 0)).drew)) := hidb (fun W no hb h => by
    rw [h]
    have hbs := (bel_set3 hb (show w.heap.size ≤ w.heap.size + 1 by omega) (.int .i64 0) (.int .i64 0) (.int .i64 0)).drew
    exact ⟨A, c, rfl, (hs.below hbs).more hbs.size, hA0, hbs⟩)
  have HSTEP : Hid (∀ W, Below (((w.alloc (.cells #[.int .i64 sl, .int .i64 ss, .int .i64 sp] 25)).alloc (.cells #[.int .i64 0, .int .i64 0, .int .i64 0] 25)).alloc (.cells #[.int .i64 0, .int .i64 0, .int .i64 0] 25)).heap.size (((w.alloc (.cells #[.int .i64 sl, .int .i64 ss, .int .i64 sp] 25)).alloc (.cells #[.int .i64 0, .int .i64 0, .int .i64 0] 25)).alloc (.cells #[.int .i64 0, .int .i64 0, .int .i64 0] 25)) W → Below w.heap.size w W ∧ T3 W w.heap.size ⟨sl, ss, sp⟩) := hidb (by
    rw [← hW0]
    exact fun W hb => ⟨belF_tr hb0 hb, hT3.step hb⟩)
  rw [hW0] at HB0 HT0
  have HNY : Hid (ys.length ≤ 1000) := hidb (by rw [hr.len]; exact hn2)
  have HS := hidb hs
  have HL := hidb hl
  have HX := hidb hx
  have HLN := hidb hlen
  clear hW0 hb0 hT3 hs hr hl hx
  unfold stC at hM HFR
  obtain ⟨x0, x1, x2, y0, y1, y2, z0, z1, z2, ff, _⟩ := HT0.out
  clear ff
  unfold stC
  simp only at *
  cases d1 : stMay ⟨sl, ss, sp⟩ n with
  | false =>
    have m1 := fun W => hM W ⟨sl, ss, sp⟩ i1 i2 i3
    rw [d1] at m1
    have EQ := hidb (show mvTo xs (vals ys) ⟨sl, ss, sp⟩ lo size = (xs, st0, 1) by unfold mvTo; rw [hlen, if_pos (Or.inl d1)])
    clear HFR HALL HLAY HPUT hM d1
    --@1
    go_enter Tryz.func9, Tryz.ntmps9
    go_wp2_with (first
      | (go_at_call 20; (with_reducible refine (m1 _).mono ?_); rintro e w1 ⟨rfl, hb1⟩; have G1 := hidb hb1))
    obtain ⟨x0, x1, x2, y0, y1, y2, z0, z1, z2, ff, _⟩ := (HSTEP.out _ G1.out).2
    have f0 := ff 0
    have f1 := ff 1
    have f2 := ff 2
    have PF := hidb (HSAME.out w1 1 (HSTEP.out _ G1.out).1 EQ.out)
    clear ff
    go_wp2
    go_region
    obtain ⟨t0, t1, t2⟩ := three_cells w1 (w.heap.size + 1) (.int .i64 0) (.int .i64 0) (.int .i64 0) _ _ _ y0 y1 y2
    all_goals go_wp2
    all_goals exact bodyPost_ret (v := .tuple #[.slice A n c, .agg #[.int .i64 0, .int .i64 0, .int .i64 0], .int .i64 1]) (by simp [results, Tryz.results9, go_sem, t0, t1, t2]) rfl PF.out
  | true =>
  cases d2 : stkSz size with
  | false =>
    have m1 := fun W => hM W ⟨sl, ss, sp⟩ i1 i2 i3
    rw [d1] at m1
    have m2 := fun W => ref_stsize size W i5 false d2
    have EQ := hidb (show mvTo xs (vals ys) ⟨sl, ss, sp⟩ lo size = (xs, st0, 1) by unfold mvTo; rw [hlen, if_pos (Or.inr (Or.inl d2))])
    clear HFR HALL HLAY HPUT hM d1 d2
    --@2
    go_enter Tryz.func9, Tryz.ntmps9
    go_wp2_with (first
      | (go_at_call 20; (with_reducible refine (m1 _).mono ?_); rintro e w1 ⟨rfl, hb1⟩; have G1 := hidb hb1)
      | (go_at_call 21; (with_reducible refine (m2 _).mono ?_); rintro e w2 ⟨rfl, rfl⟩))
    obtain ⟨x0, x1, x2, y0, y1, y2, z0, z1, z2, ff, _⟩ := (HSTEP.out _ G1.out).2
    have f0 := ff 0
    have f1 := ff 1
    have f2 := ff 2
    have PF := hidb (HSAME.out w1 1 (HSTEP.out _ G1.out).1 EQ.out)
    clear ff
    go_wp2
    go_region
    obtain ⟨t0, t1, t2⟩ := three_cells w1 (w.heap.size + 1) (.int .i64 0) (.int .i64 0) (.int .i64 0) _ _ _ y0 y1 y2
    all_goals go_wp2
    all_goals exact bodyPost_ret (v := .tuple #[.slice A n c, .agg #[.int .i64 0, .int .i64 0, .int .i64 0], .int .i64 1]) (by simp [results, Tryz.results9, go_sem, t0, t1, t2]) rfl PF.out
  | true =>
  cases d3 : stMay ⟨lo, size, lo⟩ n with
  | false =>
    have m1 := fun W => hM W ⟨sl, ss, sp⟩ i1 i2 i3
    rw [d1] at m1
    have m2 := fun W => ref_stsize size W i5 true d2
    have m3 := fun W => hM W ⟨lo, size, lo⟩ i4 i5 i4
    rw [d3] at m3
    have EQ := hidb (show mvTo xs (vals ys) ⟨sl, ss, sp⟩ lo size = (xs, st0, 1) by unfold mvTo; rw [hlen, if_pos (Or.inr (Or.inr d3))])
    clear HFR HALL HLAY HPUT hM d1 d2 d3
    --@3
    go_enter Tryz.func9, Tryz.ntmps9
    go_wp2_with (first
      | (go_at_call 20; (with_reducible refine (m1 _).mono ?_); rintro e w1 ⟨rfl, hb1⟩; have G1 := hidb hb1; clear m1)
      | (go_at_call 21; (with_reducible refine (m2 _).mono ?_); rintro e w2 ⟨rfl, rfl⟩)
      | (go_at_call 20; (with_reducible refine (m3 _).mono ?_); rintro e w3 ⟨rfl, hb3⟩; have G3 := hidb (belF_tr G1.out hb3)))
    obtain ⟨x0, x1, x2, y0, y1, y2, z0, z1, z2, ff, _⟩ := (HSTEP.out _ G3.out).2
    have f0 := ff 0
    have f1 := ff 1
    have f2 := ff 2
    have PF := hidb (HSAME.out w3 1 (HSTEP.out _ G3.out).1 EQ.out)
    clear ff
    go_wp2
    go_region
    obtain ⟨t0, t1, t2⟩ := three_cells w3 (w.heap.size + 1) (.int .i64 0) (.int .i64 0) (.int .i64 0) _ _ _ y0 y1 y2
    all_goals go_wp2
    all_goals exact bodyPost_ret (v := .tuple #[.slice A n c, .agg #[.int .i64 0, .int .i64 0, .int .i64 0], .int .i64 1]) (by simp [results, Tryz.results9, go_sem, t0, t1, t2]) rfl PF.out
  | true =>
    have m1 := fun W => hM W ⟨sl, ss, sp⟩ i1 i2 i3
    rw [d1] at m1
    have m2 := fun W => ref_stsize size W i5 true d2
    have m3 := fun W => hM W ⟨lo, size, lo⟩ i4 i5 i4
    rw [d3] at m3
    obtain ⟨g1, g2, g3, g4, g5⟩ := wkGo_few (l := vals ys) (xs := xs) (s := ⟨sl, ss, sp⟩) (by rw [hlen]; exact d1)
    obtain ⟨k1, k2, k3, k4, k5⟩ := wkGo_few (l := vals ys) (xs := xs) (s := ⟨lo, size, lo⟩) (by rw [hlen]; exact d3)
    simp only at g1 g2 g3 g4 g5 k1 k2 k3 k4 k5
    rw [hlen] at g5 k5
    have HC := hidb (show ¬ (stMay ⟨sl, ss, sp⟩ xs.length = false ∨ stkSz size = false ∨ stMay ⟨lo, size, lo⟩ xs.length = false) by rw [hlen, d1, d2, d3]; simp)
    obtain ⟨L, e1, hF⟩ : ∃ L e1, wkFrames xs (vals ys) ⟨sl, ss, sp⟩ = (L, e1) := ⟨_, _, rfl⟩
    have kf := fun W hb hu => HFR.out W A c xs ⟨sl, ss, sp⟩ hb hu HX.out i1 i2 i3
    rw [hF] at kf
    have KF : Hid (∀ W, Below (((w.alloc (.cells #[.int .i64 sl, .int .i64 ss, .int .i64 sp] 25)).alloc (.cells #[.int .i64 0, .int .i64 0, .int .i64 0] 25)).alloc (.cells #[.int .i64 0, .int .i64 0, .int .i64 0] 25)).heap.size (((w.alloc (.cells #[.int .i64 sl, .int .i64 ss, .int .i64 sp] 25)).alloc (.cells #[.int .i64 0, .int .i64 0, .int .i64 0] 25)).alloc (.cells #[.int .i64 0, .int .i64 0, .int .i64 0] 25)) W → Calls Tryz.prog 22 #[.slice A n c, .slice A2 n2 c2, .agg #[.int .i64 sl, .int .i64 ss, .int .i64 sp]] W fun e w' => ∃ C k, e = .returned (.tuple #[.slice C L.length k, .int .i64 e1]) ∧ Hid (FrRow w' w'.heap.size C L.length L) ∧ Hid (Below W.heap.size W w')) := hidb (fun W hb => by
      have hq := (HSTEP.out W hb).1
      have k9 := kf W hq ((HS.out.below hq).more hq.size)
      exact Calls.mono k9 (by rintro e w' ⟨C, k, h1, h2, h3⟩; exact ⟨C, k, h1, hidb h2, hidb h3⟩))
    clear kf hM d1 d2 d3
    by_cases h1 : e1 = 0
    · subst h1
      have hLl : L.length ≤ 65536 := wkFrames_fewT HL.out hF (by rw [hlen]; exact hn)
      obtain ⟨Rv, e2, hA⟩ : ∃ Rv e2, slAll xs (vals ys) L = (Rv, e2) := ⟨_, _, rfl⟩
      have ka := fun W C k hb hL => HALL.out W C k L.length L hb hL (by omega)
      rw [hA] at ka
      have KA : Hid (∀ W C k, Below (((w.alloc (.cells #[.int .i64 sl, .int .i64 ss, .int .i64 sp] 25)).alloc (.cells #[.int .i64 0, .int .i64 0, .int .i64 0] 25)).alloc (.cells #[.int .i64 0, .int .i64 0, .int .i64 0] 25)).heap.size (((w.alloc (.cells #[.int .i64 sl, .int .i64 ss, .int .i64 sp] 25)).alloc (.cells #[.int .i64 0, .int .i64 0, .int .i64 0] 25)).alloc (.cells #[.int .i64 0, .int .i64 0, .int .i64 0] 25)) W → FrRow W W.heap.size C L.length L → Calls Tryz.prog 23 #[.slice A n c, .slice A2 n2 c2, .slice C L.length k] W fun e w' => ∃ D r zs, e = .returned (.tuple #[.slice D Rv.length r, .int .i64 e2]) ∧ Hid (VvRow w' w'.heap.size D Rv.length zs) ∧ Hid (vvals zs = Rv) ∧ Hid (Below W.heap.size W w')) := hidb (fun W C k hb hL => by
        have k9 := ka W C k (HSTEP.out W hb).1 hL
        exact Calls.mono k9 (by rintro e w' ⟨D, r, zs, h1, h2, h3, h4⟩; exact ⟨D, r, zs, h1, hidb h2, hidb h3, hidb h4⟩))
      clear ka
      by_cases h2 : e2 = 0
      · subst h2
        have hwA : wrap64 (sl + ss) = sl + ss := by unfold wrap64; omega
        have hwB : wrap64 (sl + ss - sp) = sl + ss - sp := by unfold wrap64; omega
        by_cases h3 : size < sl + ss - sp
        · have EQ := hidb (show mvTo xs (vals ys) ⟨sl, ss, sp⟩ lo size = (xs, st0, 2) by unfold mvTo; rw [if_neg HC.out, hF, if_neg (by simp)]; simp only; rw [hA, if_neg (by simp), if_pos (Or.inl h3)])
          clear HFR HALL HLAY HPUT hF hA
          --@6
          go_enter Tryz.func9, Tryz.ntmps9
          go_wp2_with (first
            | (go_at_call 20; (with_reducible refine (m1 _).mono ?_); rintro e w1 ⟨rfl, hb1⟩; have G1 := hidb hb1; clear m1)
            | (go_at_call 21; (with_reducible refine (m2 _).mono ?_); rintro e w2 ⟨rfl, rfl⟩)
            | (go_at_call 20; (with_reducible refine (m3 _).mono ?_); rintro e w3 ⟨rfl, hb3⟩; have G3 := hidb (belF_tr G1.out hb3); obtain ⟨q0, q1, q2, _⟩ := (HSTEP.out _ G3.out).2)
            | (go_at_call 22; (with_reducible refine (KF.out _ G3.out).mono ?_); rintro e w4 ⟨C, kC, rfl, hL, hb4⟩; have G4 := hidb (belF_tr G3.out hb4.out); clear KF)
            | (go_at_call 23; (with_reducible refine (KA.out _ _ _ G4.out hL.out).mono ?_); rintro e w5 ⟨C2, kC2, zs, rfl, hV, hR, hb5⟩; have G5 := hidb (belF_tr G4.out hb5.out); have hL5 := hidb (hL.out.step hb5.out); obtain ⟨u0, u1, u2, _⟩ := (HSTEP.out _ G5.out).2))
          obtain ⟨x0, x1, x2, y0, y1, y2, z0, z1, z2, ff, _⟩ := (HSTEP.out _ G5.out).2
          have f0 := ff 0
          have f1 := ff 1
          have f2 := ff 2
          have PF := hidb (HSAME.out w5 2 (HSTEP.out _ G5.out).1 EQ.out)
          clear ff
          go_wp2
          go_region
          obtain ⟨t0, t1, t2⟩ := three_cells w5 (w.heap.size + 1) (.int .i64 0) (.int .i64 0) (.int .i64 0) _ _ _ y0 y1 y2
          all_goals go_wp2
          all_goals exact bodyPost_ret (v := .tuple #[.slice A n c, .agg #[.int .i64 0, .int .i64 0, .int .i64 0], .int .i64 2]) (by simp [results, Tryz.results9, go_sem, t0, t1, t2]) rfl PF.out
        · have hbf := fun W => ref_mvfits ⟨sl, ss, sp⟩ ⟨lo, size, 0⟩ W (by simp only; omega) (by simp only; omega) (by simp only; omega) (by simp only; omega)
          cases h4 : mvFits ⟨sl, ss, sp⟩ ⟨lo, size, 0⟩ with
          | false =>
            have KFIT := fun W => hbf W false h4
            unfold stC at KFIT
            simp only at KFIT
            have EQ := hidb (show mvTo xs (vals ys) ⟨sl, ss, sp⟩ lo size = (xs, st0, 2) by unfold mvTo; rw [if_neg HC.out, hF, if_neg (by simp)]; simp only; rw [hA, if_neg (by simp), if_pos (Or.inr h4)])
            clear HFR HALL HLAY HPUT hF hA hbf h4
            --@7
            go_enter Tryz.func9, Tryz.ntmps9
            go_wp2_with (first
              | (go_at_call 20; (with_reducible refine (m1 _).mono ?_); rintro e w1 ⟨rfl, hb1⟩; have G1 := hidb hb1; clear m1)
              | (go_at_call 21; (with_reducible refine (m2 _).mono ?_); rintro e w2 ⟨rfl, rfl⟩)
              | (go_at_call 20; (with_reducible refine (m3 _).mono ?_); rintro e w3 ⟨rfl, hb3⟩; have G3 := hidb (belF_tr G1.out hb3); obtain ⟨q0, q1, q2, _⟩ := (HSTEP.out _ G3.out).2)
              | (go_at_call 22; (with_reducible refine (KF.out _ G3.out).mono ?_); rintro e w4 ⟨C, kC, rfl, hL, hb4⟩; have G4 := hidb (belF_tr G3.out hb4.out); clear KF)
              | (go_at_call 23; (with_reducible refine (KA.out _ _ _ G4.out hL.out).mono ?_); rintro e w5 ⟨C2, kC2, zs, rfl, hV, hR, hb5⟩; have G5 := hidb (belF_tr G4.out hb5.out); have hL5 := hidb (hL.out.step hb5.out); obtain ⟨u0, u1, u2, _⟩ := (HSTEP.out _ G5.out).2)
              | (go_at_call 24; (with_reducible refine (KFIT _).mono ?_); rintro e w6 ⟨rfl, hb6⟩; have G6 := hidb (belF_tr G5.out hb6)))
            obtain ⟨x0, x1, x2, y0, y1, y2, z0, z1, z2, ff, _⟩ := (HSTEP.out _ G6.out).2
            have f0 := ff 0
            have f1 := ff 1
            have f2 := ff 2
            have PF := hidb (HSAME.out w6 2 (HSTEP.out _ G6.out).1 EQ.out)
            clear ff
            go_wp2
            go_region
            obtain ⟨t0, t1, t2⟩ := three_cells w6 (w.heap.size + 1) (.int .i64 0) (.int .i64 0) (.int .i64 0) _ _ _ y0 y1 y2
            all_goals go_wp2
            all_goals exact bodyPost_ret (v := .tuple #[.slice A n c, .agg #[.int .i64 0, .int .i64 0, .int .i64 0], .int .i64 2]) (by simp [results, Tryz.results9, go_sem, t0, t1, t2]) rfl PF.out
          | true =>
            have KFIT := fun W => hbf W true h4
            unfold stC at KFIT
            simp only at KFIT
            obtain ⟨ix, hiX, hy0, hy1, hy2⟩ := info_parts info_int
            have hlay := fun W C k hb hf => HLAY.out W C k L.length (L.map FrV.fn) hb hf (by omega) (by omega) (by omega)
            obtain ⟨ous, osp, ok, hY⟩ : ∃ ous osp ok, layGo (vals ys) lo (L.map FrV.fn) xs (lo + size) (-1) = (ous, osp, ok) := ⟨_, _, _, rfl⟩
            rw [hY] at hlay
            have KLAY : Hid (∀ W C k, Below (((w.alloc (.cells #[.int .i64 sl, .int .i64 ss, .int .i64 sp] 25)).alloc (.cells #[.int .i64 0, .int .i64 0, .int .i64 0] 25)).alloc (.cells #[.int .i64 0, .int .i64 0, .int .i64 0] 25)).heap.size (((w.alloc (.cells #[.int .i64 sl, .int .i64 ss, .int .i64 sp] 25)).alloc (.cells #[.int .i64 0, .int .i64 0, .int .i64 0] 25)).alloc (.cells #[.int .i64 0, .int .i64 0, .int .i64 0] 25)) W → Sl W W.heap.size C L.length ((L.map FrV.fn).map iv) → Calls Tryz.prog 25 #[.slice A n c, .slice A2 n2 c2, .int .i64 lo, .int .i64 size, .slice C L.length k] W fun e w' => ∃ B r, e = .returned (.tuple #[.slice B n r, .agg #[.int .i64 lo, .int .i64 size, .int .i64 osp], .bool ok]) ∧ Hid (Sl w' w'.heap.size B n (ous.map wv)) ∧ Hid (B = none → r = 0) ∧ Hid (Below W.heap.size W w')) := hidb (fun W C k hb hf => by
              have k9 := hlay W C k (HSTEP.out W hb).1 hf
              exact Calls.mono k9 (by rintro e w' ⟨B, r, h1, h2, h3, h4⟩; exact ⟨B, r, h1, hidb h2, hidb h3, hidb h4⟩))
            clear hlay
            have HMV : Hid (mvTo xs (vals ys) ⟨sl, ss, sp⟩ lo size = if ok = false then (xs, st0, 9) else (mvRows (vals ys) (wkFrames ous (vals ys) ⟨lo, size, osp⟩).1 0 Rv ous, ⟨lo, size, osp⟩, 0)) := hidb (by
              unfold mvTo; rw [if_neg HC.out, hF, if_neg (by simp)]; simp only; rw [hA, if_neg (by simp), if_neg (fun h => h.elim (fun h => h3 h) (fun h => by rw [h4] at h; cases h)), hY])
            have HLLEN : Hid (L.length ≤ 65536) := hidb hLl
            have HRV : Hid (slAll xs (vals ys) L = (Rv, 0)) := hidb hA
            have HZN : Hid (∀ (d : Nat) r, Rv[d]? = some r → r.length ≤ 1000) := hidb (fun d r hr => by
              have h9 := slAllAux_wide (xs := xs) (l := vals ys) (L := L) HL.out L 0 [] (fun r hr => by cases hr)
              rw [show slAllAux xs (vals ys) L 0 L [] = (Rv, 0) from hA] at h9
              exact h9 r (List.mem_of_getElem? hr))
            have hosp := layGo_sp (l := vals ys) (lo := lo) (L.map FrV.fn) xs (lo + size) (-1) (by omega)
            have hwdo := layGo_wd (l := vals ys) (lo := lo) HL.out (by rw [vals_length]; exact HNY.out) (L.map FrV.fn) xs (lo + size) (-1) (by rw [hlen]; exact hn) HX.out
            rw [hY] at hosp hwdo
            simp only at hosp hwdo
            have hgood := slAllAux_good (l := vals ys) (L := L) HX.out L 0 [] (fun r hr => by cases hr)
            rw [show slAllAux xs (vals ys) L 0 L [] = (Rv, 0) from hA] at hgood
            have HGOOD := hidb hgood
            obtain ⟨L2, e3, hF2⟩ : ∃ L2 e3, wkFrames ous (vals ys) ⟨lo, size, osp⟩ = (L2, e3) := ⟨_, _, rfl⟩
            have hL2l : L2.length ≤ 65536 := wkFrames_fewT HL.out hF2 (by have := layGo_length (vals ys) lo HL.out (L.map FrV.fn) xs (lo + size) (-1); rw [hY] at this; simp only at this; omega)
            have kf2 := fun W B k hb hu => HFR.out W B k ous ⟨lo, size, osp⟩ hb hu hwdo i4 i5 (by unfold in64; simp only; omega)
            rw [hF2] at kf2 HMV
            simp only at HMV
            have KF2 : Hid (∀ W B k, Below (((w.alloc (.cells #[.int .i64 sl, .int .i64 ss, .int .i64 sp] 25)).alloc (.cells #[.int .i64 0, .int .i64 0, .int .i64 0] 25)).alloc (.cells #[.int .i64 0, .int .i64 0, .int .i64 0] 25)).heap.size (((w.alloc (.cells #[.int .i64 sl, .int .i64 ss, .int .i64 sp] 25)).alloc (.cells #[.int .i64 0, .int .i64 0, .int .i64 0] 25)).alloc (.cells #[.int .i64 0, .int .i64 0, .int .i64 0] 25)) W → Sl W W.heap.size B n (ous.map wv) → Calls Tryz.prog 22 #[.slice B n k, .slice A2 n2 c2, .agg #[.int .i64 lo, .int .i64 size, .int .i64 osp]] W fun e w' => ∃ C k, e = .returned (.tuple #[.slice C L2.length k, .int .i64 e3]) ∧ Hid (FrRow w' w'.heap.size C L2.length L2) ∧ Hid (Below W.heap.size W w')) := hidb (fun W B k hb hu => by
              have k9 := kf2 W B k (HSTEP.out W hb).1 hu
              exact Calls.mono k9 (by rintro e w' ⟨C, k, h1, h2, h3⟩; exact ⟨C, k, h1, hidb h2, hidb h3⟩))
            clear kf2
            clear HFR HALL HLAY hF hA hbf h4 hY hF2 hwdo hgood

            go_enter Tryz.func9, Tryz.ntmps9
            go_wp2_with (first
              | (go_at_call 20; (with_reducible refine (m1 _).mono ?_); rintro e w1 ⟨rfl, hb1⟩; have G1 := hidb hb1; clear m1)
              | (go_at_call 21; (with_reducible refine (m2 _).mono ?_); rintro e w2 ⟨rfl, rfl⟩)
              | (go_at_call 20; (with_reducible refine (m3 _).mono ?_); rintro e w3 ⟨rfl, hb3⟩; have G3 := hidb (belF_tr G1.out hb3); obtain ⟨q0, q1, q2, _⟩ := (HSTEP.out _ G3.out).2)
              | (go_at_call 22; (with_reducible refine (KF.out _ G3.out).mono ?_); rintro e w4 ⟨C, kC, rfl, hL, hb4⟩; have G4 := hidb (belF_tr G3.out hb4.out); clear KF)
              | (go_at_call 23; (with_reducible refine (KA.out _ _ _ G4.out hL.out).mono ?_); rintro e w5 ⟨C2, kC2, zs, rfl, hV, hR, hb5⟩; have G5 := hidb (belF_tr G4.out hb5.out); have hL5 := hidb (hL.out.step hb5.out); obtain ⟨u0, u1, u2, _⟩ := (HSTEP.out _ G5.out).2)
              | (go_at_call 24; (with_reducible refine (KFIT _).mono ?_); rintro e w6 ⟨rfl, hb6⟩; have G6 := hidb (belF_tr G5.out hb6); have hL6 := hidb (hL5.out.step hb6); have hV6 := hidb (hV.out.step hb6); clear hL hL5 hV))
            have HF0 := hidb (own_empty w6 w6.heap.size 3 1 (Nat.le_refl _))
            have HB60 := hidb (belF_al (Below.refl w6.heap.size w6) (.cells #[] 3))
            clear x0 x1 x2 y0 y1 y2 z0 z1 z2 q0 q1 q2 u0 u1 u2
            go_loopw [94, 18, 17] (fun v94 _ v17 wr => ∃ (j : Nat) (F : Option Addr) (kF : Nat), j ≤ L.length ∧ v94 = .int .i64 j ∧ v17 = .slice F j kF ∧ Hid (wr.ownsRow w6.heap.size 3 1 (.slice F j kF) j (((L.map FrV.fn).take j).map iv)) ∧ Hid (Below w6.heap.size w6 wr)) (fun v94 _ _ _ => (L.length - intOf v94).toNat)
            case atStart => exact ⟨0, _, _, by omega, rfl, rfl, HF0, HB60⟩
            case round =>
              obtain ⟨j, F, kF, hj, rfl, rfl, HOF, HBF⟩ := hrel
              by_cases hlt : j < L.length
              · obtain ⟨b, off, x, rfl, hbl, hxx, hc0, hc1, hc2⟩ := (hL6.out.step HBF.out).at_ hlt
                obtain ⟨xa, xf, xl⟩ := x
                simp only at hc0 hc1 hc2
                have HTAKE : Hid (((L.map FrV.fn).take (j + 1)).map iv = ((L.map FrV.fn).take j).map iv ++ [.int .i64 xf]) := hidb (by
                  rw [List.take_add_one, List.getElem?_map, hxx, List.map_append]; rfl)
                have hsz6 := HBF.out.size
                have hj9 : j < 65536 := by have := HLLEN.out; omega
                have hlt' : (j : Int) < (L.length : Int) := by omega
                have hj0 : (0 : Int) ≤ (j : Int) := by omega
                clear hxx hc0 hc2
                --@9
                go_wp2_with (at_builtin; refine wpList_append_one wr rfl _ _ 69 rfl w6.heap.size 3 ix (.int .i64 0) 8 Tryz.underlying69 hiX hy0 hy1 hy2 rfl _ _ _ rfl (by exact HOF.out) hsz6 (.int .i64 xf) rfl _ rfl (by unfold maxLen; omega) (by omega) ?_; intro v1 w7 hown7 hb7; have HO7 := hidb hown7; have HB7 := hidb (HBF.out.trans hb7); clear hown7 hb7)
                go_roundw
                case rel =>
                  obtain ⟨F7, k7, rfl⟩ := own_form2 HO7.out
                  exact ⟨j + 1, F7, k7, by omega, by go_num, rfl, by rw [HTAKE.out]; exact HO7, HB7⟩
                case measure => simp [intOf]; omega
              · obtain rfl : j = L.length := by omega
                obtain ⟨wo, rfl⟩ : ∃ wo : World, wo = wr := ⟨_, rfl⟩
                have HFS : Hid (Sl wo wo.heap.size F L.length ((L.map FrV.fn).map iv)) := hidb (by
                  have h9 := Sl.of_own HOF.out
                  rw [List.take_of_length_le (by simp)] at h9
                  exact h9)
                have GO := hidb (belF_tr G6.out HBF.out)
                have KY := KLAY.out wo F kF GO.out HFS.out
                cases ok with
                | false =>
                  have EQ : Hid (mvTo xs (vals ys) ⟨sl, ss, sp⟩ lo size = (xs, st0, 9)) := hidb (by rw [HMV.out, if_pos rfl])
                  clear HMV
                  --@10
                  go_wp2_with (first
                    | (go_at_call 25; (with_reducible refine KY.mono ?_); rintro e w8 ⟨B8, k8, rfl, hs8, hB8, hb8⟩; have G8 := hidb (belF_al (belF_tr GO.out hb8.out) (.cells #[.int .i64 lo, .int .i64 size, .int .i64 osp] 25)); obtain ⟨W8, hW8⟩ : ∃ W8, W8 = w8.alloc (.cells #[.int .i64 lo, .int .i64 size, .int .i64 osp] 25) := ⟨_, rfl⟩))
                  rw [← hW8] at G8 ⊢
                  obtain ⟨x0, x1, x2, y0, y1, y2, z0, z1, z2, ff, _⟩ := (HSTEP.out _ G8.out).2
                  have f0 := ff 0
                  have f1 := ff 1
                  have f2 := ff 2
                  have PF := hidb (HSAME.out W8 9 (HSTEP.out _ G8.out).1 EQ.out)
                  clear ff hW8
                  go_wp2
                  go_region
                  obtain ⟨t0, t1, t2⟩ := three_cells W8 (w.heap.size + 1) (.int .i64 0) (.int .i64 0) (.int .i64 0) _ _ _ y0 y1 y2
                  all_goals go_wp2
                  all_goals exact bodyPost_ret (v := .tuple #[.slice A n c, .agg #[.int .i64 0, .int .i64 0, .int .i64 0], .int .i64 9]) (by simp [results, Tryz.results9, go_sem, t0, t1, t2]) rfl PF.out
                | true =>
                  go_wp2_with (first
                    | (go_at_call 25; (with_reducible refine KY.mono ?_); rintro e w8 ⟨B8, k8, rfl, hs8, hB8, hb8⟩; have G8 := hidb (belF_al (belF_tr GO.out hb8.out) (.cells #[.int .i64 lo, .int .i64 size, .int .i64 osp] 25)); have hs8' := hidb ((hs8.out.below (belF_al (Below.refl _ _) (.cells #[.int .i64 lo, .int .i64 size, .int .i64 osp] 25))).more (belF_al (Below.refl w8.heap.size w8) (.cells #[.int .i64 lo, .int .i64 size, .int .i64 osp] 25)).size); have KF3 := KF2.out _ B8 k8 G8.out hs8'.out)
                    | (go_at_call 22; (with_reducible refine KF3.mono ?_); rintro e w9 ⟨C9, k9, rfl, hL9, hb9⟩; have HX8 : Hid (∀ W, Below w9.heap.size w9 W → W.cell? ⟨w8.heap.size, 0, none⟩ = some (.int .i64 lo) ∧ W.cell? ⟨w8.heap.size, 1, none⟩ = some (.int .i64 size) ∧ W.cell? ⟨w8.heap.size, 2, none⟩ = some (.int .i64 osp)) := hidb (fun W hb => ⟨((belF_tr hb9.out hb).cell (by simp)).trans (by simp), ((belF_tr hb9.out hb).cell (by simp)).trans (by simp), ((belF_tr hb9.out hb).cell (by simp)).trans (by simp)⟩); have G9 := hidb (belF_tr G8.out hb9.out); have B69 : Hid (Below w6.heap.size w6 w9) := hidb (belF_tr (belF_al (belF_tr HBF.out hb8.out) (.cells #[.int .i64 lo, .int .i64 size, .int .i64 osp] 25)) hb9.out); have hs9 := hidb ((hs8'.out.below hb9.out).more hb9.out.size)))
                  have hV9 := hidb (hV6.out.step B69.out)
                  have HAT : Hid (∀ (d : Nat) (z : VlS), zs[d]? = some z → Rv[d]? = some z.vs ∧ ∀ v ∈ z.vs, v.kind < 256 ∧ v.bits < 18446744073709551616) := hidb (fun d z hz => by
                    have h9 : Rv[d]? = some z.vs := by rw [← hR.out]; unfold vvals; rw [List.getElem?_map, hz]; rfl
                    exact ⟨h9, HGOOD.out _ (List.mem_of_getElem? h9)⟩)
                  have HRL : Hid (Rv.length ≤ 1000000) := hidb (by
                    have h9 := slAllAux_count (xs := xs) (l := vals ys) (L := L) L 0 []
                    rw [show slAllAux xs (vals ys) L 0 L [] = (Rv, 0) from HRV.out] at h9
                    have := HLLEN.out
                    simp only [List.length_nil] at h9
                    omega)
                  clear KF3
                  go_loopw [129, 24, 19, 25] (fun v129 _ v19 _ wr => ∃ (d : Nat) (us : List Nat) (B : Option Addr) (k : Nat), d ≤ Rv.length ∧ v129 = .int .i64 d ∧ v19 = .slice B n k ∧ Hid (Sl wr wr.heap.size B n (us.map wv)) ∧ Hid (B = none → k = 0) ∧ Hid (Below w9.heap.size w9 wr) ∧ Hid (mvRows (vals ys) L2 d (Rv.drop d) us = mvRows (vals ys) L2 0 Rv ous)) (fun v129 _ _ _ _ => (Rv.length - intOf v129).toNat)
                  case atStart => exact ⟨0, ous, B8, k8, by omega, rfl, rfl, hs9, hB8, hidb (Below.refl _ _), hidb rfl⟩
                  case round =>
                    obtain ⟨d, us, B, k, hd, rfl, rfl, HU, HBN, HB9, HMR⟩ := hrel
                    obtain ⟨wp, rfl⟩ : ∃ wp : World, wp = wr := ⟨_, rfl⟩
                    by_cases hltd : d < Rv.length
                    · obtain ⟨b2, off2, z, rfl, hbl2, hzz, hcz, hvr⟩ := (hV9.out.step HB9.out).at_ hltd
                      obtain ⟨hrv, hzg⟩ := HAT.out d z hzz
                      obtain ⟨zA, zn, zc, zvs⟩ := z
                      simp only at hcz hvr hrv hzg
                      have HVR := hidb hvr
                      have HZG := hidb hzg
                      have HNXT := hidb (mvRows_at (l := vals ys) (L := L2) (xs := us) hrv)
                      have HCZ : Hid (∀ W, Below wp.heap.size wp W → W.cell? ⟨b2, off2 + d, none⟩ = some (.slice zA zn zc)) := hidb (fun W hb => (hb.cell (p := ⟨b2, off2 + d, none⟩) hbl2).trans hcz)
                      have hltd' : (d : Int) < (Rv.length : Int) := by omega
                      have hd0 : (0 : Int) ≤ (d : Int) := by omega
                      have hzl := hvr.len
                      have HZL := hidb hzl
                      have hzn : zn ≤ 1000000 := by have := HZN.out d zvs hrv; omega
                      have HBP := hidb (Below.refl wp.heap.size wp)
                      have hd9 : d ≤ 1000000 := by have := HRL.out; omega
                      clear hzz hvr hrv hzg hzl
                      go_wp2
                      go_loopw [137, 25, 19] (fun v137 _ v19 wq => ∃ (i : Nat) (vs2 : List Nat) (B2 : Option Addr) (k2 : Nat), i ≤ zn ∧ v137 = .int .i64 i ∧ v19 = .slice B2 n k2 ∧ Hid (Sl wq wq.heap.size B2 n (vs2.map wv)) ∧ Hid (B2 = none → k2 = 0) ∧ Hid (Below wp.heap.size wp wq) ∧ Hid (mvRow (vals ys) L2 d i (zvs.drop i) vs2 = mvRow (vals ys) L2 d 0 zvs us)) (fun v137 _ _ _ => (zn - intOf v137).toNat)
                      case atStart => exact ⟨0, us, B, k, by omega, rfl, rfl, HU, HBN, HBP, hidb rfl⟩
                      case round =>
                        obtain ⟨i, vs2, B2, k2, hiz, rfl, rfl, HU2, HBN2, HBQ, HMQ⟩ := hrel
                        by_cases hlti : i < zn
                        · obtain ⟨b3, off3, v, rfl, hbl3, hvv, hv0, hv1, hv2, hv3⟩ := (HVR.out.step HBQ.out).at_ hlti
                          have hq0 := HCZ.out _ HBQ.out
                          obtain ⟨gk, gb⟩ := HZG.out v (List.mem_of_getElem? hvv)
                          have HST := hidb (mvRow_at (l := vals ys) (L := L2) (d := d) (xs := vs2) hvv)
                          have GQ := hidb (HSTEP.out _ (belF_tr (belF_tr G9.out HB9.out) HBQ.out)).1
                          have kput := HPUT.out wr B2 k2 vs2 C9 k9 L2.length L2 (d : Int) (i : Int) v GQ.out HU2.out HBN2.out (hL9.out.step (belF_tr HB9.out HBQ.out)) (by omega) (by unfold in64; omega) gk gb
                          obtain ⟨vk, vb, vd, vi⟩ := v
                          unfold vlC at kput
                          simp only at hv0 hv1 hv2 hv3 kput
                          have KPUT : Hid (Calls Tryz.prog 26 #[.slice B2 n k2, .slice A2 n2 c2, .slice C9 L2.length k9, .int .i64 (d : Int), .int .i64 (i : Int), .agg #[.int .u8 (vk : Int), .int .u64 (vb : Int), .int .i64 vd, .int .i64 vi]] wr fun e w' => ∃ D q no, e = .returned (.tuple #[.slice D n q, .int .i64 no]) ∧ Hid (Sl w' w'.heap.size D n ((slPut vs2 (vals ys) L2 d i ⟨vk, vb, vd, vi⟩).1.map wv)) ∧ Hid (D = none → q = 0) ∧ Hid (Below wr.heap.size wr w')) := hidb (Calls.mono kput (by rintro e w' ⟨D, q, h1, h2, h3, h4⟩; exact ⟨D, q, _, h1, hidb h2, hidb h3, hidb h4⟩))
                          have hlti' : (i : Int) < (zn : Int) := by omega
                          have hi0 : (0 : Int) ≤ (i : Int) := by omega
                          clear hvv kput gk gb
                          --@12
                          go_wp2_with (first
                            | (go_at_call 26; (with_reducible refine KPUT.out.mono ?_); rintro e w10 ⟨D, q, no, rfl, hs10, hq10, hb10⟩))
                          go_roundw
                          case rel => exact ⟨i + 1, _, D, q, by omega, by go_num, rfl, hs10, hq10, hidb (belF_tr HBQ.out hb10.out), hidb (HST.out.symm.trans HMQ.out)⟩
                          case measure => simp [intOf]; omega
                        · obtain rfl : i = zn := by omega
                          have HN2 : Hid (mvRows (vals ys) L2 (d + 1) (Rv.drop (d + 1)) vs2 = mvRows (vals ys) L2 0 Rv ous) := hidb (by
                            have h9 := HMQ.out
                            rw [List.drop_of_length_le (by rw [HZL.out]; exact Nat.le_refl _)] at h9
                            rw [← HMR.out, HNXT.out, ← h9]; rfl)
                          --@13
                          go_wp2
                          go_roundw
                          case rel => exact ⟨d + 1, vs2, B2, k2, by omega, by go_num, rfl, HU2, HBN2, hidb (belF_tr HB9.out HBQ.out), HN2⟩
                          case measure => simp [intOf]; omega
                    · obtain rfl : d = Rv.length := by omega
                      have GF := hidb (belF_tr G9.out HB9.out)
                      have HEQ : Hid (mvTo xs (vals ys) ⟨sl, ss, sp⟩ lo size = (us, ⟨lo, size, osp⟩, 0)) := hidb (by
                        have h9 := HMR.out
                        rw [List.drop_of_length_le (Nat.le_refl _)] at h9
                        rw [HMV.out, if_neg (by simp), ← h9]; rfl)
                      have PFIN : Hid (ResT w n (mvTo xs (vals ys) ⟨sl, ss, sp⟩ lo size) (.returned (.tuple #[.slice B n k, .agg #[.int .i64 lo, .int .i64 size, .int .i64 osp], .int .i64 0])) ((((wp.setCell ⟨w.heap.size + 1, 0, none⟩ (.int .i64 lo)).setCell ⟨w.heap.size + 1, 1, none⟩ (.int .i64 size)).setCell ⟨w.heap.size + 1, 2, none⟩ (.int .i64 osp)).drew)) := hidb (by
                        rw [HEQ.out]
                        obtain ⟨hbw, ht3⟩ := HSTEP.out _ GF.out
                        have hap := apart_words ht3.rb HU.out h0
                        have h3 := ((HU.out.asideL (p := ⟨w.heap.size + 1, 0, none⟩) hap (.int .i64 lo)).asideL (p := ⟨w.heap.size + 1, 1, none⟩) hap (.int .i64 size)).asideL (p := ⟨w.heap.size + 1, 2, none⟩) hap (.int .i64 osp)
                        have e : ((((wp.setCell ⟨w.heap.size + 1, 0, none⟩ (.int .i64 lo)).setCell ⟨w.heap.size + 1, 1, none⟩ (.int .i64 size)).setCell ⟨w.heap.size + 1, 2, none⟩ (.int .i64 osp)).drew).heap.size = wp.heap.size := by simp
                        exact ⟨B, k, rfl, by rw [e]; exact h3, HBN.out, (bel_set3 hbw (by omega) _ _ _).drew⟩)
                      obtain ⟨x0, x1, x2, y0, y1, y2, z0, z1, z2, ff, _⟩ := (HSTEP.out _ GF.out).2
                      obtain ⟨p0, p1, p2⟩ := HX8.out _ HB9.out
                      have f0 := ff 0
                      have f1 := ff 1
                      have f2 := ff 2
                      clear ff
                      --@14
                      go_wp2
                      go_region
                      obtain ⟨t0, t1, t2⟩ := three_cells wp (w.heap.size + 1) (.int .i64 lo) (.int .i64 size) (.int .i64 osp) _ _ _ y0 y1 y2
                      all_goals go_wp2
                      all_goals exact bodyPost_ret (v := .tuple #[.slice B n k, .agg #[.int .i64 lo, .int .i64 size, .int .i64 osp], .int .i64 0]) (by simp [results, Tryz.results9, go_sem, t0, t1, t2]) rfl PFIN.out
      · have EQ := hidb (show mvTo xs (vals ys) ⟨sl, ss, sp⟩ lo size = (xs, st0, 9) by unfold mvTo; rw [if_neg HC.out, hF, if_neg (by simp)]; simp only; rw [hA, if_pos h2])
        have h2b : (e2 != 0) = true := by simpa using h2
        clear HFR HALL HLAY HPUT hF hA
        --@5
        go_enter Tryz.func9, Tryz.ntmps9
        go_wp2_with (first
          | (go_at_call 20; (with_reducible refine (m1 _).mono ?_); rintro e w1 ⟨rfl, hb1⟩; have G1 := hidb hb1; clear m1)
          | (go_at_call 21; (with_reducible refine (m2 _).mono ?_); rintro e w2 ⟨rfl, rfl⟩)
          | (go_at_call 20; (with_reducible refine (m3 _).mono ?_); rintro e w3 ⟨rfl, hb3⟩; have G3 := hidb (belF_tr G1.out hb3); obtain ⟨q0, q1, q2, _⟩ := (HSTEP.out _ G3.out).2)
          | (go_at_call 22; (with_reducible refine (KF.out _ G3.out).mono ?_); rintro e w4 ⟨C, kC, rfl, hL, hb4⟩; have G4 := hidb (belF_tr G3.out hb4.out); clear KF)
          | (go_at_call 23; (with_reducible refine (KA.out _ _ _ G4.out hL.out).mono ?_); rintro e w5 ⟨C2, kC2, zs, rfl, hV, hR, hb5⟩; have G5 := hidb (belF_tr G4.out hb5.out); have hL5 := hidb (hL.out.step hb5.out); obtain ⟨u0, u1, u2, _⟩ := (HSTEP.out _ G5.out).2))
        obtain ⟨x0, x1, x2, y0, y1, y2, z0, z1, z2, ff, _⟩ := (HSTEP.out _ G5.out).2
        have f0 := ff 0
        have f1 := ff 1
        have f2 := ff 2
        have PF := hidb (HSAME.out w5 9 (HSTEP.out _ G5.out).1 EQ.out)
        clear ff
        go_wp2
        go_region
        obtain ⟨t0, t1, t2⟩ := three_cells w5 (w.heap.size + 1) (.int .i64 0) (.int .i64 0) (.int .i64 0) _ _ _ y0 y1 y2
        all_goals go_wp2
        all_goals exact bodyPost_ret (v := .tuple #[.slice A n c, .agg #[.int .i64 0, .int .i64 0, .int .i64 0], .int .i64 9]) (by simp [results, Tryz.results9, go_sem, t0, t1, t2]) rfl PF.out
    · have EQ := hidb (show mvTo xs (vals ys) ⟨sl, ss, sp⟩ lo size = (xs, st0, 9) by unfold mvTo; rw [if_neg HC.out, hF, if_pos h1])
      have h1b : (e1 != 0) = true := by simpa using h1
      clear HFR HALL HLAY HPUT hF
      --@4
      go_enter Tryz.func9, Tryz.ntmps9
      go_wp2_with (first
        | (go_at_call 20; (with_reducible refine (m1 _).mono ?_); rintro e w1 ⟨rfl, hb1⟩; have G1 := hidb hb1; clear m1)
        | (go_at_call 21; (with_reducible refine (m2 _).mono ?_); rintro e w2 ⟨rfl, rfl⟩)
        | (go_at_call 20; (with_reducible refine (m3 _).mono ?_); rintro e w3 ⟨rfl, hb3⟩; have G3 := hidb (belF_tr G1.out hb3); obtain ⟨q0, q1, q2, _⟩ := (HSTEP.out _ G3.out).2)
        | (go_at_call 22; (with_reducible refine (KF.out _ G3.out).mono ?_); rintro e w4 ⟨C, kC, rfl, hL, hb4⟩; have G4 := hidb (belF_tr G3.out hb4.out)))
      obtain ⟨x0, x1, x2, y0, y1, y2, z0, z1, z2, ff, _⟩ := (HSTEP.out _ G4.out).2
      have f0 := ff 0
      have f1 := ff 1
      have f2 := ff 2
      have PF := hidb (HSAME.out w4 9 (HSTEP.out _ G4.out).1 EQ.out)
      clear ff
      go_wp2
      go_region
      obtain ⟨t0, t1, t2⟩ := three_cells w4 (w.heap.size + 1) (.int .i64 0) (.int .i64 0) (.int .i64 0) _ _ _ y0 y1 y2
      all_goals go_wp2
      all_goals exact bodyPost_ret (v := .tuple #[.slice A n c, .agg #[.int .i64 0, .int .i64 0, .int .i64 0], .int .i64 9]) (by simp [results, Tryz.results9, go_sem, t0, t1, t2]) rfl PF.out
end Go.Proofs.YtlniakcoikhilaaGreatDoor
