/- What slices.Reverse does to a row of numbers of the call's own; what add of a pool does. -/
import Derived.Test.YtcgfmpegakpddaaGreatPoolSpec
import Derived.Test.YtcgfmpegakpddaaGreatShelf3
import Derived.Deep.Cut
import Derived.Deep.CutRange
import Derived.Deep.RegionLaw
namespace Go.Proofs.YtcgfmpegakpddaaGreat
open Go.RowKit Go.Maps Go.Sort
set_option linter.unusedVariables false

theorem code_preverse (g n c : Nat) (zs : List Int) (w : World) (base : Nat) (hown : w.ownsRow base 3 1 (.slice (some ⟨g, 0, none⟩) n c) n (zs.map iv)) (hl : zs.length = n) (hn : n ≤ 131072) :
    Calls Tryz.prog 132 #[.slice (some ⟨g, 0, none⟩) n c] w fun e w' => e = .returned (.tuple #[]) ∧ w'.ownsRow base 3 1 (.slice (some ⟨g, 0, none⟩) n c) n (zs.reverse.map iv) ∧ w.grownBy w' (some g) := by
  obtain ⟨L, hL, hbg, hnc, hcm, hLl, hxs⟩ := own_whole hown
  rw [Nat.mul_one] at hLl hxs
  have hH : Holds (Value.int .i64) w g 0 zs.toArray := holds_rw1 (Value.int .i64) hL zs.toArray (by rw [show zs.toArray.size = n by simpa using hl, ← hxs]; show zs.map iv = zs.map (Value.int .i64); rfl)
  have h := Tryz.slices_Reverse_int g 0 c zs w hH (by omega)
  rw [hl] at h
  refine h.mono ?_
  rintro e w' ⟨he, q, rfl⟩
  obtain ⟨r1, r2⟩ := put_rw1 (Value.int .i64) hL q zs.reverse.toArray #[] (by simp; omega)
  have e1 : sortWorld (Value.int .i64) w g 0 q zs.reverse.toArray #[] = putRow (Value.int .i64) (Sort.ahead w q) g 0 zs.reverse.toArray := by unfold sortWorld; rw [grow_empty]
  rw [e1] at r1 r2
  refine ⟨he, ?_, r2⟩
  have h2 := own_of_whole (base := base) (s := 1) (n := n) (c := c) r1 hbg hnc hcm (by simp; omega)
  rw [Nat.mul_one, List.take_left' (by simp [hl])] at h2
  exact h2

theorem own_some {w : World} {base n c : Nat} {e : TypeId} {A : Option Addr} {xs : List Value} (h : w.ownsRow base e 1 (.slice A n c) n xs) (hn : 0 < n) : ∃ g, A = some ⟨g, 0, none⟩ ∧ base ≤ g ∧ g < w.heap.size := by
  have hlt := h.lt
  rcases h.2 with ⟨_, h0⟩ | ⟨g, cap, cur, h1, h2, _⟩
  · omega
  · injection h1 with h1
    subst h1
    exact ⟨g, rfl, h2, (hlt g rfl).2⟩
theorem CutAt.setC {w : World} {c : CutV} (hc : CutAt w c) (h' l' : Int) (l : List Int) : CutAt ((w.setCell ⟨c.b, 4, none⟩ (.int .i64 h')).setCell ⟨c.b, 5, none⟩ (.int .i64 l')) { c with c := (h', l'), l := l } := by
  have q : ∀ (X : World) (i j : Nat) (u : Value), i ≠ j → (X.setCell ⟨c.b, i, none⟩ u).cell? ⟨c.b, j, none⟩ = X.cell? ⟨c.b, j, none⟩ := fun X i j u h => World.cell?_setCell_other X _ _ _ (fun e => h (by injection e))
  refine ⟨?_, ?_, ?_, ?_, ?_, ?_, fun j => by rw [World.frozen?_setCell, World.frozen?_setCell]; exact hc.fz j⟩
  · show World.cell? _ ⟨c.b, 0, none⟩ = _; rw [q _ 5 0 _ (by decide), q _ 4 0 _ (by decide)]; exact hc.c0
  · show World.cell? _ ⟨c.b, 1, none⟩ = _; rw [q _ 5 1 _ (by decide), q _ 4 1 _ (by decide)]; exact hc.c1
  · show World.cell? _ ⟨c.b, 2, none⟩ = _; rw [q _ 5 2 _ (by decide), q _ 4 2 _ (by decide)]; exact hc.c2
  · show World.cell? _ ⟨c.b, 3, none⟩ = _; rw [q _ 5 3 _ (by decide), q _ 4 3 _ (by decide)]; exact hc.c3
  · show World.cell? _ ⟨c.b, 4, none⟩ = _; rw [q _ 5 4 _ (by decide)]; exact World.cell?_setCell_same w _ _ hc.c4
  · show World.cell? _ ⟨c.b, 5, none⟩ = _; exact World.cell?_setCell_same _ _ _ (by rw [q _ 4 5 _ (by decide)]; exact hc.c5)

/-- A cut span under way, beside a pool. -/
structure AddSt (w W : World) (Sh S2 : Nat → Prop) (p hp ap g mb n m : Nat) (D : DataW Unit) (ks : List CutV) (v : PoolW) (k : CutV) : Prop where
  pl : PlAt W S2 p hp ap g mb n m D v
  cut : CutAt W k
  new : ¬ PlS S2 p ap g mb v.ks k.b
  low : w.heap.size ≤ k.b
  kept : Kept (PlS Sh p ap g mb ks) w W
  sub : ∀ b, PlS S2 p ap g mb v.ks b → PlS Sh p ap g mb ks b ∨ w.heap.size ≤ b
  base : PlS Sh p ap g mb ks g ∧ PlS Sh p ap g mb ks mb
section
variable {w W W' : World} {Sh S2 : Nat → Prop} {p hp ap g mb n m : Nat} {D : DataW Unit} {ks : List CutV} {v : PoolW} {k : CutV}
theorem AddSt.below (h : AddSt w W Sh S2 p hp ap g mb n m D ks v k) (hb : Below W.heap.size W W') : AddSt w W' Sh S2 p hp ap g mb n m D ks v k :=
  ⟨h.pl.below hb, h.cut.below hb, h.new, h.low, h.kept.trans (Kept.of_below hb (fun _ => False)) (fun _ _ c => c.elim), h.sub, h.base⟩
theorem AddSt.grownNew (h : AddSt w W Sh S2 p hp ap g mb n m D ks v k) {q : Nat} (hg : W.grownBy W' (some q)) (hq : ¬ PlS S2 p ap g mb v.ks q) (hk : q ≠ k.b) (hw : w.heap.size ≤ q) : AddSt w W' Sh S2 p hp ap g mb n m D ks v k := by
  have hK : Kept (fun b => b = q) W W' := (Kept.refl _ W).grown hg (fun b e => by injection e with e; exact Or.inl e.symm)
  exact ⟨h.pl.keep hK (fun b hb e => hq (e ▸ hb)), h.cut.keep (hg.block _ h.cut.lt (fun e => hk (by injection e with e; exact e.symm))), h.new, h.low, h.kept.trans hK (fun b hb e => by omega), h.sub, h.base⟩
theorem AddSt.words (h : AddSt w W Sh S2 p hp ap g mb n m D ks v k) {ws' : List Nat} (hg : W.grownBy W' (some g)) (ha : Ar W' 0 ap g n ws') : AddSt w W' Sh S2 p hp ap g mb n m D ks { v with ws := ws' } k := by
  have hne : k.b ≠ g := fun e => h.new (by rw [e]; unfold PlS; simp)
  have hK : Kept (fun b => b = g) W W' := (Kept.refl _ W).grown hg (fun b e => by injection e with e; exact Or.inl e.symm)
  exact ⟨h.pl.words hg ha, h.cut.keep (hg.block _ h.cut.lt (fun e => hne (by injection e))), h.new, h.low, h.kept.trans hK (fun b hb e => by subst e; exact h.base.1), h.sub, h.base⟩
theorem AddSt.set (h : AddSt w W Sh S2 p hp ap g mb n m D ks v k) (h' l' : Int) (l : List Int) : AddSt w ((W.setCell ⟨k.b, 4, none⟩ (.int .i64 h')).setCell ⟨k.b, 5, none⟩ (.int .i64 l')) Sh S2 p hp ap g mb n m D ks v { k with c := (h', l'), l := l } := by
  have hK : Kept (fun b => b = k.b) W ((W.setCell ⟨k.b, 4, none⟩ (.int .i64 h')).setCell ⟨k.b, 5, none⟩ (.int .i64 l')) := ((Kept.refl (fun b => b = k.b) W).set (a := ⟨k.b, 4, none⟩) (Or.inl rfl) _).set (a := ⟨k.b, 5, none⟩) (Or.inl rfl) _
  have hl := h.low
  exact ⟨h.pl.keep hK (fun b hb e => h.new (e ▸ hb)), h.cut.setC h' l' l, h.new, h.low, h.kept.trans hK (fun b hb e => by subst e; omega), h.sub, h.base⟩
/-- It is put in the map. -/
theorem AddSt.put (h : AddSt w W Sh S2 p hp ap g mb n m D ks v k) {m' : Nat} {D' : DataW Unit} (hg : W.grownBy W' (some mb)) (hm : W'.ownsMap Tryz.prog 3 ptrR mb m' D') (hi : PIs D' (v.ks ++ [k])) (o : PlOk n m' { v with ks := v.ks ++ [k] }) : Went w Sh p hp ap g mb n ks W' { v with ks := v.ks ++ [k] } := by
  have hn : k.b ≠ p ∧ k.b ≠ ap ∧ k.b ≠ g ∧ k.b ≠ mb ∧ ¬ S2 k.b := by
    refine ⟨fun e => h.new ?_, fun e => h.new ?_, fun e => h.new ?_, fun e => h.new ?_, fun e => h.new (Or.inl e)⟩ <;> (rw [e]; unfold PlS; simp)
  have hK : Kept (fun b => b = mb) W W' := (Kept.refl _ W).grown hg (fun b e => by injection e with e; exact Or.inl e.symm)
  refine ⟨S2, m', D', h.pl.map_ hg hm hi (fun c hc => ?_) ?_, o, h.kept.trans hK (fun b hb e => by subst e; exact h.base.2), fun b hb => ?_⟩
  · rcases List.mem_append.1 hc with hc | hc
    · exact ⟨h.pl.cuts c hc, h.pl.nk c hc⟩
    · obtain rfl := List.mem_singleton.1 hc
      exact ⟨h.cut, hn⟩
  · rw [List.map_append]
    refine List.nodup_append.2 ⟨h.pl.nd, by simp, fun a ha b hb e => ?_⟩
    obtain rfl : b = k.b := by simpa using hb
    subst e
    obtain ⟨c, hc, e⟩ := List.mem_map.1 ha
    exact h.new (Or.inr (Or.inr (Or.inr (Or.inr (Or.inr ⟨c, hc, e⟩)))))
  · rcases hb with hb | hb | hb | hb | hb | ⟨c, hc, e⟩
    · exact h.sub b (Or.inl hb)
    · exact h.sub b (Or.inr (Or.inl hb))
    · exact h.sub b (Or.inr (Or.inr (Or.inl hb)))
    · exact h.sub b (Or.inr (Or.inr (Or.inr (Or.inl hb))))
    · exact h.sub b (Or.inr (Or.inr (Or.inr (Or.inr (Or.inl hb)))))
    · rcases List.mem_append.1 hc with hc | hc
      · exact h.sub b (Or.inr (Or.inr (Or.inr (Or.inr (Or.inr ⟨c, hc, e⟩)))))
      · obtain rfl := List.mem_singleton.1 hc
        exact Or.inr (e ▸ h.low)
end

/-- The pool behind add. -/
def addV (v : PoolW) (h' : HeapV) (ws' : List Nat) (b : Nat) (s : Int × Int × Int × Int) (c : Int × Int) : PoolW := ⟨h', ws', v.held, v.ks ++ [⟨b, s, c, pBlocks s⟩]⟩
/-- What add does. -/
def Added (w : World) (Sh : Nat → Prop) (p hp ap g mb n : Nat) (v : PoolW) (r : HeapV × (Int × Int × Int × Int) × Int) (e : Ending) (w' : World) : Prop :=
  (r.2.2 ≠ 0 ∧ e = .returned (.tuple #[.pointer none, .int .i64 r.2.2]) ∧ Went w Sh p hp ap g mb n v.ks w' v) ∨
  (r.2.2 = 0 ∧ ∃ b c ws', e = .returned (.tuple #[.pointer (some ⟨b, 0, none⟩), .int .i64 0]) ∧ Went w Sh p hp ap g mb n v.ks w' (addV v r.1 ws' b r.2.1 c) ∧ Stays v.ws ws' (· ∈ pBlocks r.2.1))

/-- What is added fits. -/
theorem PlOk.add {n m : Nat} {v : PoolW} (o : PlOk n m v) (k : HOk v.h) {order : Int} (ho : 0 ≤ order ∧ order ≤ 3) {r : Int × Int} (hb : fBest v.h.free 4 = some r) (hn : v.ws.length = n) (hn2 : n ≤ 65536) :
    ∃ h' s, hMake v.h 4 order = (h', s, 0) ∧ s.1 = v.h.last + 1 ∧ s.2.2.1 = 4 ∧ s.2.2.2 = order ∧ 0 ≤ s.2.1 ∧ s.2.1 ≤ 1024 ∧ HOk h' ∧ (∀ t ∈ v.ks, t.s.1 ≠ s.1) ∧ ∃ ws' c, cPush v.ws (0, 0) (pBlocks s).reverse = (ws', c, 0) ∧ (∀ x ∈ (pBlocks s).reverse, in64 x) ∧ ws'.length = n ∧ Stays v.ws ws' (· ∈ pBlocks s) ∧ ∀ b, PlOk n (m + 1) (addV v h' ws' b s c) := by
  obtain ⟨g, _, _, h3, e, k2⟩ := hMake_yes k (o := order) (by omega) hb
  have hs := k2.start (s := (v.h.last + 1, r.1, 4, order)) (List.mem_append_right _ (List.mem_singleton_self _))
  have hpg := k.p1
  simp only at hs
  have hid : ∀ t ∈ v.ks, t.s.1 ≠ v.h.last + 1 := fun t ht e2 => by have := k.idr t.s (o.mem t ht); omega
  have hold : ∀ t ∈ v.ks, t.s ∈ v.h.l ++ [(v.h.last + 1, r.1, 4, order)] := fun t ht => List.mem_append_left _ (o.mem t ht)
  have hnb : ∀ x ∈ pBlocks (v.h.last + 1, r.1, 4, order), 0 ≤ x ∧ x < (n : Int) ∧ ∀ t ∈ v.ks, x ∉ pBlocks t.s := fun x hx => by
    have h1 := blocks_in hx rfl ho
    have h2 := (pMany_16 order ho.1 ho.2).2.2.2
    simp only at h1
    have h4 := o.len
    refine ⟨by omega, by omega, fun t ht hxt => ?_⟩
    obtain ⟨f1, f2, f3⟩ := o.four t ht
    have e3 := k2.apart (hold t ht) (List.mem_append_right _ (List.mem_singleton_self _)) (blocks_page hxt f1 ⟨f2, f3⟩) (blocks_page hx rfl ho)
    exact hid t ht (by rw [e3])
  have hnd : (pBlocks (v.h.last + 1, r.1, 4, order)).Nodup := by
    unfold pBlocks
    refine List.pairwise_map.2 (List.Pairwise.imp (fun {a b} (h : a < b) e4 => ?_) List.pairwise_lt_range)
    have h1 : a * pSize order < b * pSize order := Nat.mul_lt_mul_of_pos_right h (pSize_pos order)
    simp only at e4
    omega
  have h0 : cList v.ws (0, 0) = some [] := cList_iff.2 ⟨rfl, List.nodup_nil, rfl⟩
  obtain ⟨ws', c, hp, hl, hlen, hw, hkeep⟩ := push_right h0 (m := (pBlocks (v.h.last + 1, r.1, 4, order)).reverse) (by rw [List.append_nil]; exact (List.reverse_perm _).nodup_iff.2 hnd) (fun x hx => by
    have := hnb x (List.mem_reverse.1 hx)
    rw [hn]; exact ⟨this.1, this.2.1⟩) o.wide (by rw [hn]; exact hn2)
  rw [List.reverse_reverse, List.append_nil] at hl
  refine ⟨_, _, e, rfl, rfl, rfl, by show 0 ≤ r.1; omega, by show r.1 ≤ 1024; omega, k2, hid, ws', c, hp, fun x hx => ?_, by rw [hlen, hn], fun c2 l2 h2 hn2 => hkeep c2 l2 h2 fun x hx hxl => hn2 x hxl (List.mem_reverse.1 hx), fun b => ?_⟩
  · have := hnb x (List.mem_reverse.1 hx)
    exact ⟨by omega, by omega⟩
  · refine ⟨o.len, hw, fun t ht => ?_, fun t ht => ?_, fun t ht => ?_, fun t ht => ?_, ?_, ?_⟩
    · rcases List.mem_append.1 ht with ht | ht
      · exact hold t ht
      · obtain rfl := List.mem_singleton.1 ht
        exact List.mem_append_right _ (List.mem_singleton_self _)
    · rcases List.mem_append.1 ht with ht | ht
      · exact o.four t ht
      · obtain rfl := List.mem_singleton.1 ht
        exact ⟨rfl, ho.1, ho.2⟩
    · rcases List.mem_append.1 ht with ht | ht
      · exact hkeep _ _ (o.lst t ht) fun x hx hxl => (hnb x (List.mem_reverse.1 hx)).2.2 t ht (o.sub t ht x hxl)
      · obtain rfl := List.mem_singleton.1 ht
        exact hl
    · rcases List.mem_append.1 ht with ht | ht
      · exact o.sub t ht
      · obtain rfl := List.mem_singleton.1 ht
        exact fun x hx => hx
    · show ((v.ks ++ [(⟨b, (v.h.last + 1, r.1, 4, order), c, pBlocks (v.h.last + 1, r.1, 4, order)⟩ : CutV)]).map (·.s.1)).Nodup
      rw [List.map_append]
      refine List.nodup_append.2 ⟨o.ids, by simp, fun a ha b' hb' e5 => ?_⟩
      obtain rfl : b' = v.h.last + 1 := by simpa using hb'
      subst e5
      obtain ⟨t, ht, e6⟩ := List.mem_map.1 ha
      exact hid t ht e6
    · have := o.cnt
      show ((m + 1 : Nat) : Int) ≤ v.h.last + 1
      omega

set_option maxRecDepth 100000 in
theorem code_padd {w : World} {Sh : Nat → Prop} {p hp ap g mb n m : Nat} {D : DataW Unit} {v : PoolW} (k : PlAt w Sh p hp ap g mb n m D v) (o : PlOk n m v) (order : Int) (ho : 0 ≤ order ∧ order ≤ 3) (hlb : v.h.last + 1 ≤ 1000000000) :
    Calls Tryz.prog 94 #[.pointer (some ⟨p, 0, none⟩), .int .i64 order] w (Added w Sh p hp ap g mb n v (hMake v.h 4 order)) := by
  have cp := code_pparts p (some ⟨hp, 0, none⟩) (some ⟨ap, 0, none⟩) (some mb) v.held w k.c0 k.c1 k.c2 k.c3
  have HM : Hid (∀ W, Below w.heap.size w W → Calls Tryz.prog 56 #[.pointer (some ⟨hp, 0, none⟩), .int .i64 4, .int .i64 order] W (MadeHp W Sh hp (hMake v.h 4 order))) := hidb (fun W hb => code_hmake (k.below hb).hp_ 4 order ⟨by omega, by omega⟩ ⟨by omega, by omega⟩ hlb)
  have HF := pfield_hp
  have HST : Hid (∀ w1 w2 h', Below w.heap.size w w1 → Kept Sh w1 w2 → Hp w2 (more Sh w1 w2) hp h' → PlAt w2 (more Sh w1 w2) p hp ap g mb n m D { v with h := h' } ∧ Kept (PlS Sh p ap g mb v.ks) w w2 ∧ ∀ b, PlS (more Sh w1 w2) p ap g mb v.ks b → PlS Sh p ap g mb v.ks b ∨ w.heap.size ≤ b) := hidb (fun w1 w2 h' hb hK hh => by
    refine ⟨(k.below hb).heap_ hK hh, (Kept.of_below hb (PlS Sh p ap g mb v.ks)).trans hK (fun b _ c => Or.inl c), fun b hb2 => ?_⟩
    rcases hb2 with h | h
    · rcases h.1 with h2 | h2
      · exact Or.inl (Or.inl h2)
      · exact Or.inr (Nat.le_trans hb.size h2)
    · exact Or.inl (Or.inr h))
  cases hb : fBest v.h.free 4 with
  | none =>
    have e : hMake v.h 4 order = (v.h, spanNone, 3) := hMake_full (by omega) hb
    rw [e] at HM ⊢
    have HE : Hid (∀ w1 w2 o2, Below w.heap.size w w1 → Kept Sh w1 w2 → Hp w2 (more Sh w1 w2) hp v.h → Added w Sh p hp ap g mb n v (v.h, spanNone, 3) (.returned (.tuple #[.pointer none, .int .i64 3])) (w2.alloc o2)) := hidb (fun w1 w2 o2 h1 h2 h3 => by
      obtain ⟨q1, q2, q3⟩ := HST.out w1 w2 v.h h1 h2 h3
      have hb2 : Below w2.heap.size w2 (w2.alloc o2) := (Below.refl _ _).alloc (Nat.le_refl _) _
      exact Or.inl ⟨by show (3 : Int) ≠ 0; decide, rfl, _, m, D, q1.below hb2, o, q2.trans (Kept.of_below hb2 (fun _ => False)) (fun _ _ c => c.elim), q3⟩)
    replace HM : Hid (∀ W, Below w.heap.size w W → Calls Tryz.prog 56 #[.pointer (some ⟨hp, 0, none⟩), .int .i64 4, .int .i64 order] W fun e w' => e = .returned (.tuple #[.agg #[.int .i64 0, .int .i64 0, .int .i64 0, .int .i64 0], .int .i64 3]) ∧ Hp w' (more Sh W w') hp v.h ∧ Kept Sh W w') := HM
    clear k o hb e HST hlb
    go_enter Tryz.func94, Tryz.ntmps94
    go_wp2_with (first
      | (go_at_call 112; (with_reducible refine cp.mono ?_); rintro e w1 ⟨rfl, hb1⟩)
      | (go_at_call 56; (with_reducible refine (HM.out _ hb1).mono ?_); rintro e w2 ⟨rfl, hh, hK⟩; have P := hidb (HE.out w1 w2 (.cells #[.int .i64 0, .int .i64 0, .int .i64 0, .int .i64 0] 49) hb1 hK hh)))
    go_ret2
    exact P.out
  | some r =>
    obtain ⟨h', s, e, hs1, hs2, hs3, hs4, hs5, hk', hnew, ws', c, hpush, hin, hlen, hstay, hok⟩ := o.add k.hp_.ok ho hb k.ar.hlen k.ar.small
    rw [e] at HM ⊢
    obtain ⟨s1, s2, s3, s4⟩ := s
    simp only at hs1 hs2 hs3 hs4 hs5
    subst hs2 hs3
    replace HM : Hid (∀ W, Below w.heap.size w W → Calls Tryz.prog 56 #[.pointer (some ⟨hp, 0, none⟩), .int .i64 4, .int .i64 s4] W fun e w' => e = .returned (.tuple #[.agg #[.int .i64 s1, .int .i64 s2, .int .i64 4, .int .i64 s4], .int .i64 0]) ∧ Hp w' (more Sh W w') hp h' ∧ Kept Sh W w') := HM
    have HS0 : Hid (∀ w1 w2 o2, Below w.heap.size w w1 → Kept Sh w1 w2 → Hp w2 (more Sh w1 w2) hp h' → ∃ S2, AddSt w ((w2.alloc o2).alloc (.cells #[.int .i64 s1, .int .i64 s2, .int .i64 4, .int .i64 s4, .int .i64 0, .int .i64 0] 113)) Sh S2 p hp ap g mb n m D v.ks { v with h := h' } ⟨w2.heap.size + 1, (s1, s2, 4, s4), (0, 0), []⟩) := hidb (fun w1 w2 o2 h1 h2 h3 => by
      obtain ⟨q1, q2, q3⟩ := HST.out w1 w2 h' h1 h2 h3
      have hb2 : Below w2.heap.size w2 (w2.alloc o2) := (Below.refl _ _).alloc (Nat.le_refl _) _
      have hb3 : Below w2.heap.size w2 ((w2.alloc o2).alloc (.cells #[.int .i64 s1, .int .i64 s2, .int .i64 4, .int .i64 s4, .int .i64 0, .int .i64 0] 113)) := hb2.alloc hb2.size _
      have hsz : (w2.alloc o2).heap.size = w2.heap.size + 1 := by simp
      refine ⟨_, q1.below hb3, ⟨?_, ?_, ?_, ?_, ?_, ?_, fun j => ?_⟩, fun hc => ?_, ?_, q2.trans (Kept.of_below hb3 (fun _ => False)) (fun _ _ c => c.elim), q3, ⟨by unfold PlS; simp, by unfold PlS; simp⟩⟩
      · show World.cell? _ ⟨w2.heap.size + 1, 0, none⟩ = _; rw [← hsz]; exact World.cell?_alloc_at _ _ _ 0 (by simp)
      · show World.cell? _ ⟨w2.heap.size + 1, 1, none⟩ = _; rw [← hsz]; exact World.cell?_alloc_at _ _ _ 1 (by simp)
      · show World.cell? _ ⟨w2.heap.size + 1, 2, none⟩ = _; rw [← hsz]; exact World.cell?_alloc_at _ _ _ 2 (by simp)
      · show World.cell? _ ⟨w2.heap.size + 1, 3, none⟩ = _; rw [← hsz]; exact World.cell?_alloc_at _ _ _ 3 (by simp)
      · show World.cell? _ ⟨w2.heap.size + 1, 4, none⟩ = _; rw [← hsz]; exact World.cell?_alloc_at _ _ _ 4 (by simp)
      · show World.cell? _ ⟨w2.heap.size + 1, 5, none⟩ = _; rw [← hsz]; exact World.cell?_alloc_at _ _ _ 5 (by simp)
      · simp
      · have := q1.lt _ hc
        simp only at this
        omega
      · have := q2.size
        show w.heap.size ≤ w2.heap.size + 1
        omega)
    have HPU : Hid (∀ W S2 b A d N, AddSt w W Sh S2 p hp ap g mb n m D v.ks { v with h := h' } ⟨b, (s1, s2, 4, s4), (0, 0), []⟩ → N = (pBlocks (s1, s2, 4, s4)).reverse.length → Sl W W.heap.size A N ((pBlocks (s1, s2, 4, s4)).reverse.map iv) → (∀ a, A = some a → w.heap.size ≤ a.block) → N ≤ 65536 → Calls Tryz.prog 105 #[.pointer (some ⟨ap, 0, none⟩), .agg #[.int .i64 0, .int .i64 0], .slice A N d] W fun e w' => e = .returned (.tuple #[.agg #[.int .i64 c.1, .int .i64 c.2], .int .i64 0]) ∧ AddSt w w' Sh S2 p hp ap g mb n m D v.ks { v with h := h', ws := ws' } ⟨b, (s1, s2, 4, s4), (0, 0), []⟩ ∧ W.grownBy w' (some g)) := hidb (fun W S2 b A d N hA hN hsl hnew2 hNs => by
      have hg := hA.pl.ar
      have hgl := k.ar.lt
      have := code_cpush hg 0 0 ⟨by omega, by omega⟩ ⟨by omega, by omega⟩ o.wide A N d _ hsl (fun _ a ha e => by have := hnew2 a ha; omega) hNs hin
      simp only at this
      rw [hpush] at this
      refine this.mono ?_
      rintro e w' ⟨rfl, ha, hg'⟩
      exact ⟨rfl, hA.words hg' ha, hg'⟩)
    have cb : ∀ W S2 b, AddSt w W Sh S2 p hp ap g mb n m D v.ks { v with h := h' } ⟨b, (s1, s2, 4, s4), (0, 0), []⟩ → Calls Tryz.prog 67 #[.pointer (some ⟨b, 0, none⟩)] W (OwnInts W (pBlocks (s1, s2, 4, s4))) := fun W S2 b hA => code_pblocks _ W hA.cut rfl hs4 hs5 ho.1 ho.2
    have HBL : Hid ((pBlocks (s1, s2, 4, s4)).length ≤ 16 ∧ 0 < (pBlocks (s1, s2, 4, s4)).length) := hidb (by
      rw [pBlocks_length]
      have := pMany_16 s4 ho.1 ho.2
      exact ⟨this.2.1, by show 0 < pMany 4 s4; omega⟩)
    have HS1 := hidb hs1
    have HIN1 : Hid (in64 s1) := hidb (by have := k.hp_.ok.la; rw [hs1]; exact ⟨by omega, by omega⟩)
    have HMM : Hid (m < maxLen) := hidb (by have := o.cnt; have := k.hp_.lb; unfold maxLen; omega)
    have HSTAY := hidb hstay
    clear hstay
    generalize hblk : pBlocks (s1, s2, 4, s4) = bl at HPU cb HBL
    have HBK := hidb hblk
    clear hb e HST hs1 hblk
    go_enter Tryz.func94, Tryz.ntmps94
    go_wp2_with (first
      | (go_at_call 112; (with_reducible refine cp.mono ?_); rintro e w1 ⟨rfl, hb1⟩)
      | (go_at_call 56; (with_reducible refine (HM.out _ hb1).mono ?_); rintro e w2 ⟨rfl, hh, hK⟩; obtain ⟨S2, hA0⟩ := HS0.out w1 w2 (.cells #[.int .i64 s1, .int .i64 s2, .int .i64 4, .int .i64 s4] 49) hb1 hK hh; have HA0 := hidb hA0; have ccb := cb _ _ _ hA0; clear hA0)
      | (go_at_call 67; (with_reducible refine ccb.mono ?_); rintro e w5 ⟨A, d, rfl, hown, hb5⟩; have HA5 := hidb (HA0.out.below hb5); obtain ⟨g5, rfl, hg5, hg5'⟩ := own_some hown HBL.out.2; have HG5 := hidb hg5; have cr := code_preverse g5 bl.length d bl w5 _ hown rfl (by have := HBL.out.1; omega); clear hown hb5)
      | (go_at_call 132; (with_reducible refine cr.mono ?_); rintro e w6 ⟨rfl, hown6, hg6⟩))
    have hlk := HA0.out.cut.lt
    have hg5l : w.heap.size ≤ g5 ∧ w2.heap.size + 1 < g5 := by
      have h1 := HG5.out
      have h2 := HA0.out.low
      simp only [World.size_alloc] at h1 h2
      omega
    have hqn : ¬ PlS S2 p ap g mb v.ks g5 := fun c => by have := HA0.out.pl.lt _ c; have := HG5.out; omega
    have hA6 := HA5.out.grownNew hg6 hqn (by show g5 ≠ w2.heap.size + 1; omega) hg5l.1
    have HA6 := hidb hA6
    have HSL : Hid (Sl w6 w6.heap.size (some ⟨g5, 0, none⟩) bl.length (bl.reverse.map iv)) := hidb (Sl.of_own hown6)
    have cpu : ∀ W, Below w6.heap.size w6 W → Calls Tryz.prog 105 #[.pointer (some ⟨ap, 0, none⟩), .agg #[.int .i64 0, .int .i64 0], .slice (some ⟨g5, 0, none⟩) bl.length d] W fun e w' => e = .returned (.tuple #[.agg #[.int .i64 c.1, .int .i64 c.2], .int .i64 0]) ∧ AddSt w w' Sh S2 p hp ap g mb n m D v.ks { v with h := h', ws := ws' } ⟨w2.heap.size + 1, (s1, s2, 4, s4), (0, 0), []⟩ ∧ W.grownBy w' (some g) := fun W hb => HPU.out W S2 _ _ d _ (HA6.out.below hb) (by rw [List.length_reverse]) ((HSL.out.below hb).more hb.size) (fun a ha => by
      injection ha with ha
      subst ha
      exact hg5l.1) (by have := HBL.out.1; omega)
    have c1 := hA6.pl.c1
    have d4 := hA6.cut.c4
    have d5 := hA6.cut.c5
    simp only at d4 d5
    clear hA6 hown6 hg6 hqn cr ccb HSL HA5 HG5 hlk hg5 hg5'
    go_cut [] from 28 to 43 (fun wx => AddSt w wx Sh S2 p hp ap g mb n m D v.ks { v with h := h', ws := ws' } ⟨w2.heap.size + 1, (s1, s2, 4, s4), c, bl⟩)
    case first =>
      go_region_law (first | (go_simp; go_at_call 105; (with_reducible refine (cpu _ (Below.refl _ _).drew).mono ?_); rintro e w7 ⟨rfl, hA7, hg7⟩; have HA7 := hidb hA7; have e4 := hA7.cut.c4; have e5 := hA7.cut.c5; have f4 := hA7.cut.fz 4; have f5 := hA7.cut.fz 5; simp only at e4 e5 f4 f5; clear hA7 hg7))
      all_goals
        go_wp2_with fail
        go_meet
        exact HA7.out.set c.1 c.2 bl
    case rest =>
      have hmp := hcut.pl.mp
      have c2 := hcut.pl.c2
      have d0 := hcut.cut.c0
      simp only at d0
      have hidw := hok
      obtain ⟨w9, hrun, hown9, hg9⟩ := World.ownsMap.update (P := Tryz.prog) (w := wc.drew) (val := .pointer (some ⟨w2.heap.size + 1, 0, none⟩)) (ownsMap_block (w' := wc.drew) hmp rfl) keyed Tryz.underlying117 HMM.out (key_of (i := s1) HIN1.out) (ptrR_mk (some (w2.heap.size + 1)))
      have hAd := hcut.below (W' := wc.drew) (Below.refl _ _).drew
      have hput := hAd.put hg9 hown9 (by
        have h1 := hAd.pl.mis.put (IsMap_any hmp) (k := ⟨w2.heap.size + 1, (s1, s2, 4, s4), c, bl⟩) hnew HIN1.out
        exact h1) (by rw [← HBK.out]; exact hok (w2.heap.size + 1))
      have HP := hidb hput
      have S9 : Hid (w9.cell? ⟨p, 2, none⟩ = some (.map (some mb)) ∧ w9.cell? ⟨w2.heap.size + 1, 0, none⟩ = some (.int .i64 s1)) := hidb (by
        obtain ⟨n1, n2, n3, n4, n5⟩ := hcut.pl.ne
        have hb1 : w2.heap.size + 1 ≠ mb := fun e => hcut.new (by show PlS S2 p ap g mb v.ks (w2.heap.size + 1); rw [e]; unfold PlS; simp)
        exact ⟨(World.cell?_of_block (w := wc) (a := ⟨p, 2, none⟩) (hg9.block p hcut.pl.ltp (fun e => n3 (by injection e)))).trans c2, (World.cell?_of_block (w := wc) (a := ⟨w2.heap.size + 1, 0, none⟩) (hg9.block _ hcut.cut.lt (fun e => hb1 (by injection e)))).trans d0⟩)
      clear hcut hmp hput hAd hown9 hg9 hidw c1 d4 d5
      go_wp2
      go_region_held3 (fun w' => w'.cell? ⟨p, 2, none⟩ = some (.map (some mb)) ∧ w'.cell? ⟨w2.heap.size + 1, 0, none⟩ = some (.int .i64 s1)) (first | exact S9.out | (go_keep; done)) (fail)
      go_wp2
      go_ret2
      exact Or.inr ⟨rfl, w2.heap.size + 1, c, ws', rfl, by rw [← HBK.out] at HP; exact HP.out, HSTAY.out⟩

end Go.Proofs.YtcgfmpegakpddaaGreat
