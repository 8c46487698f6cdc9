/- What the document's own Lay of layer 15 (walk) returns: frames of functions, laid one in front of the other. -/
import Derived.Test.YtlniakcoikhilaaGreatDoorLayRef
import Derived.Test.YtlniakcoikhilaaGreatDoorFrmAll
import Derived.Deep.RegionHeld3
namespace Go.Proofs.YtlniakcoikhilaaGreatDoor
open Go.RowKit
set_option linter.unusedVariables false

/-- Words with frames laid; where the last one stands; whether all have been laid. -/
def layGo (l : Fns) (lo : Int) : List Int → List Nat → Int → Int → List Nat × Int × Bool
  | [], xs, sp, _ => (xs, sp, true)
  | f :: r, xs, sp, link => if (frPush xs l lo sp f link).2.2 = 0 then layGo l lo r (frPush xs l lo sp f link).1 (frPush xs l lo sp f link).2.1 (frPush xs l lo sp f link).2.1 else (xs, sp, false)
theorem layGo_at {l : Fns} {lo sp link : Int} {xs : List Nat} {fs : List Int} {j : Nat} {f : Int} (h : fs[j]? = some f) : layGo l lo (fs.drop j) xs sp link = if (frPush xs l lo sp f link).2.2 = 0 then layGo l lo (fs.drop (j + 1)) (frPush xs l lo sp f link).1 (frPush xs l lo sp f link).2.1 (frPush xs l lo sp f link).2.1 else (xs, sp, false) := by
  obtain ⟨hj, rfl⟩ := List.getElem?_eq_some_iff.1 h
  rw [List.drop_eq_getElem_cons hj]; rfl
theorem frPush_len (xs : List Nat) (l : Fns) (lo sp f link : Int) (hl : ∀ x ∈ l, 0 ≤ x.1 ∧ x.1 ≤ 1000) : (frPush xs l lo sp f link).1.length = xs.length := by
  have hr := fWords_cases l hl f
  unfold frPush
  split; · rfl
  split; · rfl
  rw [aStore_length _ _ _ (by rw [frRow_length _ (by omega)]; omega)]
theorem frPush_good {xs ys : List Nat} {l : Fns} {lo sp f link bs : Int} (h : frPush xs l lo sp f link = (ys, bs, 0)) : 0 ≤ lo ∧ lo ≤ bs ∧ bs ≤ sp ∧ sp ≤ xs.length := by
  unfold frPush at h
  split at h
  · injection h with _ h; injection h with _ h; omega
  · split at h
    · injection h with _ h; injection h with _ h; omega
    · injection h with h1 h; injection h with h2 _; omega
/-- The result's block and the stack's own: six cells. -/
structure L6 (W : World) (b : Nat) (lo size sp : Int) : Prop where
  r0 : W.cell? ⟨b, 0, none⟩ = some (.int .i64 0)
  r1 : W.cell? ⟨b, 1, none⟩ = some (.int .i64 0)
  r2 : W.cell? ⟨b, 2, none⟩ = some (.int .i64 0)
  s0 : W.cell? ⟨b + 1, 0, none⟩ = some (.int .i64 lo)
  s1 : W.cell? ⟨b + 1, 1, none⟩ = some (.int .i64 size)
  s2 : W.cell? ⟨b + 1, 2, none⟩ = some (.int .i64 sp)
  fr : ∀ i, W.frozen? ⟨b, i, none⟩ = false
  fs : ∀ i, W.frozen? ⟨b + 1, i, none⟩ = false
theorem L6.step {W W' : World} {b : Nat} {lo size sp : Int} (h : L6 W b lo size sp) (hb : Below W.heap.size W W') : L6 W' b lo size sp := by
  have h0 : b < W.heap.size := lt_of_cell' h.r0
  have h1 : b + 1 < W.heap.size := lt_of_cell' h.s0
  exact ⟨(hb.cell (p := ⟨b, 0, none⟩) h0).trans h.r0, (hb.cell (p := ⟨b, 1, none⟩) h0).trans h.r1, (hb.cell (p := ⟨b, 2, none⟩) h0).trans h.r2, (hb.cell (p := ⟨b + 1, 0, none⟩) h1).trans h.s0, (hb.cell (p := ⟨b + 1, 1, none⟩) h1).trans h.s1, (hb.cell (p := ⟨b + 1, 2, none⟩) h1).trans h.s2, fun i => (hb.frozen (p := ⟨b, i, none⟩) h0).trans (h.fr i), fun i => (hb.frozen (p := ⟨b + 1, i, none⟩) h1).trans (h.fs i)⟩
theorem L6.set {W : World} {b : Nat} {lo size sp : Int} (h : L6 W b lo size sp) (sp' : Int) : L6 (W.setCell ⟨b + 1, 2, none⟩ (.int .i64 sp')) b lo size sp' := by
  have o : ∀ (x y i : Nat), ¬ (b + 1 = x ∧ 2 = i) → (W.setCell ⟨b + 1, 2, none⟩ (.int .i64 sp')).cell? ⟨x, i, none⟩ = W.cell? ⟨x, i, none⟩ := fun x y i hne => World.cell?_setCell_other W _ _ _ (fun e => hne (by injection e with e1 e2; exact ⟨e1, e2⟩))
  exact ⟨(o b 0 0 (by omega)).trans h.r0, (o b 0 1 (by omega)).trans h.r1, (o b 0 2 (by omega)).trans h.r2, (o (b + 1) 0 0 (by omega)).trans h.s0, (o (b + 1) 0 1 (by omega)).trans h.s1, World.cell?_setCell_same W _ _ h.s2, fun i => (World.frozen?_setCell _ _ _ _).trans (h.fr i), fun i => (World.frozen?_setCell _ _ _ _).trans (h.fs i)⟩
theorem Sl.asideL {w : World} {B n : Nat} {A : Option Addr} {xs : List Value} (h : Sl w B A n xs) {p : Addr} (hp : ∀ a, A = some a → a.block ≠ p.block) (u : Value) : Sl (w.setCell p u) B A n xs :=
  ⟨h.1, fun hn => by
    obtain ⟨b, off, e, hb, hc⟩ := h.2 hn
    exact ⟨b, off, e, hb, fun j hj => (World.cell?_setCell_other w p ⟨b, off + j, none⟩ u (fun e2 => hp _ e (by rw [e2]))).trans (hc j hj)⟩⟩
/-- What Lay answers. -/
def ResL (w : World) (n : Nat) (r : List Nat × Int × Bool) (lo size : Int) (e : Ending) (w' : World) : Prop := ∃ B k, e = .returned (.tuple #[.slice B n k, .agg #[.int .i64 lo, .int .i64 size, .int .i64 r.2.1], .bool r.2.2]) ∧ Sl w' w'.heap.size B n (r.1.map wv) ∧ (B = none → k = 0) ∧ Below w.heap.size w w'

set_option maxRecDepth 100000 in
set_option maxHeartbeats 4000000 in
theorem ref_frlay {w : World} {A A2 A4 : Option Addr} {n c n2 c2 q c4 lo' hi' : Nat} {xs : List Nat} {ys : List FnV} {fs : List Int} (hs : Sl w w.heap.size A n (xs.map wv)) (hA0 : A = none → c = 0) (h0 : 0 < n) (hn : n ≤ 65536) (hr : FnRow w lo' hi' A2 n2 ys) (hhi : hi' ≤ w.heap.size) (hn2 : n2 ≤ 1000) (hl : ∀ x ∈ vals ys, 0 ≤ x.1 ∧ x.1 ≤ 1000) (hf : Sl w w.heap.size A4 q (fs.map iv)) (hq : q ≤ 1000000) (lo size : Int) (h1 : 0 ≤ lo ∧ lo ≤ 65536) (h2 : 0 ≤ size ∧ size ≤ 65536) :
    Calls Tryz.prog 25 #[.slice A n c, .slice A2 n2 c2, .int .i64 lo, .int .i64 size, .slice A4 q c4] w (ResL w n (layGo (vals ys) lo fs xs (lo + size) (-1)) lo size) := by
  have hlen : xs.length = n := by have := hs.1; simpa using this
  have hfl : fs.length = q := by have := hf.1; simpa using this
  have HF := hidb hf
  have HL := hidb hl
  have HFL := hidb hfl
  obtain ⟨W0, hW0⟩ : ∃ W0, W0 = (w.alloc (.cells #[.int .i64 0, .int .i64 0, .int .i64 0] 25)).alloc (.cells #[.int .i64 lo, .int .i64 size, .int .i64 (lo + size)] 25) := ⟨_, rfl⟩
  have hb0 : Below w.heap.size w W0 := by rw [hW0]; exact belF_al (belF_al (Below.refl _ _) _) _
  have hL6 : L6 W0 w.heap.size lo size (lo + size) := by
    rw [hW0]
    have e : ∀ i, ((w.alloc (.cells #[.int .i64 0, .int .i64 0, .int .i64 0] 25)).alloc (.cells #[.int .i64 lo, .int .i64 size, .int .i64 (lo + size)] 25)).cell? ⟨w.heap.size, i, none⟩ = (w.alloc (.cells #[.int .i64 0, .int .i64 0, .int .i64 0] 25)).cell? ⟨w.heap.size, i, none⟩ := fun i => World.cell?_alloc_lt _ _ _ (by simp)
    refine ⟨?_, ?_, ?_, ?_, ?_, ?_, fun i => ?_, fun i => ?_⟩
    · rw [e]; simp
    · rw [e]; simp
    · rw [e]; simp
    · exact World.cell?_alloc_at _ _ _ 0 (by simp)
    · exact World.cell?_alloc_at _ _ _ 1 (by simp)
    · exact World.cell?_alloc_at _ _ _ 2 (by simp)
    · simp [go_sem]
    · simp [go_sem]
  have HAP : Hid (∀ a, A = some a → a.block ≠ w.heap.size ∧ a.block ≠ w.heap.size + 1) := hidb (fun a ha => by
    obtain ⟨b, off, e, hb, _⟩ := hs.2 h0
    rw [e] at ha; injection ha with ha; subst ha
    exact ⟨by show b ≠ _; omega, by show b ≠ _; omega⟩)
  have hw : wrap64 (lo + size) = lo + size := by unfold wrap64; omega
  have KP : Hid (∀ W B k (us : List Nat) sp f link, Below w.heap.size w W → Sl W W.heap.size B n (us.map wv) → (B = none → k = 0) → in64 sp → in64 link → Calls Tryz.prog 54 #[.slice B n k, .slice A2 n2 c2, .int .i64 lo, .int .i64 sp, .int .i64 f, .int .i64 link] W (ResP W B n (frPush us (vals ys) lo sp f link))) := hidb (fun W B k us sp f link hb hs hB h3 h4 => ref_frpush hs hB h0 hn (hr.below (hb.mono hhi)) (Nat.le_trans hhi hb.size) hn2 hl lo sp f link (by unfold in64; omega) h3 h4)
  have HB0 := hidb hb0
  have HL0 := hidb hL6
  have HS0 := hidb ((hs.below hb0).more hb0.size)
  have HA0 := hidb hA0
  rw [hW0] at HB0 HL0 HS0
  have HFIN : Hid (∀ W (B : Option Addr) (k : Nat) (us : List Nat) (sp : Int) (ok : Bool), Sl W W.heap.size B n (us.map wv) → (B = none → k = 0) → (∀ a, B = some a → a.block ≠ w.heap.size ∧ a.block ≠ w.heap.size + 1) → Below w.heap.size w W → layGo (vals ys) lo fs xs (lo + size) (-1) = (us, sp, ok) → ResL w n (layGo (vals ys) lo fs xs (lo + size) (-1)) lo size (.returned (.tuple #[.slice B n k, .agg #[.int .i64 lo, .int .i64 size, .int .i64 sp], .bool ok])) ((((W.setCell ⟨w.heap.size, 0, none⟩ (.int .i64 lo)).setCell ⟨w.heap.size, 1, none⟩ (.int .i64 size)).setCell ⟨w.heap.size, 2, none⟩ (.int .i64 sp)).drew)) := hidb (fun W B k us sp ok hu hk hap hb h => by
    rw [h]
    have h3 := ((hu.asideL (p := ⟨w.heap.size, 0, none⟩) (fun a ha => (hap a ha).1) (.int .i64 lo)).asideL (p := ⟨w.heap.size, 1, none⟩) (fun a ha => (hap a ha).1) (.int .i64 size)).asideL (p := ⟨w.heap.size, 2, none⟩) (fun a ha => (hap a ha).1) (.int .i64 sp)
    refine ⟨B, k, rfl, ?_, hk, (bel_set3 hb (Nat.le_refl _) _ _ _).drew⟩
    have e : ((((W.setCell ⟨w.heap.size, 0, none⟩ (.int .i64 lo)).setCell ⟨w.heap.size, 1, none⟩ (.int .i64 size)).setCell ⟨w.heap.size, 2, none⟩ (.int .i64 sp)).drew).heap.size = W.heap.size := by simp
    rw [e]
    exact h3)
  clear hs hr hl hf hb0 hL6 hW0 hA0
  go_enter Tryz.func25, Tryz.ntmps25
  go_wp2
  (try rw [hw])
  clear hw
  go_loopw [27, 15, 0, 14, 16, 17, 18] (fun v27 _ v0 v14 _ _ _ wr => ∃ (j : Nat) (us : List Nat) (B : Option Addr) (k : Nat) (sp link : Int), j ≤ q ∧ v27 = .int .i64 j ∧ v0 = .slice B n k ∧ v14 = .int .i64 link ∧ (0 ≤ sp ∧ sp ≤ 131072) ∧ (-1 ≤ link ∧ link ≤ 131072) ∧ Hid (Sl wr wr.heap.size B n (us.map wv)) ∧ Hid (B = none → k = 0) ∧ Hid (L6 wr w.heap.size lo size sp) ∧ Hid (Below w.heap.size w wr) ∧ Hid (layGo (vals ys) lo fs xs (lo + size) (-1) = layGo (vals ys) lo (fs.drop j) us sp link) ∧ Hid (∀ a, B = some a → a.block ≠ w.heap.size ∧ a.block ≠ w.heap.size + 1)) (fun v27 _ _ _ _ _ _ _ => (q - intOf v27).toNat)
  case atStart => exact ⟨0, xs, A, c, lo + size, -1, by omega, rfl, rfl, rfl, by omega, by omega, HS0, HA0, HL0, HB0, hidb rfl, HAP⟩
  case round =>
    obtain ⟨j, us, B, k, sp, link, hjq, rfl, rfl, rfl, hsp, hlk, HU, HBN, HL6, HB, HG, HAPB⟩ := hrel
    by_cases hlt : j < q
    · obtain ⟨b, off, f, rfl, hfj, hcf⟩ := ((HF.out.below HB.out).more HB.out.size).int_ hlt
      obtain ⟨ps, bs, no, hp⟩ : ∃ ps bs no, frPush us (vals ys) lo sp f link = (ps, bs, no) := ⟨_, _, _, rfl⟩
      have HSTEP := hidb (layGo_at (l := vals ys) (lo := lo) (sp := sp) (link := link) (xs := us) hfj)
      have kp := KP.out wr B k us sp f link HB.out HU.out HBN.out (by unfold in64; omega) (by unfold in64; omega)
      rw [hp] at HSTEP kp
      simp only at HSTEP
      have kp' : Calls Tryz.prog 54 #[.slice B n k, .slice A2 n2 c2, .int .i64 lo, .int .i64 sp, .int .i64 f, .int .i64 link] wr.drew fun e w' => ∃ D r, e = .returned (.tuple #[.slice D n r, .int .i64 bs, .int .i64 no]) ∧ Hid (Sl w' w'.heap.size D n (ps.map wv)) ∧ Hid (D = none → r = 0) ∧ Hid (Below wr.heap.size wr w' ∧ ∀ a, D = some a → a.block ≠ w.heap.size ∧ a.block ≠ w.heap.size + 1) := by
        have kq := KP.out wr.drew B k us sp f link HB.out.drew HU.out HBN.out (by unfold in64; omega) (by unfold in64; omega)
        rw [hp] at kq
        have hsz := lt_of_cell' HL6.out.s0
        exact Calls.mono kq (by
          rintro e w' ⟨D, r, h1, h2, h3, h4, h5⟩
          refine ⟨D, r, h1, hidb h2, hidb h3, hidb ⟨belF_tr (Below.refl _ _).drew h4, fun a ha => ?_⟩⟩
          rcases h5 with h5 | h5
          · exact HAPB.out a (h5 ▸ ha)
          · have h6 : wr.heap.size ≤ a.block := h5 a ha
            simp only at hsz
            omega)
      have KPD := hidb kp'
      have hcs := HL6.out.s2
      have HLT : Hid (b < wr.heap.size ∧ w.heap.size + 1 < wr.heap.size) := hidb ⟨lt_of_cell' hcf, lt_of_cell' HL6.out.s0⟩
      have HCF := hidb hcf
      have hi0 : (0 : Int) ≤ (j : Int) := by omega
      have hi1 : (j : Int) < (q : Int) := by omega
      clear kp kp' hfj
      by_cases hno : no = 0
      · subst hno
        have HNX : Hid (layGo (vals ys) lo fs xs (lo + size) (-1) = layGo (vals ys) lo (fs.drop (j + 1)) ps bs bs) := hidb (by rw [HG.out, HSTEP.out, if_pos rfl])
        have HBS : Hid (0 ≤ bs ∧ bs ≤ 131072) := hidb (by
          have h := frPush_good hp
          omega)
        --@1
        go_wp2
        go_region_held3 (fun W => W.cell? ⟨w.heap.size + 1, 2, none⟩ = some (.int .i64 sp) ∧ W.cell? ⟨b, off + j, none⟩ = some (.int .i64 f))
          (first | (go_keep; done))
          (first
            | (go_at_call 54; ((with_reducible refine KPD.out.mono ?_); rintro e w2 ⟨D, r, rfl, hd2, hr2, hb2⟩; have y0 : w2.cell? ⟨w.heap.size + 1, 2, none⟩ = some (.int .i64 sp) := ((HL6.out.step hb2.out.1).s2); have y1 : w2.cell? ⟨b, off + j, none⟩ = some (.int .i64 f) := (hb2.out.1.cell (p := ⟨b, off + j, none⟩) HLT.out.1).trans HCF.out)))
        have HL2 := HL6.out.step hb2.out.1
        obtain ⟨x0, x1, x2, z0, z1, z2, f0, f1⟩ := HL2
        have HL3 := hidb ((HL6.out.step hb2.out.1).set bs)
        have HD3 : Hid (Sl (w2.setCell ⟨w.heap.size + 1, 2, none⟩ (.int .i64 bs)) (w2.setCell ⟨w.heap.size + 1, 2, none⟩ (.int .i64 bs)).heap.size D n (ps.map wv)) := hidb (by
          have := hd2.out.asideL (p := ⟨w.heap.size + 1, 2, none⟩) (fun a ha => (hb2.out.2 a ha).2) (.int .i64 bs)
          simpa using this)
        have HB3 : Hid (Below w.heap.size w (w2.setCell ⟨w.heap.size + 1, 2, none⟩ (.int .i64 bs))) := hidb ((belF_tr HB.out hb2.out.1).setCell (p := ⟨w.heap.size + 1, 2, none⟩) (by show _ ≤ w.heap.size + 1; omega) _)
        have HAP3 := hidb hb2.out.2
        have f12 := f1 2
        clear f0 f1
        go_wp2
        go_roundw
        case rel => exact ⟨j + 1, ps, D, r, bs, bs, by omega, by go_num, rfl, rfl, HBS.out, by have := HBS.out; omega, HD3, hr2, HL3, HB3, HNX, HAP3⟩
        case measure => simp [intOf]; omega
      · have HNX : Hid (layGo (vals ys) lo fs xs (lo + size) (-1) = (us, sp, false)) := hidb (by rw [HG.out, HSTEP.out, if_neg hno])
        have hnb : (no != 0) = true := by simpa using hno
        --@2
        go_wp2
        go_region_held3 (fun W => W.cell? ⟨w.heap.size + 1, 2, none⟩ = some (.int .i64 sp) ∧ W.cell? ⟨b, off + j, none⟩ = some (.int .i64 f))
          (first | (go_keep; done))
          (first
            | (go_at_call 54; ((with_reducible refine KPD.out.mono ?_); rintro e w2 ⟨D, r, rfl, hd2, hr2, hb2⟩; have y0 : w2.cell? ⟨w.heap.size + 1, 2, none⟩ = some (.int .i64 sp) := ((HL6.out.step hb2.out.1).s2); have y1 : w2.cell? ⟨b, off + j, none⟩ = some (.int .i64 f) := (hb2.out.1.cell (p := ⟨b, off + j, none⟩) HLT.out.1).trans HCF.out)))
        have HL2 := HL6.out.step hb2.out.1
        obtain ⟨x0, x1, x2, z0, z1, z2, f0, f1⟩ := HL2
        have f00 := f0 0
        have f01 := f0 1
        have f02 := f0 2
        have PF := hidb (HFIN.out w2 B k us sp false ((HU.out.below hb2.out.1).more hb2.out.1.size) HBN.out HAPB.out (belF_tr HB.out hb2.out.1) HNX.out)
        clear f0 f1
        go_wp2
        go_region
        obtain ⟨t0, t1, t2⟩ := three_cells w2 w.heap.size (.int .i64 lo) (.int .i64 size) (.int .i64 sp) _ _ _ x0 x1 x2
        all_goals go_wp2
        all_goals exact bodyPost_ret (v := .tuple #[.slice B n k, .agg #[.int .i64 lo, .int .i64 size, .int .i64 sp], .bool false]) (by simp [results, Tryz.results25, go_sem, t0, t1, t2]) rfl PF.out
    · have HNX : Hid (layGo (vals ys) lo fs xs (lo + size) (-1) = (us, sp, true)) := hidb (by rw [HG.out, List.drop_of_length_le (by rw [HFL.out]; omega)]; rfl)
      --@3
      obtain ⟨x0, x1, x2, z0, z1, z2, f0, f1⟩ := HL6.out
      have f00 := f0 0
      have f01 := f0 1
      have f02 := f0 2
      have PF := hidb (HFIN.out wr B k us sp true HU.out HBN.out HAPB.out HB.out HNX.out)
      clear f0 f1
      go_wp2
      go_region
      obtain ⟨t0, t1, t2⟩ := three_cells wr w.heap.size (.int .i64 lo) (.int .i64 size) (.int .i64 sp) _ _ _ x0 x1 x2
      all_goals go_wp2
      all_goals exact bodyPost_ret (v := .tuple #[.slice B n k, .agg #[.int .i64 lo, .int .i64 size, .int .i64 sp], .bool true]) (by simp [results, Tryz.results25, go_sem, t0, t1, t2]) rfl PF.out
end Go.Proofs.YtlniakcoikhilaaGreatDoor
