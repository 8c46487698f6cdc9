/- What Pop of the document's own answers to layer 8 (chain) returns. -/
import Derived.Test.YtcngcibiibchiaaChainRemove2
import Derived.Deep.RegionHeld3
namespace Go.Proofs.Ytcngcibiibchiaa
open Go.RowKit
set_option linter.unusedVariables false

/-- Words, a chain, an address and an error's number that a call answers. -/
def ResC4 (Aa : Option Addr) (w : World) (n : Nat) (r : List Nat × (Int × Int) × Int × Int) (e : Ending) (w' : World) : Prop :=
  ∃ A c, e = .returned (.tuple #[.slice A n c, .agg #[.int .i64 r.2.1.1, .int .i64 r.2.1.2], .int .i64 r.2.2.1, .int .i64 r.2.2.2]) ∧ Sl w' w'.heap.size A n (r.1.map wv) ∧ Below w.heap.size w w' ∧ (A = Aa ∨ ∀ a, A = some a → w.heap.size ≤ a.block)
theorem PushAt.fin4 {w wr W : World} {p r n : Nat} {A A' : Option Addr} {ws : List Nat} {h l : Int} (k : PushAt w wr p r n A A' ws h l) (c' : Nat) (x no : Int) (hb : Below ((wr.setCell ⟨r, 0, none⟩ (.int .i64 h)).setCell ⟨r, 1, none⟩ (.int .i64 l)).heap.size ((wr.setCell ⟨r, 0, none⟩ (.int .i64 h)).setCell ⟨r, 1, none⟩ (.int .i64 l)) W) :
    ResC4 A w n (ws, (h, l), x, no) (.returned (.tuple #[.slice A' n c', .agg #[.int .i64 h, .int .i64 l], .int .i64 x, .int .i64 no])) W := by
  obtain ⟨A2, c2, e, h1, h2, h3⟩ := k.fin c' no hb
  simp at e
  obtain ⟨rfl, rfl⟩ := e
  exact ⟨_, _, rfl, h1, h2, h3⟩

/-- Other words, and another chain in a block of its own. -/
theorem PushAt.other {w wr : World} {p r n : Nat} {A A' A2 : Option Addr} {ws ws2 : List Nat} {h l h2 l2 : Int} (k : PushAt w wr p r n A A' ws h l) (t : TypeId) (hsl : Sl wr wr.heap.size A2 n (ws2.map wv)) (hr : ∀ a, A2 = some a → 0 < n → a.block ≠ r) (hnew : A2 = A ∨ ∀ a, A2 = some a → w.heap.size ≤ a.block) :
    PushAt w (wr.alloc (.cells #[.int .i64 h2, .int .i64 l2] t)) wr.heap.size r n A A2 ws2 h2 l2 := by
  have hb : Below wr.heap.size wr (wr.alloc (.cells #[.int .i64 h2, .int .i64 l2] t)) := (Below.refl _ _).alloc (Nat.le_refl _) _
  have k2 := k.below hb
  have hlr := k.ltr
  refine ⟨k.bel.size, k.lr, by omega, ?_, ?_, fun j => World.frozen?_alloc_at _ _ _ _ rfl, k2.r0, k2.r1, k2.rf, (hsl.below hb).more hb.size, fun a e hn => ?_, hnew, k2.bel⟩
  · rw [World.cell?_alloc_at _ _ _ _ rfl]; rfl
  · rw [World.cell?_alloc_at _ _ _ _ rfl]; rfl
  · obtain ⟨b, off, e2, hb2, _⟩ := hsl.2 hn
    rw [e] at e2
    obtain rfl := Option.some.inj e2
    exact ⟨by simp only; omega, hr _ e hn⟩

theorem PushAt.words2 {w wr W : World} {p r n : Nat} {A A2 : Option Addr} {ws ws2 : List Nat} {h l : Int} (k : PushAt w wr p r n A A ws h l) (hb : Below wr.heap.size wr W) (hsl : Sl W W.heap.size A2 n (ws2.map wv)) (h3 : A2 = A ∨ ∀ a, A2 = some a → wr.heap.size ≤ a.block) : PushAt w W p r n A A2 ws2 h l := by
  have k2 := k.below hb
  refine ⟨k2.lp, k2.lr, k2.ne, k2.p0, k2.p1, k2.pf, k2.r0, k2.r1, k2.rf, hsl, fun a e hn => ?_, ?_, k2.bel⟩
  · rcases h3 with h3 | h3
    · exact k.ap a (by rw [← h3]; exact e) hn
    · have := h3 a e
      have := k.ltp
      have := k.ltr
      omega
  · rcases h3 with h3 | h3
    · exact Or.inl h3
    · exact Or.inr fun a e => Nat.le_trans k.bel.size (h3 a e)

set_option maxRecDepth 100000 in
set_option maxHeartbeats 4000000 in
theorem ref_cpop (A : Option Addr) (n c : Nat) (ws : List Nat) (h0 len : Int) (w : World) (hs : Sl w w.heap.size A n (ws.map wv)) (hn : n ≤ 65536) (hh : in64 h0) (hl : in64 len) :
    Calls Try.prog 11 #[.slice A n c, .agg #[.int .i64 h0, .int .i64 len]] w (ResC4 A w n (cPop ws (h0, len))) := by
  have l1 : ws.length = n := by have := hs.1; simpa using this
  obtain ⟨W0, hW0⟩ : ∃ W0, W0 = (w.alloc (.cells #[.int .i64 h0, .int .i64 len] 23)).alloc (.cells #[.int .i64 0, .int .i64 0] 23) := ⟨_, rfl⟩
  have k0 : PushAt w W0 w.heap.size (w.heap.size + 1) n A A ws h0 len := by rw [hW0]; exact PushAt.start hs h0 len _ _
  have HW0 := hidb hW0
  have cl := ref_clist A n c ws h0 len W0 k0.sl hn hh hl
  obtain ⟨LL, hLL⟩ : ∃ LL, cList ws (h0, len) = LL := ⟨_, rfl⟩
  rw [hLL] at cl
  unfold ResChain at cl
  have HK0 := hidb k0
  have HZ0 : Hid (W0.heap.size = w.heap.size + 1 + 1) := hidb (by rw [hW0]; simp)
  have hne : w.heap.size ≠ w.heap.size + 1 := by omega
  cases LL with
  | none =>
    have HE : Hid (cPop ws (h0, len) = (ws, (h0, len), 0, 9)) := hidb (by unfold cPop; rw [hLL])
    clear hs l1 hh hl hLL k0 hW0
    go_enter Try.func11, Try.ntmps11
    go_wp2_with (first | (go_at_call 17; rw [← HW0.out]; (with_reducible refine cl.mono ?_); rintro e w1 ⟨A1, n1, c1, out, rfl, hsl1, _, hb1, hnw1⟩; have K1 := hidb (HK0.out.below hb1); obtain ⟨p0, p1, r0, r1, rf0, rf1, pf0, pf1⟩ := K1.out.facts; clear hsl1 hb1 hnw1))
    clear HW0 HK0 cl
    go_region
    all_goals go_wp2
    all_goals obtain ⟨s0, s1⟩ := two_cells8 w1 (w.heap.size + 1) (.int .i64 h0) (.int .i64 len) _ _ r0 r1
    all_goals refine bodyPost_ret (v := .tuple #[.slice A n c, .agg #[.int .i64 h0, .int .i64 len], .int .i64 0, .int .i64 9]) (by simp [results, Try.results11, go_sem, s0, s1]) rfl ?_
    all_goals rw [HE.out]
    all_goals exact K1.out.fin4 c 0 9 (by first | exact (Below.refl _ _).drew | exact Below.refl _ _)
  | some l =>
    obtain ⟨hnd, hlr, hlen⟩ := cList_some hLL
    cases l with
    | nil =>
      have HE : Hid (cPop ws (h0, len) = (ws, (h0, len), 0, 6)) := hidb (by unfold cPop; rw [hLL])
      clear hs l1 hh hl hLL k0 hW0 hnd hlr hlen
      go_enter Try.func11, Try.ntmps11
      go_wp2_with (first | (go_at_call 17; rw [← HW0.out]; (with_reducible refine cl.mono ?_); rintro e w1 ⟨A1, n1, c1, out, rfl, hsl1, hout, hb1, hnw1⟩; obtain rfl := hout _ rfl; obtain rfl : n1 = 0 := hsl1.1.symm; have K1 := hidb (HK0.out.below hb1); obtain ⟨p0, p1, r0, r1, rf0, rf1, pf0, pf1⟩ := K1.out.facts; clear hsl1 hb1 hnw1))
      clear HW0 HK0 cl
      go_region
      all_goals go_wp2
      all_goals obtain ⟨s0, s1⟩ := two_cells8 w1 (w.heap.size + 1) (.int .i64 h0) (.int .i64 len) _ _ r0 r1
      all_goals refine bodyPost_ret (v := .tuple #[.slice A n c, .agg #[.int .i64 h0, .int .i64 len], .int .i64 0, .int .i64 6]) (by simp [results, Try.results11, go_sem, s0, s1]) rfl ?_
      all_goals rw [HE.out]
      all_goals exact K1.out.fin4 c 0 6 (by first | exact (Below.refl _ _).drew | exact Below.refl _ _)
    | cons a l =>
      have hab := hlr a (List.mem_cons_self ..)
      have hl65 : (a :: l).length ≤ 65536 := by
        have := nodup_le ws.length (a :: l) hnd hlr
        omega
      have hrem : cRemove ws (h0, len) a = ((cWithout ws (a :: l) a).1, (cWithout ws (a :: l) a).2, 0) := by unfold cRemove; rw [hLL]; simp only; rw [if_pos (List.mem_cons_self ..)]
      have hpop : cPop ws (h0, len) = ((cWithout ws (a :: l) a).1, (cWithout ws (a :: l) a).2, a, 0) := by unfold cPop; rw [hLL]
      obtain ⟨⟨wj, hj, lj⟩, hS⟩ : ∃ S, cWithout ws (a :: l) a = S := ⟨_, rfl⟩
      rw [hS] at hrem hpop
      simp only at hrem hpop
      have ia : in64 a := ⟨by omega, by omega⟩
      have crm := fun W (hb : Below W0.heap.size W0 W) => ref_cremove A n c ws h0 len a W (k0.below hb).sl hn hh hl ia
      rw [hrem] at crm
      unfold ResC at crm
      have HE := hidb hpop
      clear hs l1 hh hl hLL k0 hW0 hnd hlr hlen hS hrem hpop
      go_enter Try.func11, Try.ntmps11
      go_wp2_with (first
        | (go_at_call 17; rw [← HW0.out]; (with_reducible refine cl.mono ?_); rintro e w1 ⟨A1, n1, c1, out, rfl, hsl1, hout, hb1, hnw1⟩; obtain rfl := hout _ rfl; obtain rfl : n1 = (l.length + 1) := hsl1.1.symm.trans (by simp); have K1 := hidb (HK0.out.below hb1); obtain ⟨p0, p1, r0, r1, rf0, rf1, pf0, pf1⟩ := K1.out.facts; have HSL := hidb hsl1; have HB1 := hidb hb1; have HNW := hidb hnw1; clear hsl1 hb1 hnw1))
      clear HW0 HK0 cl
      obtain ⟨b, off, x, rfl, hx, hc0⟩ := HSL.out.int_ (j := 0) (by omega)
      obtain rfl : a = x := by simpa using hx
      have hc : w1.drew.cell? ⟨b, off, none⟩ = some (.int .i64 a) := hc0
      have hbr : w.heap.size + 1 ≠ b := by
        have h1 := HNW.out ⟨b, off, none⟩ rfl (by omega)
        have h2 := HZ0.out
        simp only at h1
        omega
      have HC : Hid (∀ W, Below w1.heap.size w1 W → W.cell? ⟨b, off, none⟩ = some (.int .i64 a)) := hidb (fun W hb => (hb.cell (p := ⟨b, off, none⟩) (lt_of_cell hc0)).trans hc0)
      have K1d := hidb (K1.out.below (Below.refl _ _).drew)
      clear hx hc0 p0 p1 r0 r1 rf0 rf1 pf0 pf1
      obtain ⟨p0, p1, r0, r1, rf0, rf1, pf0, pf1⟩ := K1d.out.facts
      have HPOP : Hid (∀ (w2 : World) (A5 : Option Addr), Sl w2 w2.heap.size A5 n (wj.map wv) → Below w1.drew.heap.size w1.drew w2 → (A5 = A ∨ ∀ a, A5 = some a → w1.drew.heap.size ≤ a.block) →
          (w2.cell? ⟨w.heap.size, 0, none⟩ = some (.int .i64 h0) ∧ w2.cell? ⟨w.heap.size, 1, none⟩ = some (.int .i64 len) ∧ w2.cell? ⟨b, off, none⟩ = some (.int .i64 a)) ∧ PushAt w (w2.alloc (.cells #[.int .i64 hj, .int .i64 lj] 23)) w2.heap.size (w.heap.size + 1) n A A5 wj hj lj ∧ (w2.alloc (.cells #[.int .i64 hj, .int .i64 lj] 23)).cell? ⟨b, off, none⟩ = some (.int .i64 a)) := hidb (fun w2 A5 h1 h2 h3 => by
        have k6 := K1d.out.below h2
        have hb : Below w1.heap.size w1 w2 := ((Below.refl w1.heap.size w1).drew).trans h2
        refine ⟨⟨k6.p0, k6.p1, HC.out _ hb⟩, k6.other _ h1 (fun x e hn => ?_) ?_, HC.out _ (hb.alloc hb.size _)⟩
        · rcases h3 with h3 | h3
          · exact (K1d.out.ap x (by rw [← h3]; exact e) hn).2
          · have := h3 x e
            have := K1d.out.ltr
            omega
        · rcases h3 with h3 | h3
          · exact Or.inl h3
          · exact Or.inr (fun x e => Nat.le_trans K1d.out.bel.size (h3 x e)))
      have e0 := World.new_ne w1 ⟨w.heap.size, 0, none⟩ K1.out.p0
      have e1 := World.new_ne w1 ⟨b, off, none⟩ (HC.out _ (Below.refl _ _))
      simp only at e0 e1
      have HN0 := hidb (fun (X : World) (a : Addr) (u : Value) (h : X.cell? a = some u) => World.new_ne X a h)
      have ha1 : Below w1.heap.size w1 (w1.alloc (.cells #[.int .i64 0, .int .i64 0] 23)).drew := ((Below.refl w1.heap.size w1).alloc (Nat.le_refl _) _).drew
      have hB2 := HB1.out.trans (ha1.mono HB1.out.size)
      have K1a := hidb (K1.out.below ha1)
      have K1r := hidb ((K1.out.rest 23).below (Below.refl _ _).drew)
      obtain ⟨g0, g1, _, _, _, _, _, _⟩ := K1a.out.facts
      have g2 := HC.out _ ha1
      have HA1 := hidb ha1
      have HB2 := hidb hB2
      clear ha1 hB2
      go_region_held3 (fun W => W.cell? ⟨w.heap.size, 0, none⟩ = some (.int .i64 h0) ∧ W.cell? ⟨w.heap.size, 1, none⟩ = some (.int .i64 len) ∧ W.cell? ⟨b, off, none⟩ = some (.int .i64 a))
        (first | (go_keep; done) | (exact ⟨by assumption, by assumption, by assumption⟩))
        (first
          | (go_at_call 13; ((with_reducible refine (crm _ HB1.out.drew).mono ?_); rintro e w2 ⟨A5, c5, rfl, hsl5, hb5, hnew5⟩; obtain ⟨⟨x0, x1, x2⟩, hk, hc2⟩ := HPOP.out w2 A5 hsl5 hb5 hnew5; have m0 := HN0.out w2 _ _ x0; have m2 := HN0.out w2 _ _ x2; simp only at m0 m2; have K2 := hidb hk; clear hsl5 hb5 hnew5 hk))
          | (go_at_call 13; ((with_reducible refine (crm _ HB2.out).mono ?_); rintro e w2 ⟨A5, c5, rfl, hsl5, hb5, hnew5⟩; have K6 := hidb (K1a.out.below hb5); obtain ⟨x0, x1, _, _, _, _, _, _⟩ := K6.out.facts; have x2 := HC.out _ (HA1.out.trans (hb5.mono HA1.out.size)); have K7 := hidb (K1r.out.words2 hb5 hsl5 hnew5); obtain ⟨y0, y1, _, _, _, _, yf0, yf1⟩ := K7.out.facts; clear hsl5 hb5 hnew5)))
      all_goals clear p0 p1 r0 r1 rf0 rf1 pf0 pf1 g0 g1 g2 crm hc
      · clear x0 x1 x2 m0 m2
        obtain ⟨W3, hW3⟩ : ∃ W3, W3 = w2.alloc (.cells #[.int .i64 hj, .int .i64 lj] 23) := ⟨_, rfl⟩
        rw [← hW3] at K2 hc2 ⊢
        obtain ⟨p0, p1, r0, r1, rf0, rf1, pf0, pf1⟩ := K2.out.facts
        have l0 : w2.heap.size ≠ w.heap.size + 1 := K2.out.ne
        clear hW3
        go_wp2
        go_region
        all_goals go_wp2
        all_goals obtain ⟨s0, s1⟩ := two_cells8 W3 (w.heap.size + 1) (.int .i64 hj) (.int .i64 lj) _ _ r0 r1
        all_goals refine bodyPost_ret (v := .tuple #[.slice A5 n c5, .agg #[.int .i64 hj, .int .i64 lj], .int .i64 a, .int .i64 0]) (by simp [results, Try.results11, go_sem, s0, s1]) rfl ?_
        all_goals rw [HE.out]
        all_goals exact K2.out.fin4 c5 a 0 (by first | exact (Below.refl _ _).drew | exact Below.refl _ _)
      · have K2 := hidb (K7.out.set_ hj lj)
        have hc2 : ((w2.setCell ⟨w1.heap.size, 0, none⟩ (.int .i64 hj)).setCell ⟨w1.heap.size, 1, none⟩ (.int .i64 lj)).cell? ⟨b, off, none⟩ = some (.int .i64 a) := (two_aside _ _ _ e1 _ _ _).trans x2
        clear x0 x1 x2 y0 y1 yf0 yf1 K6
        obtain ⟨W3, hW3⟩ : ∃ W3, W3 = (w2.setCell ⟨w1.heap.size, 0, none⟩ (.int .i64 hj)).setCell ⟨w1.heap.size, 1, none⟩ (.int .i64 lj) := ⟨_, rfl⟩
        rw [← hW3] at K2 hc2 ⊢
        obtain ⟨p0, p1, r0, r1, rf0, rf1, pf0, pf1⟩ := K2.out.facts
        have l0 : w1.heap.size ≠ w.heap.size + 1 := K2.out.ne
        clear hW3
        go_wp2
        go_region
        all_goals go_wp2
        all_goals obtain ⟨s0, s1⟩ := two_cells8 W3 (w.heap.size + 1) (.int .i64 hj) (.int .i64 lj) _ _ r0 r1
        all_goals refine bodyPost_ret (v := .tuple #[.slice A5 n c5, .agg #[.int .i64 hj, .int .i64 lj], .int .i64 a, .int .i64 0]) (by simp [results, Try.results11, go_sem, s0, s1]) rfl ?_
        all_goals rw [HE.out]
        all_goals exact K2.out.fin4 c5 a 0 (by first | exact (Below.refl _ _).drew | exact Below.refl _ _)

end Go.Proofs.Ytcngcibiibchiaa
