/- What cut of layer 8 (chain) does: one block is taken out. -/
import Derived.Test.YtcngcibiibchiaaChainObj
namespace Go.Proofs.Ytcngcibiibchiaa
open Go.RowKit
set_option linter.unusedVariables false

theorem Sl.one_ (W : World) (x : Nat) (t : TypeId) : Sl (W.alloc (.cells #[.int .u64 (x : Int)] t)) (W.alloc (.cells #[.int .u64 (x : Int)] t)).heap.size (some ⟨W.heap.size, 0, none⟩) 1 ([x].map wv) :=
  ⟨rfl, fun _ => ⟨W.heap.size, 0, rfl, by simp, fun j hj => by
    obtain rfl : j = 0 := by omega
    rw [World.cell?_alloc_at _ _ _ _ rfl]
    rfl⟩⟩
/-- The words behind a call, and nothing else of old. -/
def ArTo (w : World) (B p g n : Nat) (ws : List Nat) (w' : World) : Prop := Ar w' B p g n ws ∧ w.grownBy w' (some g)

set_option maxRecDepth 100000 in
set_option maxHeartbeats 1000000 in
theorem code_ccut {p g n : Nat} {ws : List Nat} {w : World} {B : Nat} (ha : Ar w B p g n ws) (h len : Int) (A : Option Addr) (m c : Nat) (l : List Int) (i : Nat) (hs : Sl w w.heap.size A m (l.map iv)) (hA : ∀ a, A = some a → a.block ≠ g) (hc : cList ws (h, len) = some l) (hi : i < m) :
    Calls Try.prog 31 #[.pointer (some ⟨p, 0, none⟩), .agg #[.int .i64 h, .int .i64 len], .slice A m c, .int .i64 (i : Int)] w fun e w' => e = .returned (.agg #[.int .i64 (kHead ws h l i), .int .i64 (len - 1)]) ∧ ArTo w B p g n (kWords ws l i) w' := by
  have l1 : ws.length = n := ha.hlen
  have hn := ha.small
  have hlm : l.length = m := by have := hs.1; simpa using this
  obtain ⟨k, hd, hlen⟩ := cList_iff.1 hc
  have hm := nodup_le ws.length l hd k.mem
  have hgetD : ∀ {j : Nat} {z : Int}, l[j]? = some z → l.getD j 0 = z := fun {j z} e => by rw [List.getD_eq_getElem?_getD, e]; rfl
  obtain ⟨b, off, z, hAe, hx, _⟩ := hs.int_ (j := i) hi
  have hz := k.mem z (List.mem_of_getElem? hx)
  obtain ⟨a, rfl⟩ : ∃ a : Nat, z = (a : Int) := ⟨z.toNat, by omega⟩
  subst hAe
  have HSL : Hid (∀ W, w.grownBy W (some g) → Sl W w.heap.size (some ⟨b, off, none⟩) m (l.map iv)) := hidb (fun W hg => hs.beside hg (fun _ => hA))
  have HCI : Hid (∀ W, w.grownBy W (some g) → W.cell? ⟨b, off + i, none⟩ = some (.int .i64 (a : Int))) := hidb (fun W hg => by
    obtain ⟨b2, off2, z2, e2, hx2, hc2⟩ := (HSL.out W hg).int_ (j := i) hi
    obtain ⟨rfl, rfl⟩ : b = b2 ∧ off = off2 := by simpa using e2
    rw [hx] at hx2
    obtain rfl := Option.some.inj hx2
    exact hc2)
  obtain ⟨x, hwx⟩ : ∃ x, ws[a]? = some x := ⟨_, List.getElem?_eq_getElem (by omega)⟩
  have hga := hgetD hx
  have hgx : ws.getD a 0 = x := by rw [List.getD_eq_getElem?_getD, hwx]; rfl
  have hxn : x ≤ n := by
    have e := split_at (l := l) (i := i) (by omega)
    rw [hga] at e
    have k2 := e ▸ k
    have := k2.behind.range
    rw [show ((a : Int)).toNat = a from rfl, hgx] at this
    omega
  obtain ⟨W0, hW0⟩ : ∃ W0, W0 = (w.alloc (.cells #[.int .i64 h, .int .i64 len] 23)).alloc (.cells #[.int .i64 0, .int .i64 0] 23) := ⟨_, rfl⟩
  have k0 : ChSt w W0 B p g n w.heap.size (w.heap.size + 1) ws h len := by rw [hW0]; exact ChSt.start ha h len _ _
  have hi0 : (0 : Int) ≤ (i : Int) := by omega
  have hi1 : (i : Int) < (m : Int) := by omega
  have hwrx : IntKind.i64.wrap (x : Int) = (x : Int) := IntWalk.i64_in _ (by omega)
  have hwl : IntKind.i64.wrap (len - 1) = len - 1 := IntWalk.i64_in _ (by omega)
  have cl := code_aload a x k0.ar hwx
  have hci0 := HCI.out _ k0.gr
  rw [hW0] at hci0
  have K0 := hidb k0
  have L1 := hidb l1
  have HW0 := hidb hW0
  have han : a < n := by omega
  have HAN := hidb han
  have CZ : Hid (∀ W ws', Ar W B p g n ws' → Calls Try.prog 46 #[.pointer (some ⟨p, 0, none⟩), .int .i64 (a : Int), .int .i64 1] W fun e w' => e = .returned (.int .i64 0) ∧ Ar w' B p g n (ws'.set a 0) ∧ W.grownBy w' (some g)) := hidb (fun W ws' hh => by
    have := code_azero a 1 hh (by omega)
    rw [show List.replicate 1 0 = [0] from rfl, aStore_one (by have := hh.hlen; omega)] at this
    exact this)
  by_cases h0 : i = 0
  · have hbi : ((i : Int) == 0) = true := by simp [h0]
    have HE : Hid (kWords ws l i = ws.set a 0 ∧ kHead ws h l i = (x : Int)) := hidb (by
      unfold kWords kHead
      rw [if_pos h0, if_pos h0, hga, show ((a : Int)).toNat = a from rfl, hgx]
      exact ⟨rfl, rfl⟩)
    rw [HE.out.1, HE.out.2]
    clear ha hs hA hc k hd hlen hm hgetD hx hz hga hgx hwx k0 hW0 l1 han hlm hxn h0
    go_enter Try.func31, Try.ntmps31
    go_wp2_with (first
      | (go_at_call 24; rw [← HW0.out]; (with_reducible refine cl.mono ?_); rintro e w1 ⟨rfl, hb1⟩; have K1 := hidb (K0.out.below hb1); obtain ⟨p0, p1, r0, r1, rf0, rf1, pf0, pf1⟩ := K1.out.facts; have K2 := hidb (K1.out.set0 (x : Int)); have hc1 := HCI.out _ K2.out.gr; have CZ1 := CZ.out _ _ K2.out.ar; clear hb1)
      | (go_at_call 46; (with_reducible refine CZ1.mono ?_); rintro e w2 ⟨rfl, ha2, hg2⟩; have K3 := hidb (K2.out.step hg2 ha2); obtain ⟨s0, s1, t0, t1, tf0, tf1, sf0, sf1⟩ := K3.out.facts; have K4 := hidb (K3.out.set1 (len - 1)); obtain ⟨u0, u1, v0, v1, vf0, vf1, uf0, uf1⟩ := K4.out.facts; clear ha2 hg2))
    obtain ⟨y0, y1⟩ := two_cells8 (w2.setCell ⟨w.heap.size, 1, none⟩ (.int .i64 (len - 1))) (w.heap.size + 1) (.int .i64 (x : Int)) (.int .i64 (len - 1)) _ _ v0 v1
    refine bodyPost_ret (v := .agg #[.int .i64 (x : Int), .int .i64 (len - 1)]) (by simp [results, Try.results31, go_sem, y0, y1]) rfl ?_
    exact ⟨rfl, K4.out.fin _ _⟩
  · have hbi : ((i : Int) == 0) = false := by simpa using h0
    obtain ⟨b2, off2, z2, hAe2, hx2, _⟩ := hs.int_ (j := i - 1) (by omega)
    obtain ⟨rfl, rfl⟩ : b = b2 ∧ off = off2 := by simpa using hAe2
    have hz2 := k.mem z2 (List.mem_of_getElem? hx2)
    obtain ⟨y, rfl⟩ : ∃ y : Nat, z2 = (y : Int) := ⟨z2.toNat, by omega⟩
    have hgy := hgetD hx2
    have HCP : Hid (∀ W, w.grownBy W (some g) → W.cell? ⟨b, off + (i - 1), none⟩ = some (.int .i64 (y : Int))) := hidb (fun W hg => by
      obtain ⟨b3, off3, z3, e3, hx3, hc3⟩ := (HSL.out W hg).int_ (j := i - 1) (by omega)
      obtain ⟨rfl, rfl⟩ : b = b3 ∧ off = off3 := by simpa using e3
      rw [hx2] at hx3
      obtain rfl := Option.some.inj hx3
      exact hc3)
    have HE : Hid (kWords ws l i = (ws.set y x).set a 0 ∧ kHead ws h l i = h) := hidb (by
      unfold kWords kHead
      rw [if_neg h0, if_neg h0, hga, hgy, show ((a : Int)).toNat = a from rfl, show ((y : Int)).toNat = y from rfl, hgx]
      exact ⟨rfl, rfl⟩)
    have hyn : y < n := by omega
    have CS : Hid (∀ W, Ar W B p g n ws → Calls Try.prog 16 #[.pointer (some ⟨p, 0, none⟩), .int .i64 (y : Int), .slice (some ⟨W.heap.size, 0, none⟩) 1 1] (W.alloc (.cells #[.int .u64 (x : Int)] 31)) fun e w' => e = .returned (.int .i64 0) ∧ Ar w' B p g n (ws.set y x) ∧ W.grownBy w' (some g)) := hidb (fun W hh => by
      have := code_astore (ys := [x]) y (some ⟨W.heap.size, 0, none⟩) 1 1 (hh.alloc (.cells #[.int .u64 (x : Int)] 31)) (Sl.one_ W x _) (by omega)
      rw [aStore_one (by have := hh.hlen; omega)] at this
      exact this.mono fun e w' q => ⟨q.1, q.2.1, grown_trans (World.grownBy_alloc W _ _) q.2.2⟩)
    have hj0 : (0 : Int) ≤ (i : Int) - 1 := by omega
    have hj1 : (i : Int) - 1 < (m : Int) := by omega
    have hwi : IntKind.i64.wrap ((i : Int) - 1) = ((i - 1 : Nat) : Int) := by rw [IntWalk.i64_in _ (by omega)]; omega
    rw [HE.out.1, HE.out.2]
    have hj0 : (0 : Int) ≤ ((i - 1 : Nat) : Int) := by omega
    have hj1 : ((i - 1 : Nat) : Int) < (m : Int) := by omega
    obtain ⟨i1, hi1e⟩ : ∃ i1 : Nat, i - 1 = i1 := ⟨_, rfl⟩
    rw [hi1e] at hwi hj0 hj1 HCP
    clear ha hs hA hc k hd hlen hm hgetD hx hz hga hgx hwx k0 hW0 l1 han hlm hxn h0 hx2 hz2 hgy hi1e hyn hAe2
    go_enter Try.func31, Try.ntmps31
    go_wp2_with (first
      | (go_at_call 24; rw [← HW0.out]; (with_reducible refine cl.mono ?_); rintro e w1 ⟨rfl, hb1⟩; have K1 := hidb (K0.out.below hb1); have hc1 := HCP.out _ K1.out.gr; have CS1 := CS.out _ K1.out.ar; clear hb1)
      | (go_at_call 16; (with_reducible refine CS1.mono ?_); rintro e w2 ⟨rfl, ha2, hg2⟩; have K2 := hidb (K1.out.step hg2 ha2); have hc2 := HCI.out _ K2.out.gr; have CZ1 := CZ.out _ _ K2.out.ar; clear ha2 hg2)
      | (go_at_call 46; (with_reducible refine CZ1.mono ?_); rintro e w3 ⟨rfl, ha3, hg3⟩; have K3 := hidb (K2.out.step hg3 ha3); obtain ⟨s0, s1, t0, t1, tf0, tf1, sf0, sf1⟩ := K3.out.facts; have K4 := hidb (K3.out.set1 (len - 1)); obtain ⟨u0, u1, v0, v1, vf0, vf1, uf0, uf1⟩ := K4.out.facts; clear ha3 hg3))
    obtain ⟨y0, y1⟩ := two_cells8 (w3.setCell ⟨w.heap.size, 1, none⟩ (.int .i64 (len - 1))) (w.heap.size + 1) (.int .i64 h) (.int .i64 (len - 1)) _ _ v0 v1
    refine bodyPost_ret (v := .agg #[.int .i64 h, .int .i64 (len - 1)]) (by simp [results, Try.results31, go_sem, y0, y1]) rfl ?_
    exact ⟨rfl, K4.out.fin _ _⟩

end Go.Proofs.Ytcngcibiibchiaa
