/- What Size and Blocks of the document's own answers to layer 9 (pool) return. -/
import Derived.Test.YtcgfmpegakpddaaGreatZPoolSort
import Derived.Test.YtcgfmpegakpddaaGreatZNamedMap
import Derived.Test.YtcgfmpegakpddaaGreatZRows7
import Derived.Test.YtcgfmpegakpddaaGreatZHeapRefB
namespace Go.Proofs.YtcgfmpegakpddaaGreat
open Go.RowKit
set_option linter.unusedVariables false

theorem own_base {w : World} {base base' size n : Nat} {e : TypeId} {v : Value} {xs : List Value} (h : w.ownsRow base e size v n xs) (hb : base' ≤ base) : w.ownsRow base' e size v n xs := by
  refine ⟨h.1, ?_⟩
  rcases h.2 with h2 | ⟨g, cap, cur, h2, h3, h4⟩
  · exact Or.inl h2
  · exact Or.inr ⟨g, cap, cur, h2, Nat.le_trans hb h3, h4⟩

theorem ref_psize (o : Int) (w : World) (h0 : -9223372036854775808 ≤ o) (h1 : o ≤ 30) :
    Calls Tryz.prog 39 #[.int .i64 o] w fun e w' => e = .returned (.int .i64 (pSize o : Nat)) ∧ w = w' := by
  go_enter Tryz.func39, Tryz.ntmps39
  go_wp2
  go_loop [3, 4] (fun v i => ∃ (j : Nat) (x : Int), (j : Int) ≤ max o 0 ∧ 0 ≤ x ∧ x ≤ 17179869184 ∧ Hid (x = ((16 * 2 ^ j : Nat) : Int)) ∧ v = .int .i64 x ∧ i = .int .i64 j) (fun _ i => (o - intOf i).toNat)
  case atStart => exact ⟨0, 16, by omega, by omega, by omega, hidb rfl, rfl, rfl⟩
  case round =>
    obtain ⟨j, x, hj, hx0, hx1, HX, rfl, rfl⟩ := hrel
    by_cases hlt : (j : Int) < o
    · have HN : Hid (2 * x = ((16 * 2 ^ (j + 1) : Nat) : Int) ∧ 2 * x ≤ 17179869184) := hidb (by
        have h1 := HX.out
        have h2 : 2 ^ (j + 1) ≤ 2 ^ 30 := Nat.pow_le_pow_right (by omega) (by omega)
        have h3 : 2 ^ (j + 1) = 2 * 2 ^ j := by rw [Nat.pow_succ, Nat.mul_comm]
        have h4 : (2 : Nat) ^ 30 = 1073741824 := by decide
        omega)
      have hn2 := HN.out.2
      go_wp2
      go_round
      case rel => exact ⟨j + 1, 2 * x, by omega, by omega, hn2, hidb HN.out.1, rfl, by go_num⟩
      case measure => simp [intOf]; omega
    · have E : Hid (x = (pSize o : Nat)) := hidb (by
        rw [HX.out]
        unfold pSize
        rw [show o.toNat = j by omega])
      go_wp2
      go_ret
      exact ⟨by rw [E.out]; rfl, rfl⟩

theorem pSize_le (o : Int) (h : o ≤ 3) : 16 ≤ pSize o ∧ pSize o ≤ 128 := by
  unfold pSize
  have h1 : 2 ^ o.toNat ≤ 2 ^ 3 := Nat.pow_le_pow_right (by omega) (by omega)
  have h2 := Nat.pow_pos (n := o.toNat) (show 0 < 2 by omega)
  have h3 : (2 : Nat) ^ 3 = 8 := by decide
  omega

set_option maxRecDepth 100000 in
theorem ref_pblocks (id st len o : Int) (w : World) (h0 : 0 ≤ st) (h1 : 1 ≤ len) (h2 : st + len ≤ 1024) (h3 : -1 ≤ o) (h4 : o ≤ 3) :
    Calls Tryz.prog 29 #[.agg #[.int .i64 id, .int .i64 st, .int .i64 len, .int .i64 o]] w (OwnInts w (pBlocks (id, st, len, o))) := by
  obtain ⟨i0, hi, hz0, hz1, hz2⟩ := info_parts info_int
  obtain ⟨W0, hW0⟩ : ∃ W0, W0 = w.alloc (.cells #[.int .i64 id, .int .i64 st, .int .i64 len, .int .i64 o] 49) := ⟨_, rfl⟩
  have hz : W0.heap.size = w.heap.size + 1 := by rw [hW0]; simp
  have HB0 : Hid (Below w.heap.size w W0) := hidb (by rw [hW0]; exact (Below.refl _ _).alloc (Nat.le_refl _) _)
  have q1 : W0.cell? ⟨w.heap.size, 1, none⟩ = some (.int .i64 st) := by rw [hW0]; simp
  have q2 : W0.cell? ⟨w.heap.size, 2, none⟩ = some (.int .i64 len) := by rw [hW0]; simp
  have q3 : W0.cell? ⟨w.heap.size, 3, none⟩ = some (.int .i64 o) := by rw [hW0]; simp
  have HQ : Hid (∀ W, Below W0.heap.size W0 W → W.cell? ⟨w.heap.size, 1, none⟩ = some (.int .i64 st) ∧ W.cell? ⟨w.heap.size, 2, none⟩ = some (.int .i64 len) ∧ W.cell? ⟨w.heap.size, 3, none⟩ = some (.int .i64 o)) := hidb (fun W hb => by
    rw [hb.cell (p := ⟨w.heap.size, 1, none⟩) (by show w.heap.size < _; omega), hb.cell (p := ⟨w.heap.size, 2, none⟩) (by show w.heap.size < _; omega), hb.cell (p := ⟨w.heap.size, 3, none⟩) (by show w.heap.size < _; omega)]; exact ⟨q1, q2, q3⟩)
  obtain ⟨hs0, hs1⟩ := pSize_le o h4
  have cs := fun W => ref_psize o W (by omega) (by omega)
  have HM : Hid (∀ i : Nat, i < pMany len o ↔ i * pSize o < 64 * len.toNat) := hidb (pMany_iff len o)
  have HML : Hid (pMany len o ≤ 4096) := hidb (pMany_le len o (by omega))
  obtain ⟨sz, hsz⟩ : ∃ sz, pSize o = sz := ⟨_, rfl⟩
  rw [hsz] at hs0 hs1 cs HM
  obtain ⟨R, hR⟩ : ∃ R, pBlocks (id, st, len, o) = R := ⟨_, rfl⟩
  have HT : Hid (∀ i : Nat, i < pMany len o → R.take (i + 1) = R.take i ++ [64 * st + ((i * sz : Nat) : Int)]) := hidb (fun i h => by rw [← hR, pBlocks_take _ i h, hsz])
  have HRL : Hid (R.length = pMany len o) := hidb (by rw [← hR, pBlocks_length])
  rw [hR]
  have HW0 := hidb hW0
  have HFIN : Hid (∀ W A' c', W.ownsRow W0.heap.size 3 1 (.slice A' R.length c') R.length (R.map iv) → Below W0.heap.size W0 W → OwnInts w R (.returned (.slice A' R.length c')) W) := hidb (fun W A' c' ho hb => ⟨A', c', rfl, own_base ho (by omega), HB0.out.trans (hb.mono HB0.out.size)⟩)
  obtain ⟨N, hN⟩ : ∃ N, pMany len o = N := ⟨_, rfl⟩
  rw [hN] at HM HML HT HRL
  clear hR hsz q1 q2 q3 hN
  go_enter Tryz.func29, Tryz.ntmps29
  go_wp2
  rw [← hW0, ← hz]
  have hzz : w.heap.size < W0.heap.size := by omega
  clear hW0 hz
  go_loopw [3, 4] (fun v k wr => ∃ (i : Nat) (y : Int) (A' : Option Addr) (c' : Nat), i ≤ N ∧ 0 ≤ y ∧ y ≤ 66000 ∧ k = .int .i64 (64 * st + y) ∧ v = .slice A' i c' ∧ Hid (y = ((i * sz : Nat) : Int)) ∧ Hid (wr.ownsRow W0.heap.size 3 1 (.slice A' i c') i ((R.take i).map iv)) ∧ Hid (Below W0.heap.size W0 wr)) (fun _ k _ => (64 * (st + len) - intOf k).toNat)
  case atStart => exact ⟨0, 0, _, 0, by omega, by omega, by omega, by simp, rfl, hidb (by simp), hidb (by rw [List.take_zero]; exact ownsRow_empty W0 _), hidb ((Below.refl _ _).alloc (Nat.le_refl _) _)⟩
  case round =>
    obtain ⟨i, y, A', c', hi', hy0, hy1, rfl, rfl, HY, HOWN, HB⟩ := hrel
    obtain ⟨q1, q2, q3⟩ := HQ.out _ HB.out
    have hown := HOWN.out
    have hsz := HB.out.size
    have hm4 := HML.out
    have HI : Hid (i < N ↔ y < 64 * len) := hidb (by
      rw [HM.out i, HY.out]; omega)
    by_cases hlt : y < 64 * len
    · have hiN := HI.out.2 hlt
      have HT2 := hidb (HT.out i hiN)
      have HY2 : Hid (y + (sz : Int) = (((i + 1) * sz : Nat) : Int)) := hidb (by rw [HY.out, Nat.add_mul, Nat.one_mul]; omega)
      go_wp2_with (first
        | (go_at_call 39; (with_reducible refine (cs _).mono ?_); rintro e w' ⟨rfl, rfl⟩)
        | (at_builtin; refine wpList_append_one wr rfl _ _ 38 rfl W0.heap.size 3 i0 (.int .i64 0) 8 Tryz.underlying38 hi hz0 hz1 hz2 rfl _ _ _ rfl (by exact hown) hsz (.int .i64 (64 * st + y)) rfl _ rfl (by unfold maxLen; omega) (by omega) ?_; intro v1 w1 hown1 hb1; obtain ⟨A3, c3, rfl⟩ := own_form hown1; obtain ⟨r1, r2, r3⟩ := HQ.out _ (HB.out.trans hb1); have HO1 := hidb hown1; have HB1 := hidb (HB.out.trans hb1); clear hown1 hb1))
      have HO2 : Hid (w1.ownsRow W0.heap.size 3 1 (.slice A3 (i + 1) c3) (i + 1) ((R.take (i + 1)).map iv)) := hidb (by
        have e : 64 * st + ((i * sz : Nat) : Int) = 64 * st + y := by rw [HY.out]
        rw [HT2.out, List.map_append, e]
        exact HO1.out)
      exact ⟨⟨i + 1, y + (sz : Int), A3, c3, by omega, by omega, by omega, by rw [Int.add_assoc], rfl, HY2, HO2, HB1⟩, by simp [intOf]; omega⟩
    · have hiN : i = N := by
        rcases Nat.lt_or_ge i N with c | c
        · exact absurd (HI.out.1 c) hlt
        · omega
      subst hiN
      have P : Hid (OwnInts w R (.returned (.slice A' i c')) wr) := hidb (by
        have hl := HRL.out
        rw [List.take_of_length_le (by omega)] at hown
        have h1 := HFIN.out wr A' c' (by rw [hl]; exact hown) HB.out
        rw [hl] at h1
        exact h1)
      clear hown HOWN
      go_wp2
      go_ret
      exact P.out

end Go.Proofs.YtcgfmpegakpddaaGreat
/- The document's own pool in memory: rows of spans with lists; what 'of' returns. -/
namespace Go.Proofs.YtcgfmpegakpddaaGreat
open Go.RowKit
set_option linter.unusedVariables false

/-- A span, and where its list lies. -/
structure CV where
  s : Int × Int × Int × Int
  A : Option Addr
  n : Nat
  c : Nat
  l : List Int

def ccells (y : CV) : List Value := [iv y.s.1, iv y.s.2.1, iv y.s.2.2.1, iv y.s.2.2.2, .slice y.A y.n y.c]
def CV.plain (y : CV) : (Int × Int × Int × Int) × List Int := (y.s, y.l)
/-- A span's numbers are in their ranges. -/
def SpanOk (s : Int × Int × Int × Int) : Prop := 0 ≤ s.2.1 ∧ 1 ≤ s.2.2.1 ∧ s.2.1 + s.2.2.1 ≤ 1024 ∧ -1 ≤ s.2.2.2 ∧ s.2.2.2 ≤ 3
/-- The slice value '.slice A n c' has these spans, and their lists; none of it lies in blocks that aren't of P. -/
structure Cn (w : World) (P : Nat → Prop) (A : Option Addr) (n : Nat) (ys : List CV) : Prop where
  row : RowOf (fun cs y => cs = ccells y) 5 w w.heap.size A n ys
  lists : ∀ y ∈ ys, Sl w w.heap.size y.A y.n (y.l.map iv) ∧ y.n ≤ y.c ∧ y.c ≤ 9223372036854775807 ∧ (y.A = none → y.c = 0) ∧ InP P y.A ∧ y.n ≤ 65536
  inp : InP P A
  ok : ∀ y ∈ ys, SpanOk y.s
theorem Cn.below {w w' : World} {P : Nat → Prop} {A : Option Addr} {n : Nat} {ys : List CV} (h : Cn w P A n ys) (hb : Below w.heap.size w w') : Cn w' P A n ys :=
  ⟨(RowOf.below h.row hb).more hb.size, fun y hy => by
    obtain ⟨h1, h2⟩ := h.lists y hy
    exact ⟨(h1.below hb).more hb.size, h2⟩, h.inp, h.ok⟩
theorem Cn.at_ {w : World} {P : Nat → Prop} {A : Option Addr} {n : Nat} {ys : List CV} (h : Cn w P A n ys) {j : Nat} (hj : j < n) :
    ∃ b off y, A = some ⟨b, off, none⟩ ∧ ys[j]? = some y ∧ b < w.heap.size ∧ w.cell? ⟨b, off + j * 5, none⟩ = some (.int .i64 y.s.1) ∧ w.cell? ⟨b, off + j * 5 + 1, none⟩ = some (.int .i64 y.s.2.1) ∧ w.cell? ⟨b, off + j * 5 + 2, none⟩ = some (.int .i64 y.s.2.2.1) ∧ w.cell? ⟨b, off + j * 5 + 3, none⟩ = some (.int .i64 y.s.2.2.2) ∧ w.cell? ⟨b, off + j * 5 + 4, none⟩ = some (.slice y.A y.n y.c) := by
  obtain ⟨b, off, y, cs, e, hb, hy, _, hc, rfl⟩ := RowOf.at_ h.row hj
  exact ⟨b, off, y, e, hy, hb, hc 0 (by omega), hc 1 (by omega), hc 2 (by omega), hc 3 (by omega), hc 4 (by omega)⟩
/-- The value of a pool: its heap's parts, its row of spans, whether it is held. -/
def pval (pg : Int) (A : Option Addr) (n c : Nat) (A2 : Option Addr) (n2 c2 : Nat) (la : Int) (A3 : Option Addr) (n3 c3 : Nat) (held : Bool) : Value := .agg #[.int .i64 pg, .slice A n c, .slice A2 n2 c2, .int .i64 la, .slice A3 n3 c3, .bool held]

set_option maxRecDepth 100000 in
theorem ref_pof (P : Nat → Prop) (pg la : Int) (A A2 A3 : Option Addr) (n c n2 c2 n3 c3 : Nat) (held : Bool) (ys : List CV) (at' : Int) (w : World) (hs : Cn w P A3 n3 ys) (hn : n3 ≤ 65536) (ha : in64 at') :
    Calls Tryz.prog 64 #[pval pg A n c A2 n2 c2 la A3 n3 c3 held, .int .i64 at'] w fun e w' => e = .returned (.int .i64 (idxInt (pOf (ys.map CV.plain) at'))) ∧ Below w.heap.size w w' := by
  have l3 : ys.length = n3 := hs.row.1
  obtain ⟨W0, hW0⟩ : ∃ W0, W0 = w.alloc (.cells #[.int .i64 pg, .slice A n c, .slice A2 n2 c2, .int .i64 la, .slice A3 n3 c3, .bool held] 35) := ⟨_, rfl⟩
  have hz : W0.heap.size = w.heap.size + 1 := by rw [hW0]; simp
  have HB0 : Hid (Below w.heap.size w W0) := hidb (by rw [hW0]; exact (Below.refl _ _).alloc (Nat.le_refl _) _)
  have q4 : W0.cell? ⟨w.heap.size, 4, none⟩ = some (.slice A3 n3 c3) := by rw [hW0]; simp
  have HQ : Hid (∀ W, Below W0.heap.size W0 W → W.cell? ⟨w.heap.size, 4, none⟩ = some (.slice A3 n3 c3)) := hidb (fun W hb => by
    rw [hb.cell (p := ⟨w.heap.size, 4, none⟩) (by show w.heap.size < _; omega)]; exact q4)
  have HS : Hid (∀ W, Below W0.heap.size W0 W → Cn W P A3 n3 ys) := hidb (fun W hb => (hs.below HB0.out).below hb)
  have HE : Hid (∀ W, Below W0.heap.size W0 W → Below w.heap.size w W) := hidb (fun W hb => HB0.out.trans (hb.mono HB0.out.size))
  obtain ⟨R, hR⟩ : ∃ R, idxInt (pOf (ys.map CV.plain) at') = R := ⟨_, rfl⟩
  rw [hR]
  have HYES : Hid (∀ j y, j < n3 → ys[j]? = some y → (∀ i, i < j → ∀ z, ys[i]? = some z → at' ∉ pBlocks z.s) → at' ∈ pBlocks y.s → R = (j : Int)) := hidb (fun j y hj hy h1 h2 => by
    rw [← hR]
    unfold pOf
    rw [findIdx_first _ _ j (fun i hi z hz' => ?_) (fun z hz' => ?_) (by rw [List.length_map, l3]; exact hj)]
    · rfl
    · rw [List.getElem?_map] at hz'
      obtain ⟨z0, hz0, rfl⟩ := Option.map_eq_some_iff.1 hz'
      exact decide_eq_false (h1 i hi z0 hz0)
    · rw [List.getElem?_map, hy] at hz'
      obtain rfl := Option.some.inj hz'
      exact decide_eq_true h2)
  have HNO : Hid ((∀ i, i < n3 → ∀ z, ys[i]? = some z → at' ∉ pBlocks z.s) → R = -1) := hidb (fun h1 => by
    rw [← hR]
    unfold pOf
    rw [findIdx_none _ _ (fun i z hz' => ?_)]
    · rfl
    · rw [List.getElem?_map] at hz'
      obtain ⟨z0, hz0, rfl⟩ := Option.map_eq_some_iff.1 hz'
      exact decide_eq_false (h1 i (by have := (List.getElem?_eq_some_iff.1 hz0).1; omega) z0 hz0))
  unfold pval
  have ha0 := ha.1
  have ha1 := ha.2
  clear hs q4 hR ha
  go_enter Tryz.func64, Tryz.ntmps64
  go_wp2
  rw [← hW0]
  clear hW0
  go_loopw [9] (fun k wr => ∃ j : Nat, j ≤ n3 ∧ k = .int .i64 j ∧ Hid (∀ i, i < j → ∀ z, ys[i]? = some z → at' ∉ pBlocks z.s) ∧ Hid (Below W0.heap.size W0 wr)) (fun k _ => (n3 - intOf k).toNat)
  case atStart => exact ⟨0, Nat.zero_le _, rfl, hidb (fun i h => absurd h (Nat.not_lt_zero _)), hidb (Below.refl _ _)⟩
  case round =>
    obtain ⟨j, hj, rfl, HA, HB⟩ := hrel
    have hj0 : (0 : Int) ≤ (j : Int) := by omega
    by_cases hlt : j < n3
    · have hj1 : (j : Int) < (n3 : Int) := by omega
      have q4 := HQ.out _ HB.out
      have hcn := HS.out _ HB.out
      obtain ⟨b, off, y, rfl, hy, hb, c0, c1, c2, c3', c4⟩ := hcn.at_ hlt
      obtain ⟨o1, o2, o3, o4, o5⟩ := hcn.ok y (List.mem_of_getElem? hy)
      have cb := ref_pblocks y.s.1 y.s.2.1 y.s.2.2.1 y.s.2.2.2 wr o1 o2 o3 o4 o5
      obtain ⟨L, hL⟩ : ∃ L, pBlocks y.s = L := ⟨_, rfl⟩
      have hLl : L.length ≤ 65536 := by
        rw [← hL, pBlocks_length]
        have := pMany_le y.s.2.2.1 y.s.2.2.2 (by omega)
        omega
      rw [show pBlocks (y.s.1, y.s.2.1, y.s.2.2.1, y.s.2.2.2) = L from hL] at cb
      unfold OwnInts at cb
      have HY := hidb hy
      have HL := hidb hL
      have hsz := HB.out.size
      clear hcn hy hL hb
      by_cases e : at' ∈ L
      · have HR2 : Hid (R = (j : Int)) := hidb (HYES.out j y hlt HY.out HA.out (by rw [HL.out]; exact e))
        have he : decide (at' ∈ L) = true := decide_eq_true e
        clear e
        go_wp2_with (first
          | (go_at_call 29; (with_reducible refine cb.mono ?_); rintro e w1 ⟨A5, c5, rfl, hown, hb1⟩; have ci := ref_bin A5 L.length c5 L at' w1 w1.heap.size (Sl.of_own hown) (by omega); rw [he] at ci; have HB1 := hidb (HB.out.trans (hb1.mono hsz)); clear hown hb1)
          | (go_at_call 30; (with_reducible refine ci.mono ?_); rintro e w' ⟨rfl, rfl⟩))
        go_ret
        exact ⟨by rw [HR2.out]; rfl, HE.out _ HB1.out⟩
      · have he : decide (at' ∈ L) = false := decide_eq_false e
        have HA2 : Hid (∀ i, i < j + 1 → ∀ z, ys[i]? = some z → at' ∉ pBlocks z.s) := hidb (fun i hi z hz' => by
          by_cases e2 : i = j
          · subst e2
            rw [HY.out] at hz'
            obtain rfl := Option.some.inj hz'
            rw [HL.out]; exact e
          · exact HA.out i (by omega) z hz')
        clear e
        go_wp2_with (first
          | (go_at_call 29; (with_reducible refine cb.mono ?_); rintro e w1 ⟨A5, c5, rfl, hown, hb1⟩; have ci := ref_bin A5 L.length c5 L at' w1 w1.heap.size (Sl.of_own hown) (by omega); rw [he] at ci; have HB1 := hidb (HB.out.trans (hb1.mono hsz)); clear hown hb1)
          | (go_at_call 30; (with_reducible refine ci.mono ?_); rintro e w' ⟨rfl, rfl⟩))
        go_roundw
        case rel => exact ⟨j + 1, by omega, by go_num, HA2, HB1⟩
        case measure => simp [intOf]; omega
    · have HR2 : Hid (R = -1) := hidb (HNO.out (fun i hi z hz' => HA.out i (by omega) z hz'))
      go_wp2
      go_ret
      exact ⟨by rw [HR2.out]; rfl, HE.out _ HB.out⟩

end Go.Proofs.YtcgfmpegakpddaaGreat
