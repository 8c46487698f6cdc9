/- The walk of layer 8's ChainLeaves. -/
import Derived.Test.YtcngcibiibchiaaChainLast0
import Derived.Test.YtcngcibiibchiaaAppendRow
import Derived.Deep.Cut
import Derived.Deep.CutRange
import Derived.Deep.AppendLies
namespace Go.Proofs.Ytcngcibiibchiaa
open Go.RowKit
set_option linter.unusedVariables false

/-- The others behind t, from behind. -/
def wantT (l : List Int) (a : Int) (t : Nat) : List Int := (l.drop t).reverse.filter (fun x => x != a)
theorem wantT_end (l : List Int) (a : Int) : wantT l a l.length = [] := by unfold wantT; rw [List.drop_length]; rfl
theorem wantT_zero (l : List Int) (a : Int) : wantT l a 0 = l.reverse.filter (fun x => x != a) := rfl
theorem drop_rev8 {l : List Int} {t : Nat} {x : Int} (hx : l[t]? = some x) : (l.drop t).reverse = (l.drop (t + 1)).reverse ++ [x] := by
  obtain ⟨h, e⟩ := List.getElem?_eq_some_iff.1 hx
  rw [List.drop_eq_getElem_cons h, List.reverse_cons, e]
theorem wantT_same {l : List Int} {a : Int} {t : Nat} (hx : l[t]? = some a) : wantT l a t = wantT l a (t + 1) := by
  unfold wantT
  rw [drop_rev8 hx, List.filter_append]
  simp
theorem wantT_step {l : List Int} {a x : Int} {t : Nat} (hx : l[t]? = some x) (e : x ≠ a) : wantT l a t = wantT l a (t + 1) ++ [x] := by
  unfold wantT
  rw [drop_rev8 hx, List.filter_append, show [x].filter (fun x => x != a) = [x] by simp [e]]
theorem wantT_le (l : List Int) (a : Int) (t : Nat) : (wantT l a t).length ≤ l.length := by
  unfold wantT
  refine Nat.le_trans (List.length_filter_le _ _) ?_
  rw [List.length_reverse, List.length_drop]
  omega
theorem list_some {w : World} {v : Array Value} {l : List Int} {f : FuncId} (c : Calls Try.prog f v w (ResList w (some l))) (hl : l.length ≤ 65536) :
    Calls Try.prog f v w fun e w' => ∃ A m c, e = .returned (.tuple #[.slice A m c, .int .i64 0]) ∧ m ≤ 65536 ∧ Sl w' w'.heap.size A m (l.map iv) ∧ Below w.heap.size w w' :=
  c.mono fun e w' q => by
    obtain ⟨A, m, c2, out, e1, h1, _, h3, _, h5, _⟩ := q
    obtain rfl := h1 _ rfl
    have h4 := h3.1
    rw [List.length_map] at h4
    exact ⟨A, m, c2, e1, by omega, h3, h5⟩
theorem ints_same (A A2 : Option Addr) (n c m d : Nat) (xs : List Int) (w : World) (hs : Sl w w.heap.size A n (xs.map iv)) (hs2 : Sl w w.heap.size A2 m (xs.map iv)) (hn : n ≤ 65536) :
    Calls Try.prog 20 #[.slice A n c, .slice A2 m d] w fun e w' => e = .returned (.bool true) ∧ Below w.heap.size w w' := by
  have h1 := hs.1
  have h2 := hs2.1
  refine (ref_bints A A2 n c m d xs xs w w.heap.size w.heap.size hs hs2 (by omega) (by omega)).mono fun e w' q => ?_
  obtain ⟨e1, k, rfl⟩ := q
  exact ⟨by rw [e1]; simp, belowN (Below.refl _ _) k⟩
theorem one_int8 (W : World) (x : Int) (t : TypeId) : Sl (W.alloc (.cells #[.int .i64 x] t)) (W.alloc (.cells #[.int .i64 x] t)).heap.size (some ⟨W.heap.size, 0, none⟩) 1 ([x].map iv) :=
  ⟨rfl, fun _ => ⟨W.heap.size, 0, rfl, by simp, fun j hj => by
    obtain rfl : j = 0 := by omega
    rw [World.cell?_alloc_at _ _ _ _ rfl]
    rfl⟩⟩
theorem bel_app {w w' : World} {x : Value} {t : TypeId} (hg : (w.alloc (.cells #[x] t)).grownBy w' (Value.slice (some ⟨w.heap.size, 0, none⟩) 1 1).ownBlock) : Below w.heap.size w w' :=
  ((Below.refl w.heap.size w).alloc (Nat.le_refl _) (.cells #[x] t)).grown hg (by simp) (fun k e => by
    have e2 : some w.heap.size = some k := e
    injection e2 with e2
    omega)
theorem one_own8 (w : World) (x : Value) (t : TypeId) : (w.alloc (.cells #[x] t)).ownsRow w.heap.size t 1 (.slice (some ⟨w.heap.size, 0, none⟩) 1 1) 1 [x] :=
  ⟨rfl, .inr ⟨w.heap.size, 1, _, rfl, Nat.le_refl _, heap_alloc_new w _, by omega, by unfold maxLen; omega, by simp, rfl⟩⟩
/-- What stands behind each step. -/
structure LeafF (l : List Int) (a : Int) (ws0 ws1 ws2 : List Nat) (h0 h1 h2 : Int) : Prop where
  p0 : cPush zs256 (0, 0) l = (ws0, (h0, (l.length : Int)), 0)
  r1 : cRemove ws0 (h0, (l.length : Int)) a = (ws1, (h1, (l.length : Int) - 1), 0)
  p2 : cPush ws1 (h1, (l.length : Int) - 1) [a] = (ws2, (h2, (l.length : Int)), 0)
  l1 : cList ws1 (h1, (l.length : Int) - 1) = some (wantT l a 0)
  l2 : cList ws2 (h2, (l.length : Int)) = some (a :: wantT l a 0)
  w0 : Wide ws0
  w1 : Wide ws1
  w2 : Wide ws2
  i0 : in64 h0
  i1 : in64 h1
  i2 : in64 h2
theorem head64 {w : List Nat} {c : Int × Int} {l : List Int} (h : cList w c = some l) (hn : w.length = 256) : in64 c.1 := by
  have := cList_head h
  unfold in64
  omega
theorem Wide.getD {w : List Nat} (h : Wide w) (i : Nat) : w.getD i 0 < 18446744073709551616 := by
  rw [List.getD_eq_getElem?_getD]
  cases e : w[i]? with
  | none => simp
  | some x => exact h x (List.mem_of_getElem? e)
theorem Wide.kWords {w : List Nat} (h : Wide w) (l : List Int) (i : Nat) : Wide (kWords w l i) := by
  unfold Go.Proofs.Ytcngcibiibchiaa.kWords
  split
  · exact h.set _ (by omega)
  · exact (h.set _ (h.getD _)).set _ (by omega)
theorem leaves_plain {l : List Int} {a : Int} {k : Nat} (hr : ∀ x ∈ l, 0 ≤ x ∧ x < 256) (hd : ∀ (i : Nat) (x : Int), l[i]? = some x → x ∉ l.take i) (ha : l[k]? = some a) : ∃ ws0 ws1 ws2 h0 h1 h2, LeafF l a ws0 ws1 ws2 h0 h1 h2 := by
  have hnd := nodup_takes hd
  have p0 := push_good zs256_length hr hd
  have hc := cAll_count l (zs256, ((0 : Int), (0 : Int)))
  have hln : (cAll (zs256, ((0 : Int), (0 : Int))) l).1.length = 256 := by rw [cAll_length]; exact zs256_length
  have l0 := push_list (m := l) (cList_none_ zs256) (by rw [List.append_nil]; exact hnd) (fun x hx => by rw [zs256_length]; exact hr x hx)
  have w0 : Wide (cAll (zs256, ((0 : Int), (0 : Int))) l).1 := Wide.cAll zs256_wide (by simp) (fun x hx => by have := hr x hx; omega)
  obtain ⟨⟨ws0, h0, n0⟩, hS⟩ : ∃ S, cAll (zs256, ((0 : Int), (0 : Int))) l = S := ⟨_, rfl⟩
  rw [hS] at p0 hc hln l0 w0
  simp only at p0 hc hln l0 w0
  obtain rfl : n0 = (l.length : Int) := by rw [hc]; simp
  rw [List.append_nil] at l0
  have hal : a ∈ l.reverse := List.mem_reverse.2 (List.mem_of_getElem? ha)
  obtain ⟨q1, q2, q3, q4⟩ := without_list l0 hal
  obtain ⟨i, hi, hia⟩ := List.getElem_of_mem hal
  have hga : l.reverse.getD i 0 = a := by rw [List.getD_eq_getElem?_getD, List.getElem?_eq_getElem hi, hia]; rfl
  have hce := cut_eq l0 hi
  rw [hga] at hce
  rw [hce] at q1 q2 q3 q4
  have r1 : cRemove ws0 (h0, (l.length : Int)) a = (kWords ws0 l.reverse i, (kHead ws0 h0 l.reverse i, (l.length : Int) - 1), 0) := by
    unfold cRemove
    rw [l0]
    simp only
    rw [if_pos hal, hce]
  have w1 : Wide (kWords ws0 l.reverse i) := w0.kWords _ _
  have ln1 : (kWords ws0 l.reverse i).length = 256 := by rw [kWords_length]; exact hln
  obtain ⟨ws1, hws1⟩ : ∃ x, kWords ws0 l.reverse i = x := ⟨_, rfl⟩
  obtain ⟨h1, hh1⟩ : ∃ x, kHead ws0 h0 l.reverse i = x := ⟨_, rfl⟩
  rw [hws1, hh1] at r1 q1
  rw [hws1] at w1 ln1
  have q1' : cList ws1 (h1, (l.length : Int) - 1) = some (wantT l a 0) := q1
  have hna : a ∉ wantT l a 0 := fun c => by
    have := (List.mem_filter.1 c).2
    simp at this
  have har := hr a (List.mem_of_getElem? ha)
  have p2 := push_list (m := [a]) q1' (by
    have := (cList_some q1').1
    exact List.nodup_cons.2 ⟨hna, this⟩) (fun x hx => by
    obtain rfl := List.mem_singleton.1 hx
    rw [ln1]; exact har)
  have hp2 : cPush ws1 (h1, (l.length : Int) - 1) [a] = ((cAll (ws1, (h1, (l.length : Int) - 1)) [a]).1, (cAll (ws1, (h1, (l.length : Int) - 1)) [a]).2, 0) := by
    unfold cPush
    rw [q1']
    simp only
    rw [ln1, cIn_yes (fun j y e => by
      obtain rfl := List.mem_singleton.1 (List.mem_of_getElem? e)
      omega), if_pos rfl, cClash_no (fun j hj => by
      obtain rfl : j = 0 := by simpa using hj
      exact ⟨hna, by simp⟩)]
    rfl
  have hst : cAll (ws1, (h1, (l.length : Int) - 1)) [a] = (ws1.set a.toNat h1.toNat, (a + 1, (l.length : Int) - 1 + 1)) := rfl
  rw [hst] at p2 hp2
  have e1 : (l.length : Int) - 1 + 1 = (l.length : Int) := by omega
  simp only at p2 hp2
  rw [e1] at p2 hp2
  have i1 := head64 q1' ln1
  simp only at i1
  have hb1 := cList_head q1'
  simp only at hb1
  exact ⟨ws0, ws1, _, h0, h1, _, p0, r1, hp2, q1', p2, w0, w1, w1.set _ (by omega), head64 l0 hln, i1, by unfold in64; omega⟩

set_option maxRecDepth 100000 in
set_option maxHeartbeats 4000000 in
theorem chainLeaves_bad (A1 : Option Addr) (n1 c1 : Nat) (l : List Int) (k : Nat) (w : World) (hs1 : Sl w w.heap.size A1 n1 (l.map iv)) (hl : ∀ x ∈ l, in64 x) (hn1 : n1 ≤ 100) (hk : k < n1)
    (no : Int) (hno : no ≠ 0) (hpu : cPush zs256 (0, 0) l = (zs256, ((0 : Int), (0 : Int)), no)) :
    Calls Try.prog 6 #[.slice A1 n1 c1, .int .i64 (k : Int)] w fun e w' => e = .returned (.bool true) ∧ Below w.heap.size w w' := by
  have ca := fun W => awake8 W
  have cn := code_new4 w
  have ll : l.length = n1 := by have := hs1.1; simpa using this
  have LL := hidb ll
  have HS1 : Hid (∀ W, Below w.heap.size w W → Sl W W.heap.size A1 n1 (l.map iv)) := hidb (fun W hb => (hs1.below hb).more hb.size)
  have HA1 : Hid (∀ a, 0 < n1 → A1 = some a → a.block < w.heap.size) := hidb (fun a h0 e => by
    obtain ⟨b, off, e2, hb, _⟩ := hs1.2 h0
    rw [e] at e2
    obtain rfl := Option.some.inj e2
    exact hb)
  have HLN := hidb hl
  have hk0 : ¬ (k : Int) < 0 := by omega
  have hk1 : ¬ (n1 : Int) ≤ (k : Int) := by omega
  have HPU := hidb hpu
  have hno1 : (no == 0) = false := by simpa using hno
  clear hpu hno
  clear hs1 ll hl
  go_enter Try.func6, Try.ntmps6
  go_wp2_with (first
    | (go_at_call 8; (with_reducible refine cn.mono ?_); rintro e w1 ⟨p, g, rfl, har, hb1⟩; have HAR := hidb har; have HB1 := hidb hb1; have cp := code_cpush har 0 0 (by unfold in64; omega) (by unfold in64; omega) zs256_wide A1 n1 c1 l (HS1.out w1 hb1) (fun h0 a e => by (have h1 := HA1.out a h0 e); (have h2 := har.geg); omega) (by omega) HLN.out; rw [HPU.out] at cp; clear har hb1)
    | (go_at_call 10; (with_reducible refine cp.mono ?_); rintro e w2 ⟨rfl, ha2, hg2⟩; have K2 := hidb (LSt.start ha2 (bel_ar HB1.out hg2 HAR.out.geg) 0 0 23); clear ha2 hg2 cp)
    | (go_at_call 7; (with_reducible refine (ca _).mono ?_); rintro e w9 ⟨rfl, hb9⟩))
  go_ret
  exact ⟨rfl, K2.out.bel.trans (hb9.mono K2.out.bel.size)⟩

set_option maxRecDepth 100000 in
set_option maxHeartbeats 4000000 in
theorem chainLeaves_good (A1 : Option Addr) (n1 c1 : Nat) (l : List Int) (k : Nat) (w : World) (hs1 : Sl w w.heap.size A1 n1 (l.map iv)) (hl : ∀ x ∈ l, in64 x) (hn1 : n1 ≤ 100) (hk : k < n1)
    (hr : ∀ x ∈ l, 0 ≤ x ∧ x < 256) (hd : ∀ (i : Nat) (x : Int), l[i]? = some x → x ∉ l.take i) :
    Calls Try.prog 6 #[.slice A1 n1 c1, .int .i64 (k : Int)] w fun e w' => e = .returned (.bool true) ∧ Below w.heap.size w w' := by
  have ca := fun W => awake8 W
  have cn := code_new4 w
  have ll : l.length = n1 := by have := hs1.1; simpa using this
  have LL := hidb ll
  have HS1 : Hid (∀ W, Below w.heap.size w W → Sl W W.heap.size A1 n1 (l.map iv)) := hidb (fun W hb => (hs1.below hb).more hb.size)
  have HA1 : Hid (∀ a, 0 < n1 → A1 = some a → a.block < w.heap.size) := hidb (fun a h0 e => by
    obtain ⟨b, off, e2, hb, _⟩ := hs1.2 h0
    rw [e] at e2
    obtain rfl := Option.some.inj e2
    exact hb)
  have HLN := hidb hl
  have hk0 : ¬ (k : Int) < 0 := by omega
  have hk1 : ¬ (n1 : Int) ≤ (k : Int) := by omega
  obtain ⟨a, hka⟩ : ∃ a, l[k]? = some a := ⟨_, List.getElem?_eq_getElem (by omega)⟩
  obtain ⟨ws0, ws1, ws2, h0, h1, h2, hF⟩ := leaves_plain hr hd hka
  have HF := hidb hF
  have HPU : Hid (cPush zs256 (0, 0) l = (ws0, (h0, (n1 : Int)), 0)) := hidb (by rw [← ll]; exact hF.p0)
  have HR := hidb hr
  have HDU := hidb (nodup_takes hd)
  have HKA := hidb hka
  have hwn : IntKind.i64.wrap ((n1 : Int) - 1) = (n1 : Int) - 1 := IntWalk.i64_in _ (by omega)
  clear hr hd hF hka
  clear hs1 ll hl
  go_enter Try.func6, Try.ntmps6
  go_wp2_with (first
    | (go_at_call 8; (with_reducible refine cn.mono ?_); rintro e w1 ⟨p, g, rfl, har, hb1⟩; have HAR := hidb har; have HB1 := hidb hb1; have cp := code_cpush har 0 0 (by unfold in64; omega) (by unfold in64; omega) zs256_wide A1 n1 c1 l (HS1.out w1 hb1) (fun h0 a e => by (have h1 := HA1.out a h0 e); (have h2 := har.geg); omega) (by omega) HLN.out; rw [HPU.out] at cp; clear har hb1)
    | (go_at_call 10; (with_reducible refine cp.mono ?_); rintro e w2 ⟨rfl, ha2, hg2⟩; have K2 := hidb (LSt.start ha2 (bel_ar HB1.out hg2 HAR.out.geg) h0 (n1 : Int) 23); clear ha2 hg2 cp))
  obtain ⟨cb, hcb⟩ : ∃ cb, cb = w2.heap.size := ⟨_, rfl⟩
  obtain ⟨W3, hW3⟩ : ∃ W3, W3 = w2.alloc (.cells #[.int .i64 h0, .int .i64 (n1 : Int)] 23) := ⟨_, rfl⟩
  have hz3 : W3.heap.size = w2.heap.size + 1 := by rw [hW3]; simp
  rw [← hW3] at K2 ⊢
  rw [← hz3]
  rw [← hcb] at K2 ⊢
  clear hW3 hz3 hcb
  have HWB : Hid (∀ W, Below W3.heap.size W3 W → LSt w W p g cb ws0 h0 (n1 : Int)) := hidb (fun W hb => K2.out.below hb)
  obtain ⟨i0, hi, hz0, hz1, hz2⟩ := info_parts info_int
  go_loopw [9, 10] (fun ov kv wr => ∃ (t : Nat) (z : Int) (A : Option Addr) (m c : Nat), t ≤ n1 ∧ kv = .int .i64 z ∧ z = (t : Int) - 1 ∧ ov = .slice A m c ∧ m ≤ n1 ∧ Hid (m = (wantT l a t).length) ∧ Hid (wr.ownsRow W3.heap.size 3 1 (.slice A m c) m ((wantT l a t).map iv)) ∧ Hid (Below W3.heap.size W3 wr)) (fun _ kv _ => (intOf kv + 1).toNat)
  case atStart => exact ⟨n1, _, _, 0, 0, Nat.le_refl _, rfl, rfl, rfl, Nat.zero_le _, hidb (by rw [← LL.out, wantT_end]; rfl), hidb (by rw [← LL.out, wantT_end]; exact ownsRow_empty W3 _), hidb ((Below.refl _ _).alloc (Nat.le_refl _) _)⟩
  case round =>
    obtain ⟨t, z, A, m, c, ht, rfl, hz, rfl, hm, HM, HO, HB⟩ := hrel
    by_cases ht0 : t = 0
    · subst ht0
      obtain rfl : z = -1 := by omega
      clear hz
      have K3 := hidb (HWB.out wr HB.out)
      have HCK : Hid (∀ W, Below w.heap.size w W → ∃ b off, A1 = some ⟨b, off, none⟩ ∧ W.cell? ⟨b, off + k, none⟩ = some (.int .i64 a)) := hidb (fun W hb => by
        obtain ⟨b, off, x, hA, hx, hc⟩ := (HS1.out W hb).int_ (j := k) hk
        rw [HKA.out] at hx
        obtain rfl := Option.some.inj hx
        exact ⟨b, off, hA, hc⟩)
      obtain ⟨b, off, hA, _⟩ := HCK.out wr K3.out.bel
      subst hA
      have HCK2 : Hid (∀ W, Below w.heap.size w W → W.cell? ⟨b, off + k, none⟩ = some (.int .i64 a)) := hidb (fun W hb => by
        obtain ⟨b2, off2, hA2, hc2⟩ := HCK.out W hb
        obtain ⟨rfl, rfl⟩ : b = b2 ∧ off = off2 := by simpa using hA2
        exact hc2)
      have hkk0 : (0 : Int) ≤ (k : Int) := by omega
      have hkk1 : (k : Int) < (n1 : Int) := by omega
      have KD := hidb (K3.out.below (Below.refl _ _).drew)
      have HOD := hidb (own_below HO.out (Below.refl wr.heap.size wr).drew)
      obtain ⟨c0, c1', f0, f1⟩ := K3.out.facts
      have hck := HCK2.out wr K3.out.bel
      have HMZ : Hid (m = (wantT l a 0).length) := HM
      have HOZ : Hid (wr.ownsRow W3.heap.size 3 1 (.slice A m c) m ((wantT l a 0).map iv)) := hidb HO.out
      have hgw : g < W3.heap.size := Nat.lt_of_lt_of_le K2.out.ar.lt (Nat.le_refl _)
      have hcw : cb < W3.heap.size := lt_of_cell K2.out.c0
      have HNS : Hid (∀ k, (Value.slice A m c).ownBlock = some k → ¬ (k = g ∨ k = cb)) := hidb (fun k e h => by
        have := (HOZ.out.lt k e).1
        omega)
      have HAN : Hid (A = none → m = 0) := hidb (fun e => by
        rcases HOZ.out.2 with ⟨q1, q2⟩ | ⟨gg, cap, cur, q1, _⟩
        · exact q2
        · rw [e] at q1; cases q1)
      have cr := code_cremove KD.out.ar h0 (n1 : Int) a HF.out.i0 (by unfold in64; omega) HF.out.w0 (HLN.out a (List.mem_of_getElem? HKA.out))
      rw [show cRemove ws0 (h0, (n1 : Int)) a = (ws1, (h1, (n1 : Int) - 1), 0) by rw [← LL.out]; exact HF.out.r1] at cr
      have hckd := HCK2.out wr.drew KD.out.bel
      obtain ⟨cd0, cd1, fd0, fd1⟩ := KD.out.facts
      clear HM HO HB
      go_wp2
      go_cut [8] from 67 to 76 (fun v wx => v = .int .i64 0 ∧ LSt w wx p g cb ws1 h1 ((n1 : Int) - 1) ∧ Kept (fun b => b = g ∨ b = cb) wr wx)
      case first =>
        go_region_law (first | (go_simp; go_at_call 14; (with_reducible refine cr.mono ?_); rintro e w5 ⟨rfl, ha5, hg5⟩; have K5 := hidb (KD.out.step hg5 ha5); have KE5 : Hid (Kept (fun b => b = g ∨ b = cb) wr w5) := hidb ((Kept.drew (Kept.refl _ wr)).grown hg5 (fun k e => by injection e with e; exact Or.inl (Or.inl e.symm))); obtain ⟨d0, d1, e0, e1⟩ := K5.out.facts; clear ha5 hg5))
        all_goals
          go_wp2_with fail
          go_meet
          exact ⟨rfl, K5.out.set_ _ _, (KE5.out.set (a := ⟨cb, 0, none⟩) (Or.inl (Or.inr rfl)) _).set (a := ⟨cb, 1, none⟩) (Or.inl (Or.inr rfl)) _⟩
      case rest =>
        obtain ⟨rfl, k6, kk6⟩ := hcut
        obtain ⟨W6, hW6⟩ : ∃ W6, W6 = wc := ⟨_, rfl⟩
        rw [← hW6] at k6 kk6 ⊢
        clear hW6 cr cd0 cd1 fd0 fd1 hckd c0 c1' f0 f1 hck
        have K6 := hidb k6
        have HO6 := hidb (own_kept HOZ.out kk6 HNS.out)
        clear k6 kk6
        have hwl : (wantT l a 0).length ≤ 65536 := by have := wantT_le l a 0; have := LL.out; omega
        have cl1 := code_clist K6.out.ar h1 ((n1 : Int) - 1) HF.out.i1 (by unfold in64; omega) HF.out.w1
        rw [show cList ws1 (h1, (n1 : Int) - 1) = some (wantT l a 0) by rw [← LL.out]; exact HF.out.l1] at cl1
        obtain ⟨c0, c1', f0, f1⟩ := K6.out.facts
        go_wp2_with (first
          | (go_at_call 18; (with_reducible refine (list_some cl1 hwl).mono ?_); rintro e w7 ⟨A7, m7, c7, rfl, hm7, h3', hb7⟩; have K7 := hidb (K6.out.below hb7); have HO7 := hidb (own_below HO6.out hb7); have cb1 := ints_same A7 A m7 c7 m c (wantT l a 0) w7 h3' (Sl.of_own HO7.out) hm7; clear h3' hb7)
          | (go_at_call 20; (with_reducible refine cb1.mono ?_); rintro e w8 ⟨rfl, hb8⟩; have K8 := hidb (K7.out.below hb8); have HO8 := hidb (own_below HO7.out hb8); clear hb8 cb1))
        have KD8 := hidb (K8.out.below (Below.refl _ _).drew)
        have KA8 := hidb ((K8.out.below ((Below.refl _ _).alloc (Nat.le_refl _) (.cells #[.int .i64 a] 3))).below (Below.refl _ _).drew)
        have hck8 := HCK2.out w8.drew KD8.out.bel
        have hck8' := HCK2.out _ KA8.out.bel
        have cp2 := code_cpush KA8.out.ar h1 ((n1 : Int) - 1) HF.out.i1 (by unfold in64; omega) HF.out.w1 (some ⟨w8.heap.size, 0, none⟩) 1 1 [a] (show Sl (w8.alloc (.cells #[.int .i64 a] 3)).drew (w8.alloc (.cells #[.int .i64 a] 3)).drew.heap.size (some ⟨w8.heap.size, 0, none⟩) 1 ([a].map iv) from one_int8 w8 a 3) (fun _ ad e => by
          obtain rfl := Option.some.inj e
          have := K8.out.ar.lt
          show w8.heap.size ≠ g
          omega) (by omega) (fun x hx => by
          obtain rfl := List.mem_singleton.1 hx
          exact HLN.out x (List.mem_of_getElem? HKA.out))
        rw [show cPush ws1 (h1, (n1 : Int) - 1) [a] = (ws2, (h2, (n1 : Int)), 0) by rw [← LL.out]; exact HF.out.p2] at cp2
        obtain ⟨cd0, cd1, fd0, fd1⟩ := KD8.out.facts
        obtain ⟨ce0, ce1, fe0, fe1⟩ := KA8.out.facts
        clear c0 c1' f0 f1 K7 HO7
        go_cut [8] from 95 to 105 (fun v wx => v = .int .i64 0 ∧ LSt w wx p g cb ws2 h2 (n1 : Int) ∧ Kept (fun b => b = g ∨ b = cb) w8 wx)
        case first =>
          go_region_law (first | (go_simp; go_at_call 10; (with_reducible refine cp2.mono ?_); rintro e w9 ⟨rfl, ha9, hg9⟩; have K9 := hidb (KA8.out.step hg9 ha9); have KE9 : Hid (Kept (fun b => b = g ∨ b = cb) w8 w9) := hidb ((Kept.of_below (((Below.refl w8.heap.size w8).alloc (Nat.le_refl _) _).drew) _).grown hg9 (fun k e => by injection e with e; exact Or.inl (Or.inl e.symm))); obtain ⟨d0, d1, e0, e1⟩ := K9.out.facts; clear ha9 hg9))
          all_goals
            go_wp2_with fail
            go_meet
            exact ⟨rfl, K9.out.set_ _ _, (KE9.out.set (a := ⟨cb, 0, none⟩) (Or.inl (Or.inr rfl)) _).set (a := ⟨cb, 1, none⟩) (Or.inl (Or.inr rfl)) _⟩
        case rest =>
          obtain ⟨rfl, k10, kk10⟩ := hcut
          obtain ⟨W10, hW10⟩ : ∃ W10, W10 = wc := ⟨_, rfl⟩
          rw [← hW10] at k10 kk10 ⊢
          clear hW10 cp2 cd0 cd1 fd0 fd1 ce0 ce1 fe0 fe1 hck8 hck8'
          have K10 := hidb k10
          have HO10 := hidb (own_kept HO8.out kk10 HNS.out)
          clear k10 kk10
          have hwl2 : (a :: wantT l a 0).length ≤ 65536 := by have := wantT_le l a 0; have := LL.out; simp only [List.length_cons]; omega
          have cl2 := code_clist K10.out.ar h2 (n1 : Int) HF.out.i2 (by unfold in64; omega) HF.out.w2
          rw [show cList ws2 (h2, (n1 : Int)) = some (a :: wantT l a 0) by rw [← LL.out]; exact HF.out.l2] at cl2
          obtain ⟨c0, c1', f0, f1⟩ := K10.out.facts
          go_wp2_with (first
            | (go_at_call 18; (with_reducible refine (list_some cl2 hwl2).mono ?_); go_loud (rintro e w11 ⟨A11, m11, c11, rfl, hm11, h3', hb11⟩; have K11 := hidb (K10.out.below hb11); have HO11 := hidb (own_below HO10.out hb11); have HL11 := hidb h3'; have hck := HCK2.out w11 K11.out.bel; have HON : Hid ((w11.alloc (.cells #[.int .i64 a] 3)).ownsRow w11.heap.size 3 1 (.slice (some ⟨w11.heap.size, 0, none⟩) 1 1) 1 [.int .i64 a]) := hidb (one_own8 w11 (.int .i64 a) _); have HCN := hidb (sl_cells (Sl.of_own (HO11.out.alloc (.cells #[.int .i64 a] 3)))); clear h3' hb11))
            | (at_builtin; refine wpList_unguard rfl ?_; refine wpList_append_rowN _ rfl (.tmp 124) (.tmp 125) 32 rfl w11.heap.size 3 i0 (.int .i64 0) 1 8 Try.underlying32 hi hz0 hz1 hz2 rfl (by decide) (.slice (some ⟨w11.heap.size, 0, none⟩) 1 1) 1 [.int .i64 a] rfl HON.out (by simp) A m c ((wantT l a 0).map iv) rfl (by rw [List.length_map, Nat.mul_one]; exact HMZ.out.symm) HAN.out HCN.out (ivs_one _) (by unfold maxLen; omega) (by omega) ?_; intro A12 c12 w12 hown12 hg12; have HB12 : Hid (Below w11.heap.size w11 w12) := hidb (bel_app hg12); have K12 := hidb (K11.out.below HB12.out); have cb2 := ints_same A11 A12 m11 c11 (1 + m) c12 (a :: wantT l a 0) w12 ((HL11.out.below HB12.out).more HB12.out.size) (Sl.of_own hown12) hm11; clear hown12 hg12)
            | (go_at_call 20; (with_reducible refine cb2.mono ?_); rintro e w13 ⟨rfl, hb13⟩; have K13 := hidb (K12.out.below hb13); clear hb13 cb2)
            | (go_at_call 7; (with_reducible refine (ca _).mono ?_); rintro e w14 ⟨rfl, hb14⟩))
          go_ret
          exact ⟨rfl, K13.out.bel.trans (hb14.mono K13.out.bel.size)⟩
    · obtain ⟨u, rfl⟩ : ∃ u, t = u + 1 := ⟨t - 1, by omega⟩
      obtain rfl : z = (u : Int) := by omega
      have K3 := hidb (HWB.out wr HB.out)
      obtain ⟨b, off, x, hA, hx, hc⟩ := (HS1.out _ K3.out.bel).int_ (j := u) (by omega)
      have hu0 : (0 : Int) ≤ (u : Int) := by omega
      have hu1 : (u : Int) < (n1 : Int) := by omega
      subst hA
      by_cases huk : u = k
      · have hb : ((u : Int) == (k : Int)) = true := by simp [huk]
        have HE : Hid (wantT l a u = wantT l a (u + 1)) := hidb (wantT_same (by rw [huk]; exact HKA.out))
        clear hz hx ht0 huk
        go_wp2
        go_roundw
        case rel => exact ⟨u, _, A, m, c, by omega, rfl, by go_num, rfl, hm, hidb (by rw [HE.out]; exact HM.out), hidb (by rw [HE.out]; exact HO.out), HB⟩
        case measure => simp [intOf]
      · have hb : ((u : Int) == (k : Int)) = false := by simp; omega
        have hxa : x ≠ a := fun e => by
          subst e
          have h1 := (List.getElem?_eq_some_iff.1 hx)
          have h2 := (List.getElem?_eq_some_iff.1 HKA.out)
          exact huk ((List.getElem_inj HDU.out).1 (h1.2.trans h2.2.symm))
        have HE : Hid (wantT l a u = wantT l a (u + 1) ++ [x]) := hidb (wantT_step hx hxa)
        have hm1 : m + 1 ≤ n1 := by
          have h1 := wantT_le l a u
          rw [HE.out, List.length_append, ← HM.out, LL.out] at h1
          exact h1
        have hsz := HB.out.size
        clear hz hx ht0 huk hxa
        go_wp2_with (first
          | (at_builtin; refine wpList_append_one wr rfl _ _ 32 rfl W3.heap.size 3 i0 (.int .i64 0) 8 Try.underlying32 hi hz0 hz1 hz2 rfl (.slice A m c) m ((wantT l a (u + 1)).map iv) rfl HO.out hsz (.int .i64 x) rfl _ rfl (by unfold maxLen; omega) (by omega) ?_; intro v1 w4 hown4 hb4; obtain ⟨A4, c4, rfl⟩ := own_form hown4; have HO4 := hidb hown4; have HB4 := hidb (HB.out.trans hb4); clear hown4 hb4))
        go_roundw
        case rel => exact ⟨u, _, A4, m + 1, c4, by omega, rfl, by go_num, rfl, hm1, hidb (by rw [HE.out, List.length_append, ← HM.out]; rfl), hidb (by rw [HE.out, List.map_append]; exact HO4.out), HB4⟩
        case measure => simp [intOf]

set_option maxRecDepth 100000 in
theorem chainLeaves_any (A1 : Option Addr) (n1 c1 : Nat) (l : List Int) (k : Int) (w : World) (hs1 : Sl w w.heap.size A1 n1 (l.map iv)) (hl : ∀ x ∈ l, in64 x) (hk : in64 k) :
    Calls Try.prog 6 #[.slice A1 n1 c1, .int .i64 k] w fun e w' => e = .returned (.bool true) ∧ Below w.heap.size w w' := by
  have ca := fun W => awake8 W
  by_cases h1 : 100 < n1
  · clear hs1 hl hk
    go_enter Try.func6, Try.ntmps6
    go_wp2_with (first | (go_at_call 7; (with_reducible refine (ca _).mono ?_); rintro e w1 ⟨rfl, hb1⟩))
    go_ret
    exact ⟨rfl, hb1⟩
  by_cases h2 : k < 0
  · clear hs1 hl hk
    go_enter Try.func6, Try.ntmps6
    go_wp2_with (first | (go_at_call 7; (with_reducible refine (ca _).mono ?_); rintro e w1 ⟨rfl, hb1⟩))
    go_ret
    exact ⟨rfl, hb1⟩
  by_cases h3 : (n1 : Int) ≤ k
  · clear hs1 hl hk
    go_enter Try.func6, Try.ntmps6
    go_wp2_with (first | (go_at_call 7; (with_reducible refine (ca _).mono ?_); rintro e w1 ⟨rfl, hb1⟩))
    go_ret
    exact ⟨rfl, hb1⟩
  obtain ⟨kn, rfl⟩ : ∃ kn : Nat, k = (kn : Int) := ⟨k.toNat, by omega⟩
  by_cases hbad : ∃ (i : Nat) (x : Int), l[i]? = some x ∧ ¬ (0 ≤ x ∧ x < 256)
  · obtain ⟨i, x, e1, e2⟩ := hbad
    exact chainLeaves_bad A1 n1 c1 l kn w hs1 hl (by omega) (by omega) 2 (by omega) (push_far zs256_length e1 e2)
  · have hr : ∀ x ∈ l, 0 ≤ x ∧ x < 256 := fun x hx => by
      obtain ⟨i, hi, e⟩ := List.getElem_of_mem hx
      exact Classical.byContradiction fun c => hbad ⟨i, x, by rw [List.getElem?_eq_getElem hi, e], c⟩
    by_cases htw : ∃ (i : Nat) (x : Int), l[i]? = some x ∧ x ∈ l.take i
    · obtain ⟨i, x, e1, e2⟩ := htw
      exact chainLeaves_bad A1 n1 c1 l kn w hs1 hl (by omega) (by omega) 1 (by omega) (push_twice zs256_length hr e1 e2)
    · exact chainLeaves_good A1 n1 c1 l kn w hs1 hl (by omega) (by omega) hr (fun i x e c => htw ⟨i, x, e, c⟩)

end Go.Proofs.Ytcngcibiibchiaa
