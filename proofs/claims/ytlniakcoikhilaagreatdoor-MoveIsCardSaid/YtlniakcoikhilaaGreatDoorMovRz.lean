/- What the code of layer 17 (move) returns: raise, adjust. -/
import Derived.Test.YtlniakcoikhilaaGreatDoorSltAllC
import Derived.Test.YtlniakcoikhilaaGreatDoorMovRaise
namespace Go.Proofs.YtlniakcoikhilaaGreatDoor
open Go.RowKit
set_option linter.unusedVariables false

/-- What is raised, and what may be. -/
structure RzOk (δ : Int) (us : List Nat) (p q : Int) (N : Nat) (S : List Int) : Prop where
  lo : 0 ≤ p
  lo2 : 0 ≤ p + δ
  apart : q ≤ p + δ ∨ q + δ ≤ p
  hi : q ≤ N
  hi2 : q + δ ≤ N
  small : N ≤ 65536
  ins : ∀ a ∈ S, p ≤ a ∧ a < q
  num : ∀ a ∈ S, us.getD a.toNat 0 ≠ 0 → 0 ≤ ((us.getD a.toNat 0 : Nat) : Int) + δ ∧ us.getD a.toNat 0 ≤ 65536
theorem RzOk.kept {δ : Int} {us zs : List Nat} {p q : Int} {N : Nat} {S T : List Int} (h : RzOk δ us p q N S) (hz : ∀ i : Nat, p ≤ (i : Int) → (i : Int) < q → zs.getD i 0 = us.getD i 0) (hn : zs.length = N) (hT : ∀ a ∈ T, a ∈ S) {a : Int} (ha : a ∈ S) : (T.foldl (mvRz δ) zs).getD a.toNat 0 = us.getD a.toNat 0 := by
  have hi := h.ins a ha
  have h1 := h.lo
  have h2 := h.lo2
  have h3 := h.apart
  rw [mvRz_fold h.lo h.lo2 h.apart T zs (fun b hb => h.ins b (hT b hb)) (by rw [hn]; exact h.hi2) hz, if_neg, hz _ (by omega) (by omega)]
  rintro ⟨k, -⟩
  have := h.ins _ (hT _ k)
  omega
/-- What may be raised, of a stack that may be moved. -/
theorem MvOk.rz {xs : List Nat} {l : Fns} (hl : ∀ x ∈ l, 0 ≤ x.1 ∧ x.1 ≤ 1000) {s : StV} {lo size δ : Int} {L : List FrV} (h : MvOk xs l s lo size δ L) : RzOk δ xs s.sp (s.lo + s.size) xs.length (L.flatMap (mvAds l)) ∧ (mvCopy xs s δ).length = xs.length ∧ (∀ i : Nat, s.sp ≤ (i : Int) → (i : Int) < s.lo + s.size → (mvCopy xs s δ).getD i 0 = xs.getD i 0) := by
  obtain ⟨k1, k2, k3, k4⟩ := h.chn hl
  have hd := h.dist
  have hf := mvFits_iff.1 h.fits
  simp only at hf
  have hrl : (aRow xs s.sp.toNat (s.lo + s.size - s.sp).toNat).length = (s.lo + s.size - s.sp).toNat := aRow_length _ _ _ (by omega)
  refine ⟨⟨by omega, by omega, by omega, by omega, by omega, h.small, fun a ha => ?_, fun a ha hne => ?_⟩, by unfold mvCopy; rw [aStore_length _ _ _ (by rw [hrl]; omega)], fun i h1 h2 => ?_⟩
  · obtain ⟨x, hx, hax⟩ := List.mem_flatMap.1 ha
    obtain ⟨q1, q2, q3, q4, q5, q6, q7⟩ := chn_mem hl L _ _ k1 x hx
    rw [k2] at q1
    have hs := slSize_end k3 hl hx q4 q5
    rcases List.mem_cons.1 hax with rfl | hax
    · omega
    · obtain ⟨i, hi, rfl⟩ := List.mem_map.1 hax
      obtain ⟨-, i1, i2⟩ := mem_fPtrs.1 hi
      have := slSize_fn k3 hl hx q4 q5
      omega
  · obtain ⟨x, hx, hax⟩ := List.mem_flatMap.1 ha
    obtain ⟨q1, q2, q3, q4, q5, q6, q7⟩ := chn_mem hl L _ _ k1 x hx
    rw [k2] at q1
    have hs := slSize_end k3 hl hx q4 q5
    have hsm := h.small
    rcases List.mem_cons.1 hax with rfl | hax
    · obtain ⟨⟨w0, w1⟩, w2⟩ := h.self hl x hx
      rw [Int.add_zero] at w0
      rw [w0] at hne ⊢
      have : (shF 0 x).link = x.link := by
        unfold shF; simp only
        by_cases c : x.link = -1
        · rw [if_pos c, c]
        · rw [if_neg c]; omega
      rw [this] at hne ⊢
      rcases q6 with q6 | q6
      · rw [q6] at hne; simp at hne
      · omega
    · obtain ⟨i, hi, rfl⟩ := List.mem_map.1 hax
      obtain ⟨i0, i1, i2⟩ := mem_fPtrs.1 hi
      have := slSize_fn k3 hl hx q4 q5
      obtain ⟨j, rfl⟩ : ∃ j : Nat, i = (j : Int) := ⟨i.toNat, by omega⟩
      have := h.ptr hl hx (by omega) i0 hne
      omega
  · rw [List.getD_eq_getElem?_getD]
    unfold mvCopy
    rw [aStore_get _ _ _ (by rw [hrl]; omega), hrl, List.getD_eq_getElem?_getD]
    by_cases c1 : i < (s.sp + δ).toNat
    · rw [if_pos c1]
    · rw [if_neg c1, if_neg (by omega)]
/-- A mover. -/
def mvC (ap tp : Option Addr) (δ : Int) : Value := .agg #[.pointer ap, .pointer tp, .int .i64 δ]
theorem word_lit (X : World) (v : Nat) : Sl (X.alloc (.cells #[.int .u64 (v : Int)] 59)) (X.heap.size + 1) (some ⟨X.heap.size, 0, none⟩) 1 (([v] : List Nat).map wv) := by
  refine ⟨rfl, fun _ => ⟨X.heap.size, 0, rfl, by omega, fun j hj => ?_⟩⟩
  match j, hj with
  | 0, _ => simp [wv]
/-- A row of frames has no word of an arena. -/
theorem FrRow.wrote {w w' : World} {B p g len n : Nat} {xs : List Nat} {A : Option Addr} {L : List FrV} (h : FrRow w w.heap.size A n L) (ha : Ar w B p g len xs) (hg : w.grownBy w' (some g)) : FrRow w' w'.heap.size A n L := by
  refine ⟨h.1, fun h0 => ?_⟩
  obtain ⟨b, off, e, hb, hc⟩ := h.2 h0
  refine ⟨b, off, e, Nat.lt_of_lt_of_le hb hg.size, fun j y hj => ?_⟩
  obtain ⟨cs, e1, hcs, e2⟩ := hc j y hj
  refine ⟨cs, e1, fun k hk => ?_, e2⟩
  have hne : b ≠ g := fun e => by
    subst e
    have h1 := hcs k hk
    rw [ha.word, e2] at h1
    rw [List.getElem?_map] at h1
    cases hx : xs[off + j * 3 + k]? with
    | none =>
      rw [hx] at h1
      have : (frcells y)[k]? ≠ none := by
        rw [List.getElem?_eq_getElem (by rw [e2, frcells_len] at e1; rw [frcells_len]; exact hk)]
        exact Option.some_ne_none _
      exact this h1.symm
    | some z =>
      rw [hx] at h1
      match k, hk with
      | 0, _ => simp [frcells, wv] at h1
      | 1, _ => simp [frcells, wv] at h1
      | 2, _ => simp [frcells, wv] at h1
  rw [← hcs k hk]
  exact World.cell?_of_block (hg.block b hb (fun e => hne (by injection e)))
section
variable {X w : World} {p g len : Nat} {tp : Option Addr} {l : Fns}
set_option maxHeartbeats 2000000 in
/-- One word is raised. -/
theorem c_mvraise {xs : List Nat} (st : AT X w p g len xs tp l) (hx : ∀ i : Nat, xs.getD i 0 < 18446744073709551616) (δ a : Int) (hδ : -1000000 ≤ δ ∧ δ ≤ 1000000) (ha : 0 ≤ a ∧ a < len) (hnum : xs.getD a.toNat 0 ≠ 0 → 0 ≤ a + δ ∧ a + δ < len ∧ 0 ≤ ((xs.getD a.toNat 0 : Nat) : Int) + δ ∧ xs.getD a.toNat 0 ≤ 65536) :
    Calls Tryz.prog 63 #[mvC (some ⟨p, 0, none⟩) tp δ, .int .i64 a] w fun e w' => e = .returned (.tuple #[]) ∧ AT X w' p g len (mvRz δ xs a) tp l ∧ w.grownBy w' (some g) := by
  have hlen := st.ar.hlen
  have hsm := st.ar.small
  obtain ⟨k, rfl⟩ : ∃ k : Nat, a = (k : Int) := ⟨a.toNat, by omega⟩
  rw [Int.toNat_natCast] at hnum
  obtain ⟨u, hu⟩ : ∃ u, xs.getD k 0 = u := ⟨_, rfl⟩
  have huk : xs[k]? = some u := by rw [← hu, List.getD_eq_getElem?_getD, List.getElem?_eq_getElem (by omega)]; rfl
  have hux := hx k
  rw [hu] at hnum hux
  obtain ⟨W0, hW0⟩ : ∃ W0, W0 = w.alloc (.cells #[.pointer (some ⟨p, 0, none⟩), .pointer tp, .int .i64 δ] 80) := ⟨_, rfl⟩
  have hb0 : Below w.heap.size w W0 := by rw [hW0]; exact belF_al (Below.refl _ _) _
  have hz0 : W0.heap.size = w.heap.size + 1 := by rw [hW0]; simp
  have HC : Hid (∀ W, Below W0.heap.size W0 W → W.cell? ⟨w.heap.size, 0, none⟩ = some (.pointer (some ⟨p, 0, none⟩)) ∧ W.cell? ⟨w.heap.size, 1, none⟩ = some (.pointer tp) ∧ W.cell? ⟨w.heap.size, 2, none⟩ = some (.int .i64 δ)) := hidb (fun W hb => by refine ⟨?_, ?_, ?_⟩ <;> (rw [hb.cell (by rw [hz0]; show w.heap.size < _; omega), hW0]; simp))
  have cl := code_aload k u (st.step hb0).ar huk
  have HST := hidb st
  have HB0 := hidb hb0
  have HW0 := hidb hW0
  have hc0 := HC.out W0 (Below.refl _ _)
  rw [hW0] at hc0
  obtain ⟨q0, q1, q2⟩ := hc0
  unfold mvC
  by_cases h0 : u = 0
  · have E : Hid (mvRz δ xs (k : Int) = xs) := hidb (by unfold mvRz; rw [Int.toNat_natCast, hu, if_pos h0])
    have h0b : ((u : Int) != 0) = false := by simp [h0]
    clear hW0 hb0 hz0 huk hu hnum st hx h0
    --@1
    go_enter Tryz.func63, Tryz.ntmps63
    go_wp2_with (first | (go_at_call 87; rw [← HW0.out]; (with_reducible refine cl.mono ?_); rintro e w1 ⟨rfl, hb1⟩; have HB1 := hidb (belF_tr HB0.out hb1)))
    exact bodyPost_end (v := .tuple #[]) (by simp [results, Tryz.results63, go_sem]) rfl ⟨rfl, by rw [E.out]; exact HST.out.step HB1.out, below_to_grown HB1.out _⟩
  · obtain ⟨n1, n2, n3, n4⟩ := hnum h0
    obtain ⟨t, ht⟩ : ∃ t : Nat, (k : Int) + δ = (t : Int) := ⟨((k : Int) + δ).toNat, by omega⟩
    obtain ⟨v, hv⟩ : ∃ v : Nat, (u : Int) + δ = (v : Int) := ⟨((u : Int) + δ).toNat, by omega⟩
    have E : Hid (mvRz δ xs (k : Int) = aStore xs t [v]) := hidb (by
      unfold mvRz
      rw [Int.toNat_natCast, hu, if_neg h0, ht, hv, Int.toNat_natCast, Int.toNat_natCast, aStore_one _ _ _ (by omega)])
    have h0b : ((u : Int) != 0) = true := by simp [h0]
    have HW : Hid ((k : Int) + δ = (t : Int)) := hidb ht
    have HV : Hid (IntKind.u64.wrap ((u : Int) + IntKind.u64.wrap δ) = (v : Int)) := hidb (by simp [IntKind.wrap, IntKind.bits, IntKind.signed]; omega)
    have KS : Hid (∀ W, AT X W p g len xs tp l → Calls Tryz.prog 18 #[.pointer (some ⟨p, 0, none⟩), .int .i64 (t : Int), .slice (some ⟨W.heap.size, 0, none⟩) 1 1] (W.alloc (.cells #[.int .u64 (v : Int)] 59)) fun e w' => e = .returned (.int .i64 0) ∧ AT X w' p g len (mvRz δ xs (k : Int)) tp l ∧ W.grownBy w' (some g)) := hidb (fun W s => by
      rw [E.out]
      have s2 := s.alloc (.cells #[.int .u64 (v : Int)] 59)
      refine (code_astore t _ 1 1 s2.ar ((word_lit W v).more (by simp)) (by omega)).mono ?_
      rintro e w' ⟨rfl, h2, h3⟩
      exact ⟨rfl, s2.wrote h2 h3, grown_trans (World.grownBy_alloc _ _ _) h3⟩)
    have hd1 : -1000000 ≤ δ := hδ.1
    have hd2 : δ ≤ 1000000 := hδ.2
    clear hW0 hb0 hz0 huk hu hnum st hx E ht hv n1 n2 n3 n4
    --@2
    go_enter Tryz.func63, Tryz.ntmps63
    go_wp2_with (first
      | (go_at_call 87; rw [← HW0.out]; (with_reducible refine cl.mono ?_); rintro e w1 ⟨rfl, hb1⟩; obtain ⟨c0, c1, c2⟩ := HC.out w1 hb1; have HB1 := hidb (belF_tr HB0.out hb1))
      | (go_at_call 18; rw [HW.out, HV.out]; (with_reducible refine (KS.out _ (HST.out.step HB1.out)).mono ?_); rintro e w2 ⟨rfl, hs2, hg2⟩))
    exact bodyPost_end (v := .tuple #[]) (by simp [results, Tryz.results63, go_sem]) rfl ⟨rfl, hs2, grown_trans (below_to_grown HB1.out _) hg2⟩
theorem RzOk.wd {δ : Int} {us zs : List Nat} {p q : Int} {N : Nat} {S T : List Int} (h : RzOk δ us p q N S) (hδ : -1000000 ≤ δ ∧ δ ≤ 1000000) (hz : ∀ i : Nat, p ≤ (i : Int) → (i : Int) < q → zs.getD i 0 = us.getD i 0) (hn : zs.length = N) (hx : ∀ i : Nat, zs.getD i 0 < 18446744073709551616) (hT : ∀ a ∈ T, a ∈ S) (i : Nat) : (T.foldl (mvRz δ) zs).getD i 0 < 18446744073709551616 := by
  rw [mvRz_fold h.lo h.lo2 h.apart T zs (fun b hb => h.ins b (hT b hb)) (by rw [hn]; exact h.hi2) hz]
  split
  · rename_i c
    have := h.num _ (hT _ c.1) c.2
    omega
  · exact hx i
theorem fPtrs_range {l : Fns} {f i : Int} (h : i ∈ fPtrs l f) : 0 ≤ i := (mem_fPtrs.1 h).2.1
set_option maxHeartbeats 4000000 in
theorem c_mvadj {A : Option Addr} {m c : Nat} {L : List FrV} {us zs : List Nat} {δ p' q' : Int} (ht : TabDB X) (st : AT X w p g len zs tp l) (hl : ∀ x ∈ l, 0 ≤ x.1 ∧ x.1 ≤ 1000) (hx : ∀ i : Nat, zs.getD i 0 < 18446744073709551616) (hδ : -1000000 ≤ δ ∧ δ ≤ 1000000) (hz : ∀ i : Nat, p' ≤ (i : Int) → (i : Int) < q' → zs.getD i 0 = us.getD i 0) (hrz : RzOk δ us p' q' len (L.flatMap (mvAds l))) (hL : FrRow w w.heap.size A m L) (hm : m ≤ 1000000) :
    Calls Tryz.prog 32 #[mvC (some ⟨p, 0, none⟩) tp δ, .slice A m c] w fun e w' => e = .returned (.tuple #[]) ∧ AT X w' p g len (mvAdj δ l L zs) tp l ∧ w.grownBy w' (some g) := by
  have hgl := st.ar.lt
  have hzl := st.ar.hlen
  obtain ⟨W0, hW0⟩ : ∃ W0, W0 = w.alloc (.cells #[.pointer (some ⟨p, 0, none⟩), .pointer tp, .int .i64 δ] 80) := ⟨_, rfl⟩
  have hb0 : Below w.heap.size w W0 := by rw [hW0]; exact belF_al (Below.refl _ _) _
  have hz0 : W0.heap.size = w.heap.size + 1 := by rw [hW0]; simp
  have HC : Hid (∀ W, W0.grownBy W (some g) → W.cell? ⟨w.heap.size, 0, none⟩ = some (.pointer (some ⟨p, 0, none⟩)) ∧ W.cell? ⟨w.heap.size, 1, none⟩ = some (.pointer tp) ∧ W.cell? ⟨w.heap.size, 2, none⟩ = some (.int .i64 δ)) := hidb (fun W hg => by
    have hc : ∀ k, W.cell? ⟨w.heap.size, k, none⟩ = W0.cell? ⟨w.heap.size, k, none⟩ := fun k => World.cell?_of_block (hg.block w.heap.size (by omega) (fun e => by injection e with e; omega))
    refine ⟨?_, ?_, ?_⟩ <;> (rw [hc, hW0]; simp))
  have HLr : Hid (∀ W, W0.grownBy W (some g) → FrRow W W.heap.size A m L) := hidb (fun W hg => (hL.step hb0).wrote (st.step hb0).ar hg)
  obtain ⟨S, hS⟩ : ∃ S, S = L.flatMap (mvAds l) := ⟨_, rfl⟩
  rw [← hS] at hrz
  have KR : Hid (∀ W T a, (∀ b ∈ T, b ∈ S) → a ∈ S → AT X W p g len (T.foldl (mvRz δ) zs) tp l → Calls Tryz.prog 63 #[.agg #[.pointer (some ⟨p, 0, none⟩), .pointer tp, .int .i64 δ], .int .i64 a] W fun e w' => e = .returned (.tuple #[]) ∧ Hid (AT X w' p g len ((T ++ [a]).foldl (mvRz δ) zs) tp l) ∧ Hid (W.grownBy w' (some g))) := hidb (fun W T a hT ha s => by
    have hk := hrz.kept (zs := zs) hz hzl hT ha
    have hi := hrz.ins a ha
    have h1 := hrz.lo
    have h2 := hrz.lo2
    have h3 := hrz.hi
    have h4 := hrz.hi2
    refine (c_mvraise s (fun i => hrz.wd hδ hz hzl hx hT i) δ a hδ (by omega) (by rw [hk]; intro hne; have := hrz.num a ha hne; omega)).mono ?_
    rintro e w' ⟨rfl, h5, h6⟩
    exact ⟨rfl, hidb (by rw [List.foldl_append]; exact h5), hidb h6⟩)
  have KP : Hid (∀ W f zs', AT X W p g len zs' tp l → Calls Tryz.prog 64 #[.pointer tp, .int .i64 f] W (OwnInts W (fPtrs l f))) := hidb (fun W f zs' s => by
    obtain ⟨lo, hi, h2, h3, _⟩ := s.tb
    exact code_fptrs h2 h3 f (TabDB.below ht s.bel))
  have KS : Hid (∀ W x i zs', AT X W p g len zs' tp l → frNear x → frSlot l x i = (x.at_ + 2 + i, 0) → Calls Tryz.prog 65 #[.pointer tp, .agg #[.int .i64 x.at_, .int .i64 x.fn, .int .i64 x.link], .int .i64 i] W fun e w' => e = .returned (.tuple #[.int .i64 (x.at_ + 2 + i), .int .i64 0]) ∧ Below W.heap.size W w') := hidb (fun W x i zs' s hn hv => by
    obtain ⟨lo, hi, h2, h3, _⟩ := s.tb
    have := code_frslot h2 h3 hl x hn i
    rw [hv] at this
    exact this)
  have HS := hidb hS
  have HML : Hid (∀ x ∈ L, x.at_ ∈ S ∧ (0 ≤ x.at_ ∧ x.at_ ≤ 65536) ∧ ∀ i ∈ fPtrs l x.fn, x.at_ + 2 + i ∈ S ∧ frSlot l x i = (x.at_ + 2 + i, 0)) := hidb (fun x hxm => by
    have hat : x.at_ ∈ S := by rw [hS]; exact List.mem_flatMap.2 ⟨x, hxm, List.mem_cons_self⟩
    have h1 := hrz.ins _ hat
    have h2 := hrz.lo
    have h3 := hrz.hi
    have h4 := hrz.small
    refine ⟨hat, by omega, fun i hi => ⟨by rw [hS]; exact List.mem_flatMap.2 ⟨x, hxm, List.mem_cons_of_mem _ (List.mem_map.2 ⟨i, hi, rfl⟩)⟩, ?_⟩⟩
    obtain ⟨-, i1, i2⟩ := mem_fPtrs.1 hi
    unfold frSlot
    rw [if_neg (by omega)])
  have HFL : Hid (∀ f, (fPtrs l f).length ≤ 65536) := hidb (fun f => by
    unfold fPtrs
    split
    · simp
    · rename_i c
      have hm := hl _ (List.mem_of_getElem? (some_getD (0, []) (show f.toNat < l.length by omega)))
      refine Nat.le_trans (bBits_length _ _) ?_
      omega)
  have HST0 := hidb (st.step hb0)
  have HB0 := hidb hb0
  have HW0 := hidb hW0
  have HGL := hidb hgl
  have HZ0 := hidb hz0
  have HLL := hidb hL.len
  clear st hL hrz hz hx hl hS hb0 hz0 ht
  unfold mvC
  go_enter Tryz.func32, Tryz.ntmps32
  go_wp2
  rw [← HW0.out]
  clear hW0
  go_loopw [12, 5, 7, 8, 9] (fun k _ _ _ _ wr => ∃ (j : Nat) (T : List Int), j ≤ m ∧ k = .int .i64 j ∧ Hid (T = (L.take j).flatMap (mvAds l)) ∧ Hid (AT X wr p g len (T.foldl (mvRz δ) zs) tp l) ∧ Hid (W0.grownBy wr (some g))) (fun k _ _ _ _ _ => (m - intOf k).toNat)
  case atStart => exact ⟨0, [], by omega, rfl, hidb rfl, HST0, hidb (World.grownBy.refl _ _)⟩
  case round =>
    obtain ⟨j, T, hj, rfl, HT, HA, HG⟩ := hrel
    by_cases hlt : j < m
    · obtain ⟨b, off, x, rfl, hbl, hxx, hc0, hc1, hc2⟩ := (HLr.out wr HG.out).at_ hlt
      have hmem := List.mem_of_getElem? hxx
      obtain ⟨n0, n1, n2⟩ := HML.out x hmem
      have HTS : Hid (∀ b ∈ T, b ∈ S) := hidb (fun b hb => by
        rw [HT.out] at hb
        obtain ⟨y, hy, hb⟩ := List.mem_flatMap.1 hb
        rw [HS.out]
        exact List.mem_flatMap.2 ⟨y, List.mem_of_mem_take hy, hb⟩)
      have HTN : Hid ((L.take (j + 1)).flatMap (mvAds l) = T ++ [x.at_] ++ (fPtrs l x.fn).map fun i => x.at_ + 2 + i) := hidb (by
        rw [List.take_add_one, hxx, List.flatMap_append, HT.out]
        simp [mvAds])
      obtain ⟨wa, hwa⟩ : ∃ wa, wa = wr.alloc (.cells #[.int .i64 x.at_, .int .i64 x.fn, .int .i64 x.link] 71) := ⟨_, rfl⟩
      have hga : W0.grownBy wa (some g) := by rw [hwa]; exact grown_alloc HG.out _
      have hza : wa.heap.size = wr.heap.size + 1 := by rw [hwa]; simp
      have hsz := HG.out.size
      have HXC : Hid (∀ W, wa.grownBy W (some g) → W.cell? ⟨wr.heap.size, 0, none⟩ = some (.int .i64 x.at_) ∧ W.cell? ⟨wr.heap.size, 1, none⟩ = some (.int .i64 x.fn) ∧ W.cell? ⟨wr.heap.size, 2, none⟩ = some (.int .i64 x.link)) := hidb (fun W hg => by
        have hg2 := HGL.out
        have hz2 := HZ0.out
        have hc : ∀ k, W.cell? ⟨wr.heap.size, k, none⟩ = wa.cell? ⟨wr.heap.size, k, none⟩ := fun k => World.cell?_of_block (hg.block wr.heap.size (by omega) (fun e => by injection e with e; omega))
        refine ⟨?_, ?_, ?_⟩ <;> (rw [hc, hwa]; simp))
      have HGA := hidb hga
      have HWA := hidb hwa
      have HAA : Hid (AT X wa p g len (T.foldl (mvRz δ) zs) tp l) := hidb (by rw [hwa]; exact HA.out.alloc _)
      have kr := KR.out wa T x.at_ HTS.out n0 HAA.out
      have mc := HC.out wa HGA.out
      have xc := HXC.out wa (World.grownBy.refl _ _)
      rw [hwa] at mc xc
      obtain ⟨m0, m1, m2⟩ := mc
      obtain ⟨x0, x1, x2⟩ := xc
      have hnear : frNear x := by unfold frNear; omega
      have HSL : Hid (∀ i ∈ fPtrs l x.fn, x.at_ + 2 + i ∈ S ∧ frSlot l x i = (x.at_ + 2 + i, 0)) := hidb n2
      have hi0 : (0 : Int) ≤ (j : Int) := by omega
      have hi1 : (j : Int) < (m : Int) := by omega
      have KSX : Hid (∀ W i zs', AT X W p g len zs' tp l → frSlot l x i = (x.at_ + 2 + i, 0) → Calls Tryz.prog 65 #[.pointer tp, .agg #[.int .i64 x.at_, .int .i64 x.fn, .int .i64 x.link], .int .i64 i] W fun e w' => e = .returned (.tuple #[.int .i64 (x.at_ + 2 + i), .int .i64 0]) ∧ Below W.heap.size W w') := hidb (fun W i zs' s hv => KS.out W x i zs' s hnear hv)
      have xr1 := n1.1
      have xr2 := n1.2
      obtain ⟨np, hnp⟩ : ∃ np, (fPtrs l x.fn).length = np := ⟨_, rfl⟩
      have hnp9 : np ≤ 65536 := by rw [← hnp]; exact HFL.out _
      have HNP := hidb hnp
      have kp := fun W zs' (s : Hid (AT X W p g len zs' tp l)) => KP.out W x.fn zs' s.out
      unfold OwnInts at kp
      rw [hnp] at kp
      have KPX := hidb kp
      obtain ⟨xa, xf, xl⟩ := x
      simp only at *
      clear hwa hga hza hsz hmem n0 n1 n2 hxx hnear kp hnp
      --@3
      go_wp2_with (first
        | (go_at_call 63; rw [← HWA.out]; (with_reducible refine kr.mono ?_); rintro e w1 ⟨rfl, hs1, hg1⟩; obtain ⟨mb0, mb1, mb2⟩ := HC.out w1 (grown_trans HGA.out hg1.out); obtain ⟨xb0, xb1, xb2⟩ := HXC.out w1 hg1.out)
        | (go_at_call 64; (with_reducible refine (KPX.out _ _ hs1).mono ?_); rintro e w2 ⟨D, kd, rfl, ho2, hb2⟩; have HO2 := hidb ho2; have HB2 := hidb hb2; have hs2 := hidb (hs1.out.step hb2); have hg2 := hidb (grown_trans hg1.out (below_to_grown hb2 _)); clear ho2 hb2))
      have HROW : Hid (∀ W, w2.grownBy W (some g) → Sl W W.heap.size D np ((fPtrs l xf).map iv)) := hidb (fun W hg => Sl.of_own (own_grown HO2.out hg fun k hk e => by
        have h1 := (HO2.out.lt k e).1
        have h2 := hs1.out.ar.lt
        injection hk with hk
        omega))
      have HG2 := hidb (grown_trans HGA.out hg2.out)
      clear m0 m1 m2 x0 x1 x2 mb0 mb1 mb2 xb0 xb1 xb2 hc0 hc1 hc2 kr
      go_loopw [26, 7, 8, 9] (fun v26 _ _ _ wq => ∃ (i : Nat) (T' : List Int), i ≤ np ∧ v26 = .int .i64 i ∧ Hid (T' = T ++ [xa] ++ ((fPtrs l xf).take i).map fun i => xa + 2 + i) ∧ Hid (AT X wq p g len (T'.foldl (mvRz δ) zs) tp l) ∧ Hid (w2.grownBy wq (some g))) (fun v26 _ _ _ _ => (np - intOf v26).toNat)
      case atStart => exact ⟨0, T ++ [xa], by omega, rfl, hidb (by simp), hs2, hidb (World.grownBy.refl _ _)⟩
      case round =>
        obtain ⟨i, T', hi, rfl, HT', HA', HG'⟩ := hrel
        have HG'' := hidb (grown_trans HG2.out HG'.out)
        obtain ⟨m0, m1, m2⟩ := HC.out wr HG''.out
        obtain ⟨x0, x1, x2⟩ := HXC.out wr (grown_trans hg2.out HG'.out)
        by_cases hlti : i < np
        · obtain ⟨bk, off2, u, rfl, hbl2, hu, hcu⟩ := (HROW.out wr HG'.out).at_ hlti
          rw [List.getElem?_map] at hu
          obtain ⟨z, hz, rfl⟩ := Option.map_eq_some_iff.1 hu
          unfold iv at hcu
          have hzm := List.mem_of_getElem? hz
          obtain ⟨z1, z2⟩ := HSL.out z hzm
          have hzr := fPtrs_range hzm
          have ks := KSX.out wr z _ HA'.out z2
          have HTS' : Hid (∀ b ∈ T', b ∈ S) := hidb (fun b hb => by
            rw [HT'.out] at hb
            rw [HS.out]
            have hj1 : b ∈ (L.take (j + 1)).flatMap (mvAds l) := by
              rw [HTN.out]
              rcases List.mem_append.1 hb with hb | hb
              · exact List.mem_append_left _ hb
              · obtain ⟨y, hy, rfl⟩ := List.mem_map.1 hb
                exact List.mem_append_right _ (List.mem_map.2 ⟨y, List.mem_of_mem_take hy, rfl⟩)
            obtain ⟨y, hy, hb⟩ := List.mem_flatMap.1 hj1
            exact List.mem_flatMap.2 ⟨y, List.mem_of_mem_take hy, hb⟩)
          have HTN' : Hid (T' ++ [xa + 2 + z] = T ++ [xa] ++ ((fPtrs l xf).take (i + 1)).map fun i => xa + 2 + i) := hidb (by
            rw [HT'.out, List.take_add_one, hz, List.map_append]
            simp)
          have kr := fun W (s : Hid (AT X W p g len (T'.foldl (mvRz δ) zs) tp l)) => KR.out W T' (xa + 2 + z) HTS'.out z1 s.out
          have KRX := hidb kr
          have hj0 : (0 : Int) ≤ (i : Int) := by omega
          have hj1 : (i : Int) < (np : Int) := by omega
          clear hu hz hzm z1 z2 kr
          --@4
          go_wp2_with (first
            | (go_at_call 65; (with_reducible refine ks.mono ?_); rintro e w3 ⟨rfl, hb3⟩; have hs3 := hidb (HA'.out.step hb3); have hg3 := hidb (grown_trans HG'.out (below_to_grown hb3 _)); obtain ⟨ma0, ma1, ma2⟩ := HC.out w3 (grown_trans HG2.out hg3.out); clear hb3)
            | (go_at_call 63; (with_reducible refine (KRX.out _ hs3).mono ?_); rintro e w4 ⟨rfl, hs4, hg4⟩))
          go_roundw
          case rel => exact ⟨i + 1, T' ++ [xa + 2 + z], by omega, by go_num, HTN', hs4, hidb (grown_trans hg3.out hg4.out)⟩
          case measure => simp [intOf]; omega
        · obtain rfl : i = np := by omega
          have HTE : Hid (T' = (L.take (j + 1)).flatMap (mvAds l)) := hidb (by
            rw [HTN.out, HT'.out, List.take_of_length_le (by rw [HNP.out]; omega)])
          --@5
          go_wp2
          go_roundw
          case rel => exact ⟨j + 1, T', by omega, by go_num, HTE, HA', HG''⟩
          case measure => simp [intOf]; omega
    · obtain rfl : j = m := by omega
      have HE : Hid (T.foldl (mvRz δ) zs = mvAdj δ l L zs) := hidb (by
        rw [HT.out, List.take_of_length_le (by rw [HLL.out]; omega)]
        rfl)
      --@6
      go_wp2
      exact bodyPost_end (v := .tuple #[]) (by simp [results, Tryz.results32, go_sem]) rfl ⟨rfl, by rw [← HE.out]; exact HA.out, grown_trans (below_to_grown HB0.out _) HG.out⟩
end
end Go.Proofs.YtlniakcoikhilaaGreatDoor
