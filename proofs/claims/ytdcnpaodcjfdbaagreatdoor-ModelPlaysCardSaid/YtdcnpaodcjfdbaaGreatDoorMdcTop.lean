/- Several texts in one: MdcAll, MdcSame, MdcDoes, MdcLaws. -/
import Derived.Test.YtdcnpaodcjfdbaaGreatDoorMdcAct
import Derived.Test.YtdcnpaodcjfdbaaGreatDoorMdlBase
import Derived.Test.YtdcnpaodcjfdbaaGreatDoorMdlIn
import Derived.Test.YtdcnpaodcjfdbaaGreatDoorSltLaws
/- What the code of layer 19 (model) returns: Right, Call, Return, Set, Write, Calc, Get, Load, of any row. -/
namespace Go.Proofs.YtdcnpaodcjfdbaaGreatDoor
open Go.RowKit
set_option linter.unusedVariables false

section
variable {w : World} {A : Option Addr} {n c : Nat} {zs : List AfS} {tp : Option Addr} {lo hi : Nat} {l : Fns}
theorem code_mdright (ht : TbO w lo hi tp l) (hhi : hi ≤ w.heap.size) (hs : AfRow w w.heap.size A n zs) (hn : n ≤ 1000000) :
    Calls Tryz.prog 10 #[.pointer tp, .slice A n c] w fun e w' => e = .returned (.bool (mdRight l (afvals zs))) ∧ Below w.heap.size w w' := by
  have cr := c_rright (c := c) ht hhi hs hn _ rfl
  generalize mdRight l (afvals zs) = r at *
  clear ht hs
  --@r
  go_enter Tryz.func10, Tryz.ntmps10
  go_wp2_with (first | (go_at_call 23; (with_reducible refine cr.mono ?_); rintro e w1 ⟨rfl, hb1⟩))
  go_ret
  exact ⟨rfl, hb1⟩
theorem ResA.base {X : World} {r : Afs × Int} {e : Ending} {w' : World} (hb : Below w.heap.size w X) (h : ResA X r e w') : ResA w r e w' := by
  obtain ⟨A, n, c, zs, h1, h2, h3, h4, h5, h6⟩ := h
  exact ⟨A, n, c, zs, h1, h2, h3, h4, h5, belF_tr hb h6⟩
set_option maxRecDepth 100000 in
theorem code_mdcall (ht : TbO w lo hi tp l) (hhi : hi ≤ w.heap.size) (hs : AfRow w w.heap.size A n zs) (hn : n ≤ 1000000) (hz : ∀ x ∈ afvals zs, x.2.length ≤ 1000000) (hl : ∀ x ∈ l, 0 ≤ x.1 ∧ x.1 ≤ 1000) (f : Int) (hf : in64 f) :
    Calls Tryz.prog 18 #[.pointer tp, .slice A n c, .int .i64 f] w (ResA w (mdCall l (afvals zs) f)) := by
  obtain ⟨X, hX⟩ : ∃ X, X = (w.alloc (.cells #[.int .i64 f] 3)) := ⟨_, rfl⟩
  have hb : Below w.heap.size w X := by rw [hX]; exact belF_al (Below.refl _ _) _
  have kc : Calls Tryz.prog 45 #[.pointer tp, .slice A n c, .func (.func 46) #[] #[.pointer (some ⟨w.heap.size, 0, none⟩)]] X (ResA X (mdCall l (afvals zs) f)) := by
    refine c_changed (ht.below (hb.mono hhi)) (Nat.le_trans hhi hb.size) (hs.step hb) hn hz _ (fun args W => by simp [go_sem]) (fun hR => ?_) (fun hR W q A' c' us hch hus => ?_)
    · exact (md_wrong hR).1 f
    · have hbx : Below X.heap.size X W := belF_tr (belF_al (Below.refl _ _) (.cells #[.int .i64 0] 26)) hch.own.bel
      have hz1 : X.heap.size = w.heap.size + 1 := by rw [hX]; simp
      exact c_call1 hch (ht.below ((belF_tr hb hbx).mono hhi)) (Nat.le_trans hhi (belF_tr hb hbx).size) hl hus hR hn hf (by have := hbx.size; omega) ((hbx.cell (p := ⟨w.heap.size, 0, none⟩) (by show w.heap.size < _; omega)).trans (by rw [hX]; simp))
  have HB := hidb hb
  obtain ⟨r, hr⟩ : ∃ r, (mdCall l (afvals zs) f) = r := ⟨_, rfl⟩
  rw [hr] at kc ⊢
  rw [hX] at kc HB
  have kc2 := kc.mono fun e w' h => ResA.base HB.out h
  unfold ResA at kc2
  clear ht hs hz hr hX kc hb
  --@call
  go_enter Tryz.func18, Tryz.ntmps18
  go_wp2_with (first | (go_at_call 45; (with_reducible refine kc2.mono ?_); rintro e w1 ⟨A1, n1, c1, zs1, rfl, h1⟩))
  go_ret2
  exact ⟨A1, n1, c1, zs1, rfl, h1⟩
set_option maxRecDepth 100000 in
theorem code_mdreturn (ht : TbO w lo hi tp l) (hhi : hi ≤ w.heap.size) (hs : AfRow w w.heap.size A n zs) (hn : n ≤ 1000000) (hz : ∀ x ∈ afvals zs, x.2.length ≤ 1000000) :
    Calls Tryz.prog 19 #[.pointer tp, .slice A n c] w (ResA w (mdReturn l (afvals zs))) := by
  obtain ⟨X, hX⟩ : ∃ X, X = w := ⟨_, rfl⟩
  have hb : Below w.heap.size w X := by rw [hX]; exact Below.refl _ _
  have kc : Calls Tryz.prog 45 #[.pointer tp, .slice A n c, .func (.func 49) #[] #[]] X (ResA X (mdReturn l (afvals zs))) := by
    refine c_changed (ht.below (hb.mono hhi)) (Nat.le_trans hhi hb.size) (hs.step hb) hn hz _ (fun args W => by simp [go_sem]) (fun hR => ?_) (fun hR W q A' c' us hch hus => ?_)
    · exact (md_wrong hR).2.1
    · have hbx : Below X.heap.size X W := belF_tr (belF_al (Below.refl _ _) (.cells #[.int .i64 0] 26)) hch.own.bel
      exact c_ret1 hch hus hR hn
  have HB := hidb hb
  obtain ⟨r, hr⟩ : ∃ r, (mdReturn l (afvals zs)) = r := ⟨_, rfl⟩
  rw [hr] at kc ⊢
  rw [hX] at kc HB
  have kc2 := kc.mono fun e w' h => ResA.base HB.out h
  unfold ResA at kc2
  clear ht hs hz hr hX kc hb
  --@return
  go_enter Tryz.func19, Tryz.ntmps19
  go_wp2_with (first | (go_at_call 45; (with_reducible refine kc2.mono ?_); rintro e w1 ⟨A1, n1, c1, zs1, rfl, h1⟩))
  go_ret2
  exact ⟨A1, n1, c1, zs1, rfl, h1⟩
set_option maxRecDepth 100000 in
theorem code_mdset (ht : TbO w lo hi tp l) (hhi : hi ≤ w.heap.size) (hs : AfRow w w.heap.size A n zs) (hn : n ≤ 1000000) (hz : ∀ x ∈ afvals zs, x.2.length ≤ 1000000) (d i : Int) (hd : in64 d) (hi64 : in64 i) (v : VlV) (hv : VIn v) :
    Calls Tryz.prog 25 #[.pointer tp, .slice A n c, .int .i64 d, .int .i64 i, .agg #[.int .u8 (v.kind : Int), .int .u64 (v.bits : Int), .int .i64 v.depth, .int .i64 v.slot]] w (ResA w (mdSet l (afvals zs) d i v)) := by
  obtain ⟨X, hX⟩ : ∃ X, X = (((w.alloc (.cells #[.int .i64 d] 3)).alloc (.cells #[.int .i64 i] 3)).alloc (.cells #[.int .u8 (v.kind : Int), .int .u64 (v.bits : Int), .int .i64 v.depth, .int .i64 v.slot] 34)) := ⟨_, rfl⟩
  have hb : Below w.heap.size w X := by rw [hX]; exact belF_al (belF_al (belF_al (Below.refl _ _) _) _) _
  have kc : Calls Tryz.prog 45 #[.pointer tp, .slice A n c, .func (.func 56) #[] #[.pointer (some ⟨w.heap.size, 0, none⟩), .pointer (some ⟨w.heap.size + 1, 0, none⟩), .pointer (some ⟨w.heap.size + 1 + 1, 0, none⟩)]] X (ResA X (mdSet l (afvals zs) d i v)) := by
    refine c_changed (ht.below (hb.mono hhi)) (Nat.le_trans hhi hb.size) (hs.step hb) hn hz _ (fun args W => by simp [go_sem]) (fun hR => ?_) (fun hR W q A' c' us hch hus => ?_)
    · exact (md_wrong hR).2.2.1 d i v
    · have hbx : Below X.heap.size X W := belF_tr (belF_al (Below.refl _ _) (.cells #[.int .i64 0] 26)) hch.own.bel
      have z1 : (w.alloc (.cells #[.int .i64 d] 3)).heap.size = w.heap.size + 1 := by simp
      have z2 : ((w.alloc (.cells #[.int .i64 d] 3)).alloc (.cells #[.int .i64 i] 3)).heap.size = w.heap.size + 1 + 1 := by simp
      have hz1 : X.heap.size = w.heap.size + 3 := by rw [hX]; simp
      have hin : SetIn X w.heap.size (w.heap.size + 1) (w.heap.size + 1 + 1) d i v := by
        refine ⟨?_, ?_, ⟨?_, ?_, ?_, ?_⟩, by omega, by omega, by omega⟩
        · rw [hX, World.cell?_alloc_lt _ _ _ (by show w.heap.size < _; omega), World.cell?_alloc_lt _ _ _ (by show w.heap.size < _; omega)]; simp
        · rw [hX, World.cell?_alloc_lt _ _ _ (by show w.heap.size + 1 < _; omega), ← z1]; simp
        · rw [hX, ← z2]; exact World.cell?_alloc_at _ _ _ 0 (by simp)
        · rw [hX, ← z2]; exact World.cell?_alloc_at _ _ _ 1 (by simp)
        · rw [hX, ← z2]; exact World.cell?_alloc_at _ _ _ 2 (by simp)
        · rw [hX, ← z2]; exact World.cell?_alloc_at _ _ _ 3 (by simp)
      exact c_set1 hch (ht.below ((belF_tr hb hbx).mono hhi)) (Nat.le_trans hhi (belF_tr hb hbx).size) hus hR hn hd hi64 hv (hin.below hbx)
  have HB := hidb hb
  obtain ⟨r, hr⟩ : ∃ r, (mdSet l (afvals zs) d i v) = r := ⟨_, rfl⟩
  rw [hr] at kc ⊢
  rw [hX] at kc HB
  have kc2 := kc.mono fun e w' h => ResA.base HB.out h
  unfold ResA at kc2
  clear ht hs hz hr hX kc hb
  --@set
  go_enter Tryz.func25, Tryz.ntmps25
  go_wp2_with (first | (go_at_call 45; (with_reducible refine kc2.mono ?_); rintro e w1 ⟨A1, n1, c1, zs1, rfl, h1⟩))
  go_ret2
  exact ⟨A1, n1, c1, zs1, rfl, h1⟩
set_option maxRecDepth 100000 in
theorem code_mdwrite (ht : TbO w lo hi tp l) (hhi : hi ≤ w.heap.size) (hs : AfRow w w.heap.size A n zs) (hn : n ≤ 1000000) (hz : ∀ x ∈ afvals zs, x.2.length ≤ 1000000) (d i : Int) (hd : in64 d) (hi64 : in64 i) (x : Nat) (hx : x < 18446744073709551616) :
    Calls Tryz.prog 28 #[.pointer tp, .slice A n c, .int .i64 d, .int .i64 i, .int .u64 (x : Int)] w (ResA w (mdWrite l (afvals zs) d i x)) := by
  obtain ⟨X, hX⟩ : ∃ X, X = (((w.alloc (.cells #[.int .i64 d] 3)).alloc (.cells #[.int .i64 i] 3)).alloc (.cells #[.int .u64 (x : Int)] 32)) := ⟨_, rfl⟩
  have hb : Below w.heap.size w X := by rw [hX]; exact belF_al (belF_al (belF_al (Below.refl _ _) _) _) _
  have kc : Calls Tryz.prog 45 #[.pointer tp, .slice A n c, .func (.func 62) #[] #[.pointer (some ⟨w.heap.size, 0, none⟩), .pointer (some ⟨w.heap.size + 1, 0, none⟩), .pointer (some ⟨w.heap.size + 1 + 1, 0, none⟩)]] X (ResA X (mdWrite l (afvals zs) d i x)) := by
    refine c_changed (ht.below (hb.mono hhi)) (Nat.le_trans hhi hb.size) (hs.step hb) hn hz _ (fun args W => by simp [go_sem]) (fun hR => ?_) (fun hR W q A' c' us hch hus => ?_)
    · exact (md_wrong hR).2.2.2.2.2.1 d i x
    · have hbx : Below X.heap.size X W := belF_tr (belF_al (Below.refl _ _) (.cells #[.int .i64 0] 26)) hch.own.bel
      have z1 : (w.alloc (.cells #[.int .i64 d] 3)).heap.size = w.heap.size + 1 := by simp
      have z2 : ((w.alloc (.cells #[.int .i64 d] 3)).alloc (.cells #[.int .i64 i] 3)).heap.size = w.heap.size + 1 + 1 := by simp
      have hz1 : X.heap.size = w.heap.size + 3 := by rw [hX]; simp
      have hin : NumIn X w.heap.size (w.heap.size + 1) d i := by
        refine ⟨?_, ?_, by omega, by omega⟩
        · rw [hX, World.cell?_alloc_lt _ _ _ (by show w.heap.size < _; omega), World.cell?_alloc_lt _ _ _ (by show w.heap.size < _; omega)]; simp
        · rw [hX, World.cell?_alloc_lt _ _ _ (by show w.heap.size + 1 < _; omega), ← z1]; simp
      exact c_write1 hch hus hR hn hd hi64 hx (hin.below hbx) (by have := hbx.size; omega) ((hbx.cell (p := ⟨w.heap.size + 1 + 1, 0, none⟩) (by show w.heap.size + 1 + 1 < _; omega)).trans (by rw [hX, ← z2]; exact World.cell?_alloc_at _ _ _ 0 (by simp)))
  have HB := hidb hb
  obtain ⟨r, hr⟩ : ∃ r, (mdWrite l (afvals zs) d i x) = r := ⟨_, rfl⟩
  rw [hr] at kc ⊢
  rw [hX] at kc HB
  have kc2 := kc.mono fun e w' h => ResA.base HB.out h
  unfold ResA at kc2
  clear ht hs hz hr hX kc hb
  --@write
  go_enter Tryz.func28, Tryz.ntmps28
  go_wp2_with (first | (go_at_call 45; (with_reducible refine kc2.mono ?_); rintro e w1 ⟨A1, n1, c1, zs1, rfl, h1⟩))
  go_ret2
  exact ⟨A1, n1, c1, zs1, rfl, h1⟩
set_option maxRecDepth 100000 in
theorem code_mdcalc (ht : TbO w lo hi tp l) (hhi : hi ≤ w.heap.size) (hs : AfRow w w.heap.size A n zs) (hn : n ≤ 1000000) (hz : ∀ x ∈ afvals zs, x.2.length ≤ 1000000) (op : Nat) (hop : op < 256) (d : Int) (hd : in64 d) {A3 : Option Addr} {n3 c3 : Nat} {ks : List Int} (hks : ∀ k ∈ ks, in64 k) (hn3 : n3 ≤ 9223372036854775806) (hrow : Sl w w.heap.size A3 n3 (ks.map fun k => Value.int .i64 k)) :
    Calls Tryz.prog 29 #[.pointer tp, .slice A n c, .int .u8 (op : Int), .int .i64 d, .slice A3 n3 c3] w (ResA w (mdCalc l (afvals zs) op d ks)) := by
  obtain ⟨X, hX⟩ : ∃ X, X = (((w.alloc (.cells #[.int .u8 (op : Int)] 5)).alloc (.cells #[.int .i64 d] 3)).alloc (.cells #[.slice A3 n3 c3] 35)) := ⟨_, rfl⟩
  have hb : Below w.heap.size w X := by rw [hX]; exact belF_al (belF_al (belF_al (Below.refl _ _) _) _) _
  have kc : Calls Tryz.prog 45 #[.pointer tp, .slice A n c, .func (.func 64) #[] #[.pointer (some ⟨w.heap.size + 1 + 1, 0, none⟩), .pointer (some ⟨w.heap.size, 0, none⟩), .pointer (some ⟨w.heap.size + 1, 0, none⟩)]] X (ResA X (mdCalc l (afvals zs) op d ks)) := by
    refine c_changed (ht.below (hb.mono hhi)) (Nat.le_trans hhi hb.size) (hs.step hb) hn hz _ (fun args W => by simp [go_sem]) (fun hR => ?_) (fun hR W q A' c' us hch hus => ?_)
    · exact (md_wrong hR).2.2.2.2.2.2 op d ks
    · have hbx : Below X.heap.size X W := belF_tr (belF_al (Below.refl _ _) (.cells #[.int .i64 0] 26)) hch.own.bel
      have z1 : (w.alloc (.cells #[.int .u8 (op : Int)] 5)).heap.size = w.heap.size + 1 := by simp
      have z2 : ((w.alloc (.cells #[.int .u8 (op : Int)] 5)).alloc (.cells #[.int .i64 d] 3)).heap.size = w.heap.size + 1 + 1 := by simp
      have hz1 : X.heap.size = w.heap.size + 3 := by rw [hX]; simp
      have hin : CalcIn X (w.heap.size + 1 + 1) w.heap.size (w.heap.size + 1) A3 n3 c3 op d ks := by
        refine ⟨?_, ?_, ?_, (hrow.below hb).more hb.size, by omega, by omega, by omega⟩
        · rw [hX, ← z2]; exact World.cell?_alloc_at _ _ _ 0 (by simp)
        · rw [hX, World.cell?_alloc_lt _ _ _ (by show w.heap.size < _; omega), World.cell?_alloc_lt _ _ _ (by show w.heap.size < _; omega)]; simp
        · rw [hX, World.cell?_alloc_lt _ _ _ (by show w.heap.size + 1 < _; omega), ← z1]; simp
      exact c_calc1 hch hus hR hn hop hd hks hn3 (hin.below hbx)
  have HB := hidb hb
  obtain ⟨r, hr⟩ : ∃ r, (mdCalc l (afvals zs) op d ks) = r := ⟨_, rfl⟩
  rw [hr] at kc ⊢
  rw [hX] at kc HB
  have kc2 := kc.mono fun e w' h => ResA.base HB.out h
  unfold ResA at kc2
  clear ht hs hz hr hX kc hb
  --@calc
  go_enter Tryz.func29, Tryz.ntmps29
  go_wp2_with (first | (go_at_call 45; (with_reducible refine kc2.mono ?_); rintro e w1 ⟨A1, n1, c1, zs1, rfl, h1⟩))
  go_ret2
  exact ⟨A1, n1, c1, zs1, rfl, h1⟩
set_option maxRecDepth 100000 in
theorem code_mdget (ht : TbO w lo hi tp l) (hhi : hi ≤ w.heap.size) (hs : AfRow w w.heap.size A n zs) (hn : n ≤ 1000000) (d i : Int) (hd : in64 d) (hi64 : in64 i) :
    Calls Tryz.prog 26 #[.pointer tp, .slice A n c, .int .i64 d, .int .i64 i] w (ResVl w (mdGet l (afvals zs) d i)) := by
  obtain ⟨Y, hY⟩ : ∃ Y, Y = (w.alloc (.cells #[.int .i64 d] 3)).alloc (.cells #[.int .i64 i] 3) := ⟨_, rfl⟩
  obtain ⟨X, hX⟩ : ∃ X, X = Y.alloc (.cells #[.int .u8 0, .int .u64 0, .int .i64 0, .int .i64 0] 34) := ⟨_, rfl⟩
  have z1 : (w.alloc (.cells #[.int .i64 d] 3)).heap.size = w.heap.size + 1 := by simp
  have z2 : Y.heap.size = w.heap.size + 1 + 1 := by rw [hY]; simp
  have hbY : Below w.heap.size w Y := by rw [hY]; exact belF_al (belF_al (Below.refl _ _) _) _
  have hbX : Below Y.heap.size Y X := by rw [hX]; exact belF_al (Below.refl _ _) _
  have hb := belF_tr hbY hbX
  have hin : NumIn Y w.heap.size (w.heap.size + 1) d i := by
    refine ⟨?_, ?_, by omega, by omega⟩
    · rw [hY, World.cell?_alloc_lt _ _ _ (by show w.heap.size < _; omega)]; simp
    · rw [hY, ← z1]; simp
  have kc : Calls Tryz.prog 58 #[.pointer tp, .slice A n c, .func (.func 59) #[] #[.pointer (some ⟨w.heap.size, 0, none⟩), .pointer (some ⟨w.heap.size + 1, 0, none⟩)]] X (ResVl X (mdGet l (afvals zs) d i)) := by
    refine c_asked (ht.below (hb.mono hhi)) (Nat.le_trans hhi hb.size) (hs.step hb) hn _ (fun args W => by simp [go_sem]) (fun hR => ?_) (fun hR W hbx => ?_)
    · exact (md_wrong hR).2.2.2.1 d i
    · exact c_get1 (hs.step (belF_tr hb hbx)) hR hn hd hi64 (hin.below (belF_tr hbX hbx))
  have HB := hidb hb
  obtain ⟨⟨⟨rk, rb, rd, ri⟩, no⟩, hr⟩ : ∃ r, mdGet l (afvals zs) d i = r := ⟨_, rfl⟩
  rw [hr] at kc ⊢
  have HN := new_val Y
  rw [z2] at HN
  rw [hX, hY] at kc HB
  rw [hY] at HN
  unfold ResVl vlC at kc
  unfold ResVl vlC
  simp only at kc ⊢
  clear ht hs hr hX hb hbY hbX hin z1 z2 hY
  --@get
  go_enter Tryz.func26, Tryz.ntmps26
  go_wp2_with (first | (go_at_call 58; (with_reducible refine kc.mono ?_); rintro e w1 ⟨rfl, hb1⟩; obtain ⟨⟨r0, r1, r2, r3⟩, f0, f1, f2, f3⟩ := HN.out _ hb1))
  obtain ⟨s0, s1, s2, s3⟩ := four_cellsV w1 (w.heap.size + 1 + 1) (.int .u8 (rk : Int)) (.int .u64 (rb : Int)) (.int .i64 rd) (.int .i64 ri) _ _ _ _ r0 r1 r2 r3
  exact bodyPost_ret (v := .tuple #[.agg #[.int .u8 (rk : Int), .int .u64 (rb : Int), .int .i64 rd, .int .i64 ri], .int .i64 no]) (by simp [results, Tryz.results26, go_sem, s0, s1, s2, s3]) rfl ⟨rfl, bel_set4 (belF_tr HB.out hb1) (by omega) _ _ _ _⟩
set_option maxRecDepth 100000 in
theorem code_mdload (ht : TbO w lo hi tp l) (hhi : hi ≤ w.heap.size) (hs : AfRow w w.heap.size A n zs) (hn : n ≤ 1000000) (d i : Int) (hd : in64 d) (hi64 : in64 i) :
    Calls Tryz.prog 27 #[.pointer tp, .slice A n c, .int .i64 d, .int .i64 i] w (ResVl w (mdLoad l (afvals zs) d i)) := by
  obtain ⟨Y, hY⟩ : ∃ Y, Y = (w.alloc (.cells #[.int .i64 d] 3)).alloc (.cells #[.int .i64 i] 3) := ⟨_, rfl⟩
  obtain ⟨X, hX⟩ : ∃ X, X = Y.alloc (.cells #[.int .u8 0, .int .u64 0, .int .i64 0, .int .i64 0] 34) := ⟨_, rfl⟩
  have z1 : (w.alloc (.cells #[.int .i64 d] 3)).heap.size = w.heap.size + 1 := by simp
  have z2 : Y.heap.size = w.heap.size + 1 + 1 := by rw [hY]; simp
  have hbY : Below w.heap.size w Y := by rw [hY]; exact belF_al (belF_al (Below.refl _ _) _) _
  have hbX : Below Y.heap.size Y X := by rw [hX]; exact belF_al (Below.refl _ _) _
  have hb := belF_tr hbY hbX
  have hin : NumIn Y w.heap.size (w.heap.size + 1) d i := by
    refine ⟨?_, ?_, by omega, by omega⟩
    · rw [hY, World.cell?_alloc_lt _ _ _ (by show w.heap.size < _; omega)]; simp
    · rw [hY, ← z1]; simp
  have kc : Calls Tryz.prog 58 #[.pointer tp, .slice A n c, .func (.func 60) #[] #[.pointer (some ⟨w.heap.size, 0, none⟩), .pointer (some ⟨w.heap.size + 1, 0, none⟩)]] X (ResVl X (mdLoad l (afvals zs) d i)) := by
    refine c_asked (ht.below (hb.mono hhi)) (Nat.le_trans hhi hb.size) (hs.step hb) hn _ (fun args W => by simp [go_sem]) (fun hR => ?_) (fun hR W hbx => ?_)
    · exact (md_wrong hR).2.2.2.2.1 d i
    · exact c_load1 (hs.step (belF_tr hb hbx)) hR hn hd hi64 (hin.below (belF_tr hbX hbx))
  have HB := hidb hb
  obtain ⟨⟨⟨rk, rb, rd, ri⟩, no⟩, hr⟩ : ∃ r, mdLoad l (afvals zs) d i = r := ⟨_, rfl⟩
  rw [hr] at kc ⊢
  have HN := new_val Y
  rw [z2] at HN
  rw [hX, hY] at kc HB
  rw [hY] at HN
  unfold ResVl vlC at kc
  unfold ResVl vlC
  simp only at kc ⊢
  clear ht hs hr hX hb hbY hbX hin z1 z2 hY
  --@load
  go_enter Tryz.func27, Tryz.ntmps27
  go_wp2_with (first | (go_at_call 58; (with_reducible refine kc.mono ?_); rintro e w1 ⟨rfl, hb1⟩; obtain ⟨⟨r0, r1, r2, r3⟩, f0, f1, f2, f3⟩ := HN.out _ hb1))
  obtain ⟨s0, s1, s2, s3⟩ := four_cellsV w1 (w.heap.size + 1 + 1) (.int .u8 (rk : Int)) (.int .u64 (rb : Int)) (.int .i64 rd) (.int .i64 ri) _ _ _ _ r0 r1 r2 r3
  exact bodyPost_ret (v := .tuple #[.agg #[.int .u8 (rk : Int), .int .u64 (rb : Int), .int .i64 rd, .int .i64 ri], .int .i64 no]) (by simp [results, Tryz.results27, go_sem, s0, s1, s2, s3]) rfl ⟨rfl, bel_set4 (belF_tr HB.out hb1) (by omega) _ _ _ _⟩
end
end Go.Proofs.YtdcnpaodcjfdbaaGreatDoor

/- What the code of layer 19 (model) returns: Words, Same. -/
namespace Go.Proofs.YtdcnpaodcjfdbaaGreatDoor
open Go.RowKit
set_option linter.unusedVariables false

section
variable {w : World} {A : Option Addr} {n c : Nat} {zs : List AfS} {tp : Option Addr} {lo hi : Nat} {l : Fns}
set_option maxRecDepth 100000 in
set_option maxHeartbeats 4000000 in
theorem code_mdwords (ht : TbO w lo hi tp l) (hhi : hi ≤ w.heap.size) (hl : ∀ x ∈ l, 0 ≤ x.1 ∧ x.1 ≤ 1000) (hs : AfRow w w.heap.size A n zs) (hn : n ≤ 1000000) (r : Int) (hr : (if mdRight l (afvals zs) = true then mdWords l (afvals zs) else 0) = r) :
    Calls Tryz.prog 11 #[.pointer tp, .slice A n c] w fun e w' => e = .returned (.int .i64 r) ∧ Below w.heap.size w w' := by
  have hb0 := belF_al (Below.refl w.heap.size w) (.cells #[.pointer tp, .slice A n c] 66)
  have HB0 := hidb hb0
  have cr := c_rright (c := c) (ht.below (hb0.mono hhi)) (Nat.le_trans hhi hb0.size) (hs.step hb0) hn _ rfl
  have HR0 := rwB_at w tp A n c
  have HS := hidb hs
  have HLN := hidb hs.len
  cases hR : mdRight l (afvals zs) with
  | false =>
    rw [hR] at cr
    rw [if_neg (by rw [hR]; simp)] at hr
    subst hr
    clear ht hs hR hb0
    --@1
    go_enter Tryz.func11, Tryz.ntmps11
    go_wp2_with (first | (go_at_call 23; (with_reducible refine cr.mono ?_); rintro e w1 ⟨rfl, hb1⟩))
    go_ret
    exact ⟨rfl, belF_tr HB0.out hb1⟩
  | true =>
    rw [hR] at cr
    rw [if_pos hR] at hr
    have KW : Hid (∀ W f, Below w.heap.size w W → Calls Tryz.prog 24 #[.pointer tp, .int .i64 f] W fun e w' => e = .returned (.int .i64 (fWords l f)) ∧ Below W.heap.size W w') := hidb (fun W f hb => code_fwordsT (ht.below (hb.mono hhi)) (Nat.le_trans hhi hb.size) f hl)
    have HRG := hidb (fun j => mdWords_range l hl (afvals zs) j)
    have HFW : Hid (∀ f, -1 ≤ fWords l f ∧ fWords l f ≤ 1002) := hidb (fun f => by have := fSize_range hl f; unfold fWords; split <;> omega)
    have HR := hidb hr
    clear ht hs hR hb0 hl hr
    --@2
    go_enter Tryz.func11, Tryz.ntmps11
    go_wp2_with (first | (go_at_call 23; (with_reducible refine cr.mono ?_); rintro e w1 ⟨rfl, hb1⟩; have HB1 := hidb hb1; clear hb1))
    go_loopw [17, 6, 8] (fun k v _ wr => ∃ (j : Nat) (s : Int), j ≤ n ∧ k = .int .i64 j ∧ v = .int .i64 s ∧ Hid (s = mdWords l ((afvals zs).take j)) ∧ Hid (Below (rwB w tp A n c).heap.size (rwB w tp A n c) wr)) (fun k _ _ _ => (n - intOf k).toNat)
    case atStart => exact ⟨0, 0, by omega, rfl, rfl, hidb rfl, HB1⟩
    case round =>
      obtain ⟨j, s, hj, rfl, rfl, HSU, HB⟩ := hrel
      by_cases hlt : j < n
      · have HBW := hidb (belF_tr HB0.out HB.out)
        obtain ⟨b, off, z, rfl, hbl, hx, hc0, hc1, hok⟩ := HS.out.at_ hlt
        have d0 := (HBW.out.cell (p := ⟨b, off + j * 2, none⟩) hbl).trans hc0
        have d1 := (HBW.out.cell (p := ⟨b, off + j * 2 + 1, none⟩) hbl).trans hc1
        have hst := mdWords_take l (afvals zs) j (z.fn, z.vs) (by rw [afvals_get, hx]; rfl)
        have hrg := HRG.out j
        have hrg2 := HRG.out (j + 1)
        rw [hst, ← HSU.out] at hrg2
        rw [← HSU.out] at hrg
        rw [← HSU.out] at hst
        simp only at hst hrg2
        obtain ⟨zf, zA, zn, zc, zvs⟩ := z
        simp only at *
        obtain ⟨e0, e1⟩ := HR0.out _ (belF_al HB.out (.cells #[.int .i64 zf, .slice zA zn zc] 59))
        have kw := KW.out _ zf (belF_al HBW.out (.cells #[.int .i64 zf, .slice zA zn zc] 59))
        have hfw := HFW.out zf
        obtain ⟨q, hq⟩ : ∃ q, fWords l zf = q := ⟨_, rfl⟩
        rw [hq] at kw hst hrg2 hfw
        have HST := hidb hst
        have g1 : -(9223372036854775808 : Int) ≤ s + q := by omega
        have g2 : s + q ≤ 9223372036854775807 := by omega
        clear hx hok hc0 hc1 hst hq hrg hrg2
        --@3
        go_wp2_with (first | (go_at_call 24; (with_reducible refine kw.mono ?_); rintro e w3 ⟨rfl, hb3⟩; have HB3 := hidb (belF_tr (belF_al HB.out _) hb3); clear hb3))
        go_roundw
        case rel => exact ⟨j + 1, s + q, by omega, by go_num, by go_num, hidb HST.out.symm, HB3⟩
        case measure => simp [intOf]; omega
      · have HE : Hid (s = r) := hidb (by
          have := HSU.out
          rw [List.take_of_length_le (by rw [afvals_length]; have := HLN.out; omega)] at this
          exact this.trans HR.out)
        --@4
        go_wp2
        go_ret
        exact ⟨by rw [← HE.out]; rfl, belF_tr HB0.out HB.out⟩
end

theorem c_eqvals (A A2 : Option Addr) (n c m d : Nat) (xs ys : List VlV) (w : World) (B B2 : Nat) (hs : VlRow w B A n xs) (hs2 : VlRow w B2 A2 m ys) (hn : n ≤ 9223372036854775806) (hm : m ≤ 9223372036854775806) :
    Calls Tryz.prog 39 #[.slice A n c, .slice A2 m d] w fun e w' => e = .returned (.bool (decide (xs = ys))) ∧ Below w.heap.size w w' := by
  have l1 := hs.len
  have l2 := hs2.len
  by_cases hnm : n = m
  · subst hnm
    have L1 := hidb l1
    have L2 := hidb l2
    have HS := hidb hs
    have HS2 := hidb hs2
    clear hs hs2 l1 l2
    --@5
    go_enter Tryz.func39, Tryz.ntmps39
    go_wp2
    go_loopw [13, 5] (fun k _ wr => ∃ j q : Nat, j ≤ n ∧ Hid (∀ i, i < j → xs[i]? = ys[i]?) ∧ k = .int .i64 j ∧ wr = w.drewN q) (fun k _ _ => (n - intOf k).toNat)
    case atStart => exact ⟨0, 0, by omega, hidb (fun i h => absurd h (Nat.not_lt_zero _)), rfl, rfl⟩
    case round =>
      obtain ⟨j, q, hj, HA, rfl, rfl⟩ := hrel
      by_cases hlt : j < n
      · obtain ⟨b3, off3, v, rfl, _, hv, e0, e1, e2, e3⟩ := HS.out.at_ hlt
        obtain ⟨b4, off4, u, rfl, _, hu, g0, g1, g2, g3⟩ := HS2.out.at_ hlt
        have HV := hidb hv
        have HU := hidb hu
        have hj0 : (0 : Int) ≤ (j : Int) := by omega
        have hj1 : (j : Int) < (n : Int) := by omega
        have hq := fun W => neq_val v u W
        clear hv hu
        by_cases e : v = u
        · subst e
          rw [show (!decide (v = v)) = false by simp] at hq
          obtain ⟨vk, vb, vd, vi⟩ := v
          simp only at *
          --@6
          go_wp2
          go_quiet (fail)
          go_wp2
          go_roundw
          case rel =>
            refine ⟨j + 1, _, by omega, hidb (fun p hp => ?_), by go_num, by first | exact World.drewN_drewN _ _ _ | rfl⟩
            by_cases h : p = j
            · subst h; rw [HV.out, HU.out]
            · exact HA.out p (by omega)
          case measure => simp [intOf]; omega
        · rw [show (!decide (v = u)) = true by simp [e]] at hq
          have HF : Hid (decide (xs = ys) = false) := hidb (decide_eq_false fun h => e (by
            have := HV.out; rw [h, HU.out] at this; exact (Option.some.inj this).symm))
          clear e
          obtain ⟨vk, vb, vd, vi⟩ := v
          obtain ⟨uk, ub, ud, ui⟩ := u
          simp only at *
          --@7
          go_wp2
          go_quiet (fail)
          go_wp2
          go_ret
          exact ⟨by rw [HF.out]; rfl, by first | exact belowN (Below.refl _ _) _ | exact belowN (belowN (Below.refl _ _) _) _⟩
      · have HF : Hid (decide (xs = ys) = true) := hidb (decide_eq_true (List.ext_getElem? (fun i => by
          by_cases h : i < n
          · exact HA.out i (by omega)
          · rw [List.getElem?_eq_none (by rw [L1.out]; omega), List.getElem?_eq_none (by rw [L2.out]; omega)])))
        --@8
        go_wp2
        go_ret
        exact ⟨by rw [HF.out]; rfl, belowN (Below.refl _ _) _⟩
  · have HF : Hid (decide (xs = ys) = false) := hidb (decide_eq_false (fun h => hnm (by rw [← l1, ← l2, h])))
    have eb : ((n : Int) != (m : Int)) = true := by simp; omega
    clear hs hs2 l1 l2
    --@9
    go_enter Tryz.func39, Tryz.ntmps39
    go_wp2
    go_ret
    exact ⟨by rw [HF.out]; rfl, Below.refl _ _⟩
theorem c_same1 (x y : AfS) (w : World) (B B2 : Nat) (hx : AfOk w B x) (hy : AfOk w B2 y) (hB : B ≤ w.heap.size) (hB2 : B2 ≤ w.heap.size) (hn : x.n ≤ 9223372036854775806) (hm : y.n ≤ 9223372036854775806) :
    Calls Tryz.prog 38 #[.agg #[.int .i64 x.fn, .slice x.A x.n x.c], .agg #[.int .i64 y.fn, .slice y.A y.n y.c]] w fun e w' => e = .returned (.bool (decide ((x.fn, x.vs) = (y.fn, y.vs)))) ∧ Below w.heap.size w w' := by
  obtain ⟨X, hX⟩ : ∃ X, X = (w.alloc (.cells #[.int .i64 x.fn, .slice x.A x.n x.c] 59)).alloc (.cells #[.int .i64 y.fn, .slice y.A y.n y.c] 59) := ⟨_, rfl⟩
  have hb : Below w.heap.size w X := by rw [hX]; exact belF_al (belF_al (Below.refl _ _) _) _
  have ke := c_eqvals x.A y.A x.n x.c y.n y.c x.vs y.vs X _ _ (hx.vals.below (hb.mono hB)) (hy.vals.below (hb.mono hB2)) hn hm
  have z1 : (w.alloc (.cells #[.int .i64 x.fn, .slice x.A x.n x.c] 59)).heap.size = w.heap.size + 1 := by simp
  have hc : (X.cell? ⟨w.heap.size, 0, none⟩ = some (.int .i64 x.fn) ∧ X.cell? ⟨w.heap.size, 1, none⟩ = some (.slice x.A x.n x.c)) ∧ X.cell? ⟨w.heap.size + 1, 0, none⟩ = some (.int .i64 y.fn) ∧ X.cell? ⟨w.heap.size + 1, 1, none⟩ = some (.slice y.A y.n y.c) := by
    refine ⟨⟨?_, ?_⟩, ?_, ?_⟩
    · rw [hX, World.cell?_alloc_lt _ _ _ (by show w.heap.size < _; omega)]; simp
    · rw [hX, World.cell?_alloc_lt _ _ _ (by show w.heap.size < _; omega)]; simp
    · rw [hX, ← z1]; exact World.cell?_alloc_at _ _ _ 0 (by simp)
    · rw [hX, ← z1]; exact World.cell?_alloc_at _ _ _ 1 (by simp)
  have HB := hidb hb
  rw [hX] at hc ke HB
  obtain ⟨⟨c0, c1⟩, c2, c3⟩ := hc
  clear hX hb hx hy z1
  obtain ⟨xf, xA, xn, xc, xvs⟩ := x
  obtain ⟨yf, yA, yn, yc, yvs⟩ := y
  simp only at *
  by_cases hf : xf = yf
  · subst hf
    have E : decide ((xf, xvs) = (xf, yvs)) = decide (xvs = yvs) := by simp
    rw [E]
    have eb : (xf == xf) = true := by simp
    generalize decide (xvs = yvs) = D at *
    clear E
    --@10
    go_enter Tryz.func38, Tryz.ntmps38
    go_wp2_with (first | (go_at_call 39; (with_reducible refine ke.mono ?_); rintro e w3 ⟨rfl, hb3⟩))
    go_ret
    exact ⟨rfl, belF_tr HB.out hb3⟩
  · have E : decide ((xf, xvs) = (yf, yvs)) = false := by simp [hf]
    rw [E]
    have eb : (xf == yf) = false := by simpa using hf
    clear E ke hf
    --@11
    go_enter Tryz.func38, Tryz.ntmps38
    go_wp2
    go_ret
    exact ⟨rfl, HB.out⟩
set_option maxRecDepth 100000 in
set_option maxHeartbeats 4000000 in
theorem code_mdsame (A A2 : Option Addr) (n c m d : Nat) (xs ys : List AfS) (w : World) (hs : AfRow w w.heap.size A n xs) (hs2 : AfRow w w.heap.size A2 m ys) (hn : n ≤ 9223372036854775806) (hm : m ≤ 9223372036854775806) (h1 : ∀ x ∈ afvals xs, x.2.length ≤ 9223372036854775806) (h2 : ∀ x ∈ afvals ys, x.2.length ≤ 9223372036854775806) :
    Calls Tryz.prog 15 #[.slice A n c, .slice A2 m d] w fun e w' => e = .returned (.bool (decide (afvals xs = afvals ys))) ∧ Below w.heap.size w w' := by
  have ke : Calls Tryz.prog 37 #[.slice A n c, .slice A2 m d, .func (.func 38) #[] #[]] w fun e w' => e = .returned (.bool (decide (afvals xs = afvals ys))) ∧ Below w.heap.size w w' := by
    have l1 : xs.length = n := hs.len
    have l2 : ys.length = m := hs2.len
    by_cases hnm : n = m
    · subst hnm
      have L1 := hidb l1
      have L2 := hidb l2
      have HS := hidb hs
      have HS2 := hidb hs2
      have H1 := hidb h1
      have H2 := hidb h2
      clear hs hs2 l1 l2 h1 h2
      --@12
      go_enter Tryz.func37, Tryz.ntmps37
      go_wp2
      go_loopw [17, 7, 8, 9] (fun k _ _ _ wr => ∃ j : Nat, j ≤ n ∧ Hid (∀ i, i < j → (afvals xs)[i]? = (afvals ys)[i]?) ∧ k = .int .i64 j ∧ Hid (Below w.heap.size w wr)) (fun k _ _ _ _ => (n - intOf k).toNat)
      case atStart => exact ⟨0, by omega, hidb (fun i h => absurd h (Nat.not_lt_zero _)), rfl, hidb (Below.refl _ _)⟩
      case round =>
        obtain ⟨j, hj, HA, rfl, HB⟩ := hrel
        by_cases hlt : j < n
        · obtain ⟨b, off, x, rfl, hbl, hx, hc0, hc1, hok⟩ := HS.out.at_ hlt
          obtain ⟨b2, off2, y, rfl, hbl2, hy, hd0, hd1, hok2⟩ := HS2.out.at_ hlt
          have hxn := H1.out _ (afvals_mem hx)
          have hyn := H2.out _ (afvals_mem hy)
          simp only at hxn hyn
          rw [hok.len] at hxn
          rw [hok2.len] at hyn
          obtain ⟨X, hX⟩ : ∃ X, X = (wr.alloc (.cells #[.int .i64 x.fn, .slice x.A x.n x.c] 59)).alloc (.cells #[.int .i64 y.fn, .slice y.A y.n y.c] 59) := ⟨_, rfl⟩
          have hbX : Below wr.heap.size wr X := by rw [hX]; exact belF_al (belF_al (Below.refl _ _) _) _
          have hbWX := belF_tr HB.out hbX
          have ks := c_same1 x y X _ _ (hok.below hbWX) (hok2.below hbWX) hbWX.size hbWX.size hxn hyn
          have u0 := (HB.out.cell (p := ⟨b, off + j * 2, none⟩) hbl).trans hc0
          have u1 := (HB.out.cell (p := ⟨b, off + j * 2 + 1, none⟩) hbl).trans hc1
          have t0 := ((belF_al HB.out (.cells #[.int .i64 x.fn, .slice x.A x.n x.c] 59)).cell (p := ⟨b2, off2 + j * 2, none⟩) hbl2).trans hd0
          have t1 := ((belF_al HB.out (.cells #[.int .i64 x.fn, .slice x.A x.n x.c] 59)).cell (p := ⟨b2, off2 + j * 2 + 1, none⟩) hbl2).trans hd1
          have z1 : (wr.alloc (.cells #[.int .i64 x.fn, .slice x.A x.n x.c] 59)).heap.size = wr.heap.size + 1 := by simp
          have hc : (X.cell? ⟨wr.heap.size, 0, none⟩ = some (.int .i64 x.fn) ∧ X.cell? ⟨wr.heap.size, 1, none⟩ = some (.slice x.A x.n x.c)) ∧ X.cell? ⟨wr.heap.size + 1, 0, none⟩ = some (.int .i64 y.fn) ∧ X.cell? ⟨wr.heap.size + 1, 1, none⟩ = some (.slice y.A y.n y.c) := by
            refine ⟨⟨?_, ?_⟩, ?_, ?_⟩
            · rw [hX, World.cell?_alloc_lt _ _ _ (by show wr.heap.size < _; omega)]; simp
            · rw [hX, World.cell?_alloc_lt _ _ _ (by show wr.heap.size < _; omega)]; simp
            · rw [hX, ← z1]; exact World.cell?_alloc_at _ _ _ 0 (by simp)
            · rw [hX, ← z1]; exact World.cell?_alloc_at _ _ _ 1 (by simp)
          have HBX := hidb hbWX
          have hnext : decide ((x.fn, x.vs) = (y.fn, y.vs)) = true → ∀ i, i < j + 1 → (afvals xs)[i]? = (afvals ys)[i]? := fun h i hi => by
            by_cases e : i = j
            · subst e; rw [afvals_get, afvals_get, hx, hy]; exact congrArg some (of_decide_eq_true h)
            · exact HA.out i (by omega)
          have hbad : decide ((x.fn, x.vs) = (y.fn, y.vs)) = false → decide (afvals xs = afvals ys) = false := fun h => afvals_neq hx hy (of_decide_eq_false h)
          rw [hX] at hc ks HBX
          obtain ⟨⟨c0, c1⟩, c2, c3⟩ := hc
          have hj0 : (0 : Int) ≤ (j : Int) := by omega
          have hj1 : (j : Int) < (n : Int) := by omega
          obtain ⟨D, hD⟩ : ∃ D, decide ((x.fn, x.vs) = (y.fn, y.vs)) = D := ⟨_, rfl⟩
          rw [hD] at ks hnext hbad
          clear hX hbX hbWX hx hy hok hok2 hc0 hc1 hd0 hd1 z1 hD hxn hyn
          obtain ⟨xf, xA, xn, xc, xvs⟩ := x
          obtain ⟨yf, yA, yn, yc, yvs⟩ := y
          simp only at *
          cases D with
          | true =>
            have HN := hidb (hnext rfl)
            clear hnext hbad
            --@13
            go_wp2_with (first | (go_at_call 38; (with_reducible refine ks.mono ?_); rintro e w3 ⟨rfl, hb3⟩; have HB3 := hidb (belF_tr HBX.out hb3); clear hb3))
            go_roundw
            case rel => exact ⟨j + 1, by omega, HN, by go_num, HB3⟩
            case measure => simp [intOf]; omega
          | false =>
            have HF := hidb (hbad rfl)
            clear hnext hbad
            --@14
            go_wp2_with (first | (go_at_call 38; (with_reducible refine ks.mono ?_); rintro e w3 ⟨rfl, hb3⟩; have HB3 := hidb (belF_tr HBX.out hb3); clear hb3))
            go_ret
            exact ⟨by rw [HF.out]; rfl, HB3.out⟩
        · have HF : Hid (decide (afvals xs = afvals ys) = true) := hidb (decide_eq_true (List.ext_getElem? (fun i => by
            by_cases h : i < n
            · exact HA.out i (by omega)
            · rw [List.getElem?_eq_none (by rw [afvals_length, L1.out]; omega), List.getElem?_eq_none (by rw [afvals_length, L2.out]; omega)])))
          --@15
          go_wp2
          go_ret
          exact ⟨by rw [HF.out]; rfl, HB.out⟩
    · have HF : Hid (decide (afvals xs = afvals ys) = false) := hidb (decide_eq_false (fun h => hnm (by rw [← l1, ← l2, ← afvals_length xs, h, afvals_length])))
      have eb : ((n : Int) != (m : Int)) = true := by simp; omega
      clear hs hs2 l1 l2 h1 h2
      --@16
      go_enter Tryz.func37, Tryz.ntmps37
      go_wp2
      go_ret
      exact ⟨by rw [HF.out]; rfl, Below.refl _ _⟩
  generalize decide (afvals xs = afvals ys) = D at *
  clear hs hs2 h1 h2
  --@17
  go_enter Tryz.func15, Tryz.ntmps15
  go_wp2_with (first | (go_at_call 37; (with_reducible refine ke.mono ?_); rintro e w3 ⟨rfl, hb3⟩))
  go_ret
  exact ⟨rfl, hb3⟩
end Go.Proofs.YtdcnpaodcjfdbaaGreatDoor

/- Layer 19: what the code's acts come to. -/
namespace Go.Proofs.YtdcnpaodcjfdbaaGreatDoor
open Go.RowKit Go.ChangeShapes Go.WideShapes
set_option linter.unusedVariables false

section
variable {w : World} {A : Option Addr} {n c : Nat} {zs : List AfS} {tp : Option Addr} {lo' hi' : Nat} {l : Fns}
set_option maxRecDepth 100000 in
set_option maxHeartbeats 4000000 in
theorem code_does0 (hs : AfRow w w.heap.size A n zs) (hn : n ≤ 1000000) (hc : n ≤ c ∧ c ≤ 9223372036854775807) (hr : TbO w lo' hi' tp l) (hhi : hi' ≤ w.heap.size) (hz : ∀ x ∈ afvals zs, x.2.length ≤ 1000000) (hl : ∀ x ∈ l, 0 ≤ x.1 ∧ x.1 ≤ 1000) (a : A19) (ha : A19Ok w w.heap.size a) (hm : a.n ≤ 1000) (hkd : a.kind = 0) :
    Calls Tryz.prog 12 #[.pointer tp, .slice A n c, .agg (a19cells a).toArray] w (ResWt w (mdWant l (afvals zs) a)) := by
  have HC : Hid (∀ X, X = ((w.alloc (.cells (a19cells a).toArray 37)).alloc (.cells #[.int .u8 0, .int .u64 0, .int .i64 0, .int .i64 0] 34)).alloc (.cells #[.int .u8 0, .int .u64 0, .int .i64 0, .int .i64 0] 34) → ∀ W, Below X.heap.size X W → ∀ k u, (a19cells a)[k]? = some u → W.cell? ⟨w.heap.size, k, none⟩ = some u) := hidb (fun X e W hb k u hu => by
    rw [hb.cell (by show w.heap.size < _; rw [e]; simp; omega), e, World.cell?_alloc_lt _ _ _ (by simp; omega), World.cell?_alloc_lt _ _ _ (by simp)]
    simpa using hu)
  obtain ⟨kind, f, d, i, ⟨vk, vb, vd, vi⟩, bits, op, A3, n3, c3, ks⟩ := a
  obtain ⟨_, hf, hd, hi, hv, hbits, hop, hk, hks, hk1, hk2, hk3⟩ := ha
  unfold a19cells at *
  simp only at *
  subst hkd
  obtain ⟨X, hX⟩ : ∃ X, X = ((w.alloc (.cells #[.int .i64 0, .int .i64 f, .int .i64 d, .int .i64 i, .int .u8 (vk : Int), .int .u64 (vb : Int), .int .i64 vd, .int .i64 vi, .int .u64 (bits : Int), .int .u8 (op : Int), .slice A3 n3 c3] 37)).alloc (.cells #[.int .u8 0, .int .u64 0, .int .i64 0, .int .i64 0] 34)).alloc (.cells #[.int .u8 0, .int .u64 0, .int .i64 0, .int .i64 0] 34) := ⟨_, rfl⟩
  have st0 : WtSt w X := by rw [hX]; exact WtSt.made _ _
  have hbX := st0.bel
  have hsX := hs.step hbX
  have hrX := hr.below (hbX.mono hhi)
  have hhX := Nat.le_trans hhi hbX.size
  have hkX := (hk.below hbX).more hbX.size
  have HST := hidb st0
  have HXX := hidb hX
  have cc : Calls Tryz.prog 18 #[.pointer tp, .slice A n c, .int .i64 f] X (ResA X (mdCall l (afvals zs) f)) := code_mdcall (c := c) hrX hhX hsX hn hz hl f hf
  obtain ⟨r, hrr⟩ : ∃ r, mdCall l (afvals zs) f = r := ⟨_, rfl⟩
  have hww : mdWant l (afvals zs) ⟨0, f, d, i, ⟨vk, vb, vd, vi⟩, bits, op, A3, n3, c3, ks⟩ = (r.1, vl0, r.2) := by rw [← hrr]; unfold mdWant; simp
  rw [hrr] at cc
  rw [hww]
  have x1 := HC.out _ rfl X (by rw [hX]; exact Below.refl _ _) 1 _ rfl
  clear hs hr hl hz hsX hrX hkX hk hks HC st0 hbX hX hrr hww
  go_enter Tryz.func12, Tryz.ntmps12
  go_wp2_with (first | (go_at_call 18; rw [← HXX.out]; (with_reducible refine cc.mono ?_); rintro e w1 ⟨A4, n4, c4, zs4, rfl, r1, r2, r3, r4, hb1⟩; have R1 := hidb r1; have R2 := hidb r2; have ST := hidb (HST.out.step hb1); clear r1 r2 hb1; obtain ⟨v0, v1, v2, v3⟩ := ST.out.vc; obtain ⟨z0, z1, z2, z3⟩ := ST.out.rc; obtain ⟨f0, f1, f2, f3⟩ := ST.out.rf))
  go_region
  go_wp2
  obtain ⟨s0, s1, s2, s3⟩ := four_cellsV _ (w.heap.size + 1) (.int .u8 0) (.int .u64 0) (.int .i64 0) (.int .i64 0) _ _ _ _ z0 z1 z2 z3
  exact bodyPost_ret (v := .tuple #[.slice A4 n4 c4, .agg #[.int .u8 0, .int .u64 0, .int .i64 0, .int .i64 0], .int .i64 r.2]) (by simp [results, Tryz.results12, go_sem, s0, s1, s2, s3]) rfl ⟨A4, n4, c4, zs4, rfl, R1.out.idem4 _ _ _ _ _ z0 z1 z2 z3, R2.out, r3, r4, belF_dr (bel_set4 ST.out.bel (by omega) _ _ _ _)⟩
set_option maxRecDepth 100000 in
set_option maxHeartbeats 4000000 in
theorem code_does1 (hs : AfRow w w.heap.size A n zs) (hn : n ≤ 1000000) (hc : n ≤ c ∧ c ≤ 9223372036854775807) (hr : TbO w lo' hi' tp l) (hhi : hi' ≤ w.heap.size) (hz : ∀ x ∈ afvals zs, x.2.length ≤ 1000000) (hl : ∀ x ∈ l, 0 ≤ x.1 ∧ x.1 ≤ 1000) (a : A19) (ha : A19Ok w w.heap.size a) (hm : a.n ≤ 1000) (hkd : a.kind = 1) :
    Calls Tryz.prog 12 #[.pointer tp, .slice A n c, .agg (a19cells a).toArray] w (ResWt w (mdWant l (afvals zs) a)) := by
  have HC : Hid (∀ X, X = ((w.alloc (.cells (a19cells a).toArray 37)).alloc (.cells #[.int .u8 0, .int .u64 0, .int .i64 0, .int .i64 0] 34)).alloc (.cells #[.int .u8 0, .int .u64 0, .int .i64 0, .int .i64 0] 34) → ∀ W, Below X.heap.size X W → ∀ k u, (a19cells a)[k]? = some u → W.cell? ⟨w.heap.size, k, none⟩ = some u) := hidb (fun X e W hb k u hu => by
    rw [hb.cell (by show w.heap.size < _; rw [e]; simp; omega), e, World.cell?_alloc_lt _ _ _ (by simp; omega), World.cell?_alloc_lt _ _ _ (by simp)]
    simpa using hu)
  obtain ⟨kind, f, d, i, ⟨vk, vb, vd, vi⟩, bits, op, A3, n3, c3, ks⟩ := a
  obtain ⟨_, hf, hd, hi, hv, hbits, hop, hk, hks, hk1, hk2, hk3⟩ := ha
  unfold a19cells at *
  simp only at *
  subst hkd
  obtain ⟨X, hX⟩ : ∃ X, X = ((w.alloc (.cells #[.int .i64 1, .int .i64 f, .int .i64 d, .int .i64 i, .int .u8 (vk : Int), .int .u64 (vb : Int), .int .i64 vd, .int .i64 vi, .int .u64 (bits : Int), .int .u8 (op : Int), .slice A3 n3 c3] 37)).alloc (.cells #[.int .u8 0, .int .u64 0, .int .i64 0, .int .i64 0] 34)).alloc (.cells #[.int .u8 0, .int .u64 0, .int .i64 0, .int .i64 0] 34) := ⟨_, rfl⟩
  have st0 : WtSt w X := by rw [hX]; exact WtSt.made _ _
  have hbX := st0.bel
  have hsX := hs.step hbX
  have hrX := hr.below (hbX.mono hhi)
  have hhX := Nat.le_trans hhi hbX.size
  have hkX := (hk.below hbX).more hbX.size
  have HST := hidb st0
  have HXX := hidb hX
  have cc : Calls Tryz.prog 19 #[.pointer tp, .slice A n c] X (ResA X (mdReturn l (afvals zs))) := code_mdreturn (c := c) hrX hhX hsX hn hz 
  obtain ⟨r, hrr⟩ : ∃ r, mdReturn l (afvals zs) = r := ⟨_, rfl⟩
  have hww : mdWant l (afvals zs) ⟨1, f, d, i, ⟨vk, vb, vd, vi⟩, bits, op, A3, n3, c3, ks⟩ = (r.1, vl0, r.2) := by rw [← hrr]; unfold mdWant; simp
  rw [hrr] at cc
  rw [hww]
  clear hs hr hl hz hsX hrX hkX hk hks HC st0 hbX hX hrr hww
  go_enter Tryz.func12, Tryz.ntmps12
  go_wp2_with (first | (go_at_call 19; rw [← HXX.out]; (with_reducible refine cc.mono ?_); rintro e w1 ⟨A4, n4, c4, zs4, rfl, r1, r2, r3, r4, hb1⟩; have R1 := hidb r1; have R2 := hidb r2; have ST := hidb (HST.out.step hb1); clear r1 r2 hb1; obtain ⟨v0, v1, v2, v3⟩ := ST.out.vc; obtain ⟨z0, z1, z2, z3⟩ := ST.out.rc; obtain ⟨f0, f1, f2, f3⟩ := ST.out.rf))
  go_region
  go_wp2
  obtain ⟨s0, s1, s2, s3⟩ := four_cellsV _ (w.heap.size + 1) (.int .u8 0) (.int .u64 0) (.int .i64 0) (.int .i64 0) _ _ _ _ z0 z1 z2 z3
  exact bodyPost_ret (v := .tuple #[.slice A4 n4 c4, .agg #[.int .u8 0, .int .u64 0, .int .i64 0, .int .i64 0], .int .i64 r.2]) (by simp [results, Tryz.results12, go_sem, s0, s1, s2, s3]) rfl ⟨A4, n4, c4, zs4, rfl, R1.out.idem4 _ _ _ _ _ z0 z1 z2 z3, R2.out, r3, r4, belF_dr (bel_set4 ST.out.bel (by omega) _ _ _ _)⟩
set_option maxRecDepth 100000 in
set_option maxHeartbeats 4000000 in
theorem code_does2 (hs : AfRow w w.heap.size A n zs) (hn : n ≤ 1000000) (hc : n ≤ c ∧ c ≤ 9223372036854775807) (hr : TbO w lo' hi' tp l) (hhi : hi' ≤ w.heap.size) (hz : ∀ x ∈ afvals zs, x.2.length ≤ 1000000) (hl : ∀ x ∈ l, 0 ≤ x.1 ∧ x.1 ≤ 1000) (a : A19) (ha : A19Ok w w.heap.size a) (hm : a.n ≤ 1000) (hkd : a.kind = 2) :
    Calls Tryz.prog 12 #[.pointer tp, .slice A n c, .agg (a19cells a).toArray] w (ResWt w (mdWant l (afvals zs) a)) := by
  have HC : Hid (∀ X, X = ((w.alloc (.cells (a19cells a).toArray 37)).alloc (.cells #[.int .u8 0, .int .u64 0, .int .i64 0, .int .i64 0] 34)).alloc (.cells #[.int .u8 0, .int .u64 0, .int .i64 0, .int .i64 0] 34) → ∀ W, Below X.heap.size X W → ∀ k u, (a19cells a)[k]? = some u → W.cell? ⟨w.heap.size, k, none⟩ = some u) := hidb (fun X e W hb k u hu => by
    rw [hb.cell (by show w.heap.size < _; rw [e]; simp; omega), e, World.cell?_alloc_lt _ _ _ (by simp; omega), World.cell?_alloc_lt _ _ _ (by simp)]
    simpa using hu)
  obtain ⟨kind, f, d, i, ⟨vk, vb, vd, vi⟩, bits, op, A3, n3, c3, ks⟩ := a
  obtain ⟨_, hf, hd, hi, hv, hbits, hop, hk, hks, hk1, hk2, hk3⟩ := ha
  unfold a19cells at *
  simp only at *
  subst hkd
  obtain ⟨X, hX⟩ : ∃ X, X = ((w.alloc (.cells #[.int .i64 2, .int .i64 f, .int .i64 d, .int .i64 i, .int .u8 (vk : Int), .int .u64 (vb : Int), .int .i64 vd, .int .i64 vi, .int .u64 (bits : Int), .int .u8 (op : Int), .slice A3 n3 c3] 37)).alloc (.cells #[.int .u8 0, .int .u64 0, .int .i64 0, .int .i64 0] 34)).alloc (.cells #[.int .u8 0, .int .u64 0, .int .i64 0, .int .i64 0] 34) := ⟨_, rfl⟩
  have st0 : WtSt w X := by rw [hX]; exact WtSt.made _ _
  have hbX := st0.bel
  have hsX := hs.step hbX
  have hrX := hr.below (hbX.mono hhi)
  have hhX := Nat.le_trans hhi hbX.size
  have hkX := (hk.below hbX).more hbX.size
  have HST := hidb st0
  have HXX := hidb hX
  have cc : Calls Tryz.prog 25 #[.pointer tp, .slice A n c, .int .i64 d, .int .i64 i, .agg #[.int .u8 (vk : Int), .int .u64 (vb : Int), .int .i64 vd, .int .i64 vi]] X (ResA X (mdSet l (afvals zs) d i ⟨vk, vb, vd, vi⟩)) := code_mdset (c := c) hrX hhX hsX hn hz d i hd hi ⟨vk, vb, vd, vi⟩ hv
  obtain ⟨r, hrr⟩ : ∃ r, mdSet l (afvals zs) d i ⟨vk, vb, vd, vi⟩ = r := ⟨_, rfl⟩
  have hww : mdWant l (afvals zs) ⟨2, f, d, i, ⟨vk, vb, vd, vi⟩, bits, op, A3, n3, c3, ks⟩ = (r.1, vl0, r.2) := by rw [← hrr]; unfold mdWant; simp
  rw [hrr] at cc
  rw [hww]
  have x2 := HC.out _ rfl X (by rw [hX]; exact Below.refl _ _) 2 _ rfl
  have x3 := HC.out _ rfl X (by rw [hX]; exact Below.refl _ _) 3 _ rfl
  have x4 := HC.out _ rfl X (by rw [hX]; exact Below.refl _ _) 4 _ rfl
  have x5 := HC.out _ rfl X (by rw [hX]; exact Below.refl _ _) 5 _ rfl
  have x6 := HC.out _ rfl X (by rw [hX]; exact Below.refl _ _) 6 _ rfl
  have x7 := HC.out _ rfl X (by rw [hX]; exact Below.refl _ _) 7 _ rfl
  clear hs hr hl hz hsX hrX hkX hk hks HC st0 hbX hX hrr hww
  go_enter Tryz.func12, Tryz.ntmps12
  go_wp2_with (first | (go_at_call 25; rw [← HXX.out]; (with_reducible refine cc.mono ?_); rintro e w1 ⟨A4, n4, c4, zs4, rfl, r1, r2, r3, r4, hb1⟩; have R1 := hidb r1; have R2 := hidb r2; have ST := hidb (HST.out.step hb1); clear r1 r2 hb1; obtain ⟨v0, v1, v2, v3⟩ := ST.out.vc; obtain ⟨z0, z1, z2, z3⟩ := ST.out.rc; obtain ⟨f0, f1, f2, f3⟩ := ST.out.rf))
  go_region
  go_wp2
  obtain ⟨s0, s1, s2, s3⟩ := four_cellsV _ (w.heap.size + 1) (.int .u8 0) (.int .u64 0) (.int .i64 0) (.int .i64 0) _ _ _ _ z0 z1 z2 z3
  exact bodyPost_ret (v := .tuple #[.slice A4 n4 c4, .agg #[.int .u8 0, .int .u64 0, .int .i64 0, .int .i64 0], .int .i64 r.2]) (by simp [results, Tryz.results12, go_sem, s0, s1, s2, s3]) rfl ⟨A4, n4, c4, zs4, rfl, R1.out.idem4 _ _ _ _ _ z0 z1 z2 z3, R2.out, r3, r4, belF_dr (bel_set4 ST.out.bel (by omega) _ _ _ _)⟩
set_option maxRecDepth 100000 in
set_option maxHeartbeats 4000000 in
theorem code_does5 (hs : AfRow w w.heap.size A n zs) (hn : n ≤ 1000000) (hc : n ≤ c ∧ c ≤ 9223372036854775807) (hr : TbO w lo' hi' tp l) (hhi : hi' ≤ w.heap.size) (hz : ∀ x ∈ afvals zs, x.2.length ≤ 1000000) (hl : ∀ x ∈ l, 0 ≤ x.1 ∧ x.1 ≤ 1000) (a : A19) (ha : A19Ok w w.heap.size a) (hm : a.n ≤ 1000) (hkd : a.kind = 5) :
    Calls Tryz.prog 12 #[.pointer tp, .slice A n c, .agg (a19cells a).toArray] w (ResWt w (mdWant l (afvals zs) a)) := by
  have HC : Hid (∀ X, X = ((w.alloc (.cells (a19cells a).toArray 37)).alloc (.cells #[.int .u8 0, .int .u64 0, .int .i64 0, .int .i64 0] 34)).alloc (.cells #[.int .u8 0, .int .u64 0, .int .i64 0, .int .i64 0] 34) → ∀ W, Below X.heap.size X W → ∀ k u, (a19cells a)[k]? = some u → W.cell? ⟨w.heap.size, k, none⟩ = some u) := hidb (fun X e W hb k u hu => by
    rw [hb.cell (by show w.heap.size < _; rw [e]; simp; omega), e, World.cell?_alloc_lt _ _ _ (by simp; omega), World.cell?_alloc_lt _ _ _ (by simp)]
    simpa using hu)
  obtain ⟨kind, f, d, i, ⟨vk, vb, vd, vi⟩, bits, op, A3, n3, c3, ks⟩ := a
  obtain ⟨_, hf, hd, hi, hv, hbits, hop, hk, hks, hk1, hk2, hk3⟩ := ha
  unfold a19cells at *
  simp only at *
  subst hkd
  obtain ⟨X, hX⟩ : ∃ X, X = ((w.alloc (.cells #[.int .i64 5, .int .i64 f, .int .i64 d, .int .i64 i, .int .u8 (vk : Int), .int .u64 (vb : Int), .int .i64 vd, .int .i64 vi, .int .u64 (bits : Int), .int .u8 (op : Int), .slice A3 n3 c3] 37)).alloc (.cells #[.int .u8 0, .int .u64 0, .int .i64 0, .int .i64 0] 34)).alloc (.cells #[.int .u8 0, .int .u64 0, .int .i64 0, .int .i64 0] 34) := ⟨_, rfl⟩
  have st0 : WtSt w X := by rw [hX]; exact WtSt.made _ _
  have hbX := st0.bel
  have hsX := hs.step hbX
  have hrX := hr.below (hbX.mono hhi)
  have hhX := Nat.le_trans hhi hbX.size
  have hkX := (hk.below hbX).more hbX.size
  have HST := hidb st0
  have HXX := hidb hX
  have cc : Calls Tryz.prog 28 #[.pointer tp, .slice A n c, .int .i64 d, .int .i64 i, .int .u64 (bits : Int)] X (ResA X (mdWrite l (afvals zs) d i bits)) := code_mdwrite (c := c) hrX hhX hsX hn hz d i hd hi bits hbits
  obtain ⟨r, hrr⟩ : ∃ r, mdWrite l (afvals zs) d i bits = r := ⟨_, rfl⟩
  have hww : mdWant l (afvals zs) ⟨5, f, d, i, ⟨vk, vb, vd, vi⟩, bits, op, A3, n3, c3, ks⟩ = (r.1, vl0, r.2) := by rw [← hrr]; unfold mdWant; simp
  rw [hrr] at cc
  rw [hww]
  have x2 := HC.out _ rfl X (by rw [hX]; exact Below.refl _ _) 2 _ rfl
  have x3 := HC.out _ rfl X (by rw [hX]; exact Below.refl _ _) 3 _ rfl
  have x8 := HC.out _ rfl X (by rw [hX]; exact Below.refl _ _) 8 _ rfl
  clear hs hr hl hz hsX hrX hkX hk hks HC st0 hbX hX hrr hww
  go_enter Tryz.func12, Tryz.ntmps12
  go_wp2_with (first | (go_at_call 28; rw [← HXX.out]; (with_reducible refine cc.mono ?_); rintro e w1 ⟨A4, n4, c4, zs4, rfl, r1, r2, r3, r4, hb1⟩; have R1 := hidb r1; have R2 := hidb r2; have ST := hidb (HST.out.step hb1); clear r1 r2 hb1; obtain ⟨v0, v1, v2, v3⟩ := ST.out.vc; obtain ⟨z0, z1, z2, z3⟩ := ST.out.rc; obtain ⟨f0, f1, f2, f3⟩ := ST.out.rf))
  go_region
  go_wp2
  obtain ⟨s0, s1, s2, s3⟩ := four_cellsV _ (w.heap.size + 1) (.int .u8 0) (.int .u64 0) (.int .i64 0) (.int .i64 0) _ _ _ _ z0 z1 z2 z3
  exact bodyPost_ret (v := .tuple #[.slice A4 n4 c4, .agg #[.int .u8 0, .int .u64 0, .int .i64 0, .int .i64 0], .int .i64 r.2]) (by simp [results, Tryz.results12, go_sem, s0, s1, s2, s3]) rfl ⟨A4, n4, c4, zs4, rfl, R1.out.idem4 _ _ _ _ _ z0 z1 z2 z3, R2.out, r3, r4, belF_dr (bel_set4 ST.out.bel (by omega) _ _ _ _)⟩
set_option maxRecDepth 100000 in
set_option maxHeartbeats 4000000 in
theorem code_does6 (hs : AfRow w w.heap.size A n zs) (hn : n ≤ 1000000) (hc : n ≤ c ∧ c ≤ 9223372036854775807) (hr : TbO w lo' hi' tp l) (hhi : hi' ≤ w.heap.size) (hz : ∀ x ∈ afvals zs, x.2.length ≤ 1000000) (hl : ∀ x ∈ l, 0 ≤ x.1 ∧ x.1 ≤ 1000) (a : A19) (ha : A19Ok w w.heap.size a) (hm : a.n ≤ 1000) (hkd : a.kind ≠ 0 ∧ a.kind ≠ 1 ∧ a.kind ≠ 2 ∧ a.kind ≠ 3 ∧ a.kind ≠ 4 ∧ a.kind ≠ 5) :
    Calls Tryz.prog 12 #[.pointer tp, .slice A n c, .agg (a19cells a).toArray] w (ResWt w (mdWant l (afvals zs) a)) := by
  have HC : Hid (∀ X, X = ((w.alloc (.cells (a19cells a).toArray 37)).alloc (.cells #[.int .u8 0, .int .u64 0, .int .i64 0, .int .i64 0] 34)).alloc (.cells #[.int .u8 0, .int .u64 0, .int .i64 0, .int .i64 0] 34) → ∀ W, Below X.heap.size X W → ∀ k u, (a19cells a)[k]? = some u → W.cell? ⟨w.heap.size, k, none⟩ = some u) := hidb (fun X e W hb k u hu => by
    rw [hb.cell (by show w.heap.size < _; rw [e]; simp; omega), e, World.cell?_alloc_lt _ _ _ (by simp; omega), World.cell?_alloc_lt _ _ _ (by simp)]
    simpa using hu)
  obtain ⟨kind, f, d, i, ⟨vk, vb, vd, vi⟩, bits, op, A3, n3, c3, ks⟩ := a
  obtain ⟨_, hf, hd, hi, hv, hbits, hop, hk, hks, hk1, hk2, hk3⟩ := ha
  unfold a19cells at *
  simp only at *
  obtain ⟨k0, k1, k2, k3, k4, k5⟩ := hkd
  obtain ⟨X, hX⟩ : ∃ X, X = ((w.alloc (.cells #[.int .i64 kind, .int .i64 f, .int .i64 d, .int .i64 i, .int .u8 (vk : Int), .int .u64 (vb : Int), .int .i64 vd, .int .i64 vi, .int .u64 (bits : Int), .int .u8 (op : Int), .slice A3 n3 c3] 37)).alloc (.cells #[.int .u8 0, .int .u64 0, .int .i64 0, .int .i64 0] 34)).alloc (.cells #[.int .u8 0, .int .u64 0, .int .i64 0, .int .i64 0] 34) := ⟨_, rfl⟩
  have st0 : WtSt w X := by rw [hX]; exact WtSt.made _ _
  have hbX := st0.bel
  have hsX := hs.step hbX
  have hrX := hr.below (hbX.mono hhi)
  have hhX := Nat.le_trans hhi hbX.size
  have hkX := (hk.below hbX).more hbX.size
  have HST := hidb st0
  have HXX := hidb hX
  have cc : Calls Tryz.prog 29 #[.pointer tp, .slice A n c, .int .u8 (op : Int), .int .i64 d, .slice A3 n3 c3] X (ResA X (mdCalc l (afvals zs) op d ks)) := code_mdcalc (c := c) hrX hhX hsX hn hz op hop d hd hks (by omega) hkX
  obtain ⟨r, hrr⟩ : ∃ r, mdCalc l (afvals zs) op d ks = r := ⟨_, rfl⟩
  have hww : mdWant l (afvals zs) ⟨kind, f, d, i, ⟨vk, vb, vd, vi⟩, bits, op, A3, n3, c3, ks⟩ = (r.1, vl0, r.2) := by rw [← hrr]; unfold mdWant; simp [k0, k1, k2, k3, k4, k5]
  rw [hrr] at cc
  rw [hww]
  have q0 : (kind == 0) = false := by simpa using k0
  have q1 : (kind == 1) = false := by simpa using k1
  have q2 : (kind == 2) = false := by simpa using k2
  have q3 : (kind == 3) = false := by simpa using k3
  have q4 : (kind == 4) = false := by simpa using k4
  have q5 : (kind == 5) = false := by simpa using k5
  have x9 := HC.out _ rfl X (by rw [hX]; exact Below.refl _ _) 9 _ rfl
  have x2 := HC.out _ rfl X (by rw [hX]; exact Below.refl _ _) 2 _ rfl
  have x10 := HC.out _ rfl X (by rw [hX]; exact Below.refl _ _) 10 _ rfl
  clear hs hr hl hz hsX hrX hkX hk hks HC st0 hbX hX hrr hww
  go_enter Tryz.func12, Tryz.ntmps12
  go_wp2_with (first | (go_at_call 29; rw [← HXX.out]; (with_reducible refine cc.mono ?_); rintro e w1 ⟨A4, n4, c4, zs4, rfl, r1, r2, r3, r4, hb1⟩; have R1 := hidb r1; have R2 := hidb r2; have ST := hidb (HST.out.step hb1); clear r1 r2 hb1; obtain ⟨v0, v1, v2, v3⟩ := ST.out.vc; obtain ⟨z0, z1, z2, z3⟩ := ST.out.rc; obtain ⟨f0, f1, f2, f3⟩ := ST.out.rf))
  go_region
  go_wp2
  obtain ⟨s0, s1, s2, s3⟩ := four_cellsV _ (w.heap.size + 1) (.int .u8 0) (.int .u64 0) (.int .i64 0) (.int .i64 0) _ _ _ _ z0 z1 z2 z3
  exact bodyPost_ret (v := .tuple #[.slice A4 n4 c4, .agg #[.int .u8 0, .int .u64 0, .int .i64 0, .int .i64 0], .int .i64 r.2]) (by simp [results, Tryz.results12, go_sem, s0, s1, s2, s3]) rfl ⟨A4, n4, c4, zs4, rfl, R1.out.idem4 _ _ _ _ _ z0 z1 z2 z3, R2.out, r3, r4, belF_dr (bel_set4 ST.out.bel (by omega) _ _ _ _)⟩
set_option maxRecDepth 100000 in
set_option maxHeartbeats 4000000 in
theorem code_does3 (hs : AfRow w w.heap.size A n zs) (hn : n ≤ 1000000) (hc : n ≤ c ∧ c ≤ 9223372036854775807) (hr : TbO w lo' hi' tp l) (hhi : hi' ≤ w.heap.size) (hz : ∀ x ∈ afvals zs, x.2.length ≤ 1000000) (hl : ∀ x ∈ l, 0 ≤ x.1 ∧ x.1 ≤ 1000) (a : A19) (ha : A19Ok w w.heap.size a) (hm : a.n ≤ 1000) (hkd : a.kind = 3) :
    Calls Tryz.prog 12 #[.pointer tp, .slice A n c, .agg (a19cells a).toArray] w (ResWt w (mdWant l (afvals zs) a)) := by
  have HC : Hid (∀ X, X = ((w.alloc (.cells (a19cells a).toArray 37)).alloc (.cells #[.int .u8 0, .int .u64 0, .int .i64 0, .int .i64 0] 34)).alloc (.cells #[.int .u8 0, .int .u64 0, .int .i64 0, .int .i64 0] 34) → ∀ W, Below X.heap.size X W → ∀ k u, (a19cells a)[k]? = some u → W.cell? ⟨w.heap.size, k, none⟩ = some u) := hidb (fun X e W hb k u hu => by
    rw [hb.cell (by show w.heap.size < _; rw [e]; simp; omega), e, World.cell?_alloc_lt _ _ _ (by simp; omega), World.cell?_alloc_lt _ _ _ (by simp)]
    simpa using hu)
  obtain ⟨kind, f, d, i, ⟨vk, vb, vd, vi⟩, bits, op, A3, n3, c3, ks⟩ := a
  obtain ⟨_, hf, hd, hi, hv, hbits, hop, hk, hks, hk1, hk2, hk3⟩ := ha
  unfold a19cells at *
  simp only at *
  subst hkd
  obtain ⟨X, hX⟩ : ∃ X, X = ((w.alloc (.cells #[.int .i64 3, .int .i64 f, .int .i64 d, .int .i64 i, .int .u8 (vk : Int), .int .u64 (vb : Int), .int .i64 vd, .int .i64 vi, .int .u64 (bits : Int), .int .u8 (op : Int), .slice A3 n3 c3] 37)).alloc (.cells #[.int .u8 0, .int .u64 0, .int .i64 0, .int .i64 0] 34)).alloc (.cells #[.int .u8 0, .int .u64 0, .int .i64 0, .int .i64 0] 34) := ⟨_, rfl⟩
  have st0 : WtSt w X := by rw [hX]; exact WtSt.made _ _
  have hbX := st0.bel
  have hsX := hs.step hbX
  have hrX := hr.below (hbX.mono hhi)
  have hhX := Nat.le_trans hhi hbX.size
  have hkX := (hk.below hbX).more hbX.size
  have HST := hidb st0
  have HXX := hidb hX
  have cc : Calls Tryz.prog 26 #[.pointer tp, .slice A n c, .int .i64 d, .int .i64 i] X (ResVl X (mdGet l (afvals zs) d i)) := code_mdget (c := c) hrX hhX hsX hn d i hd hi
  obtain ⟨⟨⟨gk, gb, gd, gi⟩, no⟩, hrr⟩ : ∃ r, mdGet l (afvals zs) d i = r := ⟨_, rfl⟩
  have hww : mdWant l (afvals zs) ⟨3, f, d, i, ⟨vk, vb, vd, vi⟩, bits, op, A3, n3, c3, ks⟩ = (afvals zs, ⟨gk, gb, gd, gi⟩, no) := by unfold mdWant; simp [hrr]
  rw [hrr] at cc
  unfold ResVl vlC at cc
  simp only at cc
  rw [hww]
  have x2 := HC.out _ rfl X (by rw [hX]; exact Below.refl _ _) 2 _ rfl
  have x3 := HC.out _ rfl X (by rw [hX]; exact Below.refl _ _) 3 _ rfl
  have HS := hidb hs
  clear hs hr hl hz hsX hrX hkX hk hks HC st0 hbX hX hrr hww
  go_enter Tryz.func12, Tryz.ntmps12
  go_wp2_with (first | (go_at_call 26; rw [← HXX.out]; (with_reducible refine cc.mono ?_); rintro e w1 ⟨rfl, hb1⟩; have ST := hidb (HST.out.step hb1); clear hb1; obtain ⟨v0, v1, v2, v3⟩ := ST.out.vc; obtain ⟨z0, z1, z2, z3⟩ := ST.out.rc; obtain ⟨f0, f1, f2, f3⟩ := ST.out.rf; obtain ⟨g0, g1, g2, g3⟩ := ST.out.vf))
  go_region
  go_wp2
  have ho := fun k => four_other w1 (w.heap.size + 1 + 1) (w.heap.size + 1) k (.int .u8 (gk : Int)) (.int .u64 (gb : Int)) (.int .i64 gd) (.int .i64 gi) (by omega)
  obtain ⟨s0, s1, s2, s3⟩ := four_cellsV _ (w.heap.size + 1) (.int .u8 (gk : Int)) (.int .u64 (gb : Int)) (.int .i64 gd) (.int .i64 gi) _ _ _ _ ((ho 0).trans z0) ((ho 1).trans z1) ((ho 2).trans z2) ((ho 3).trans z3)
  have hb := belF_dr (bel_set4 (b := w.heap.size + 1) (bel_set4 (b := w.heap.size + 1 + 1) ST.out.bel (by omega) (.int .u8 (gk : Int)) (.int .u64 (gb : Int)) (.int .i64 gd) (.int .i64 gi)) (by omega) (.int .u8 (gk : Int)) (.int .u64 (gb : Int)) (.int .i64 gd) (.int .i64 gi))
  exact bodyPost_ret (v := .tuple #[.slice A n c, .agg #[.int .u8 (gk : Int), .int .u64 (gb : Int), .int .i64 gd, .int .i64 gi], .int .i64 no]) (by simp [results, Tryz.results12, go_sem, s0, s1, s2, s3]) rfl ⟨A, n, c, zs, rfl, HS.out.step hb, rfl, hc.1, hc.2, hb⟩
set_option maxRecDepth 100000 in
set_option maxHeartbeats 4000000 in
theorem code_does4 (hs : AfRow w w.heap.size A n zs) (hn : n ≤ 1000000) (hc : n ≤ c ∧ c ≤ 9223372036854775807) (hr : TbO w lo' hi' tp l) (hhi : hi' ≤ w.heap.size) (hz : ∀ x ∈ afvals zs, x.2.length ≤ 1000000) (hl : ∀ x ∈ l, 0 ≤ x.1 ∧ x.1 ≤ 1000) (a : A19) (ha : A19Ok w w.heap.size a) (hm : a.n ≤ 1000) (hkd : a.kind = 4) :
    Calls Tryz.prog 12 #[.pointer tp, .slice A n c, .agg (a19cells a).toArray] w (ResWt w (mdWant l (afvals zs) a)) := by
  have HC : Hid (∀ X, X = ((w.alloc (.cells (a19cells a).toArray 37)).alloc (.cells #[.int .u8 0, .int .u64 0, .int .i64 0, .int .i64 0] 34)).alloc (.cells #[.int .u8 0, .int .u64 0, .int .i64 0, .int .i64 0] 34) → ∀ W, Below X.heap.size X W → ∀ k u, (a19cells a)[k]? = some u → W.cell? ⟨w.heap.size, k, none⟩ = some u) := hidb (fun X e W hb k u hu => by
    rw [hb.cell (by show w.heap.size < _; rw [e]; simp; omega), e, World.cell?_alloc_lt _ _ _ (by simp; omega), World.cell?_alloc_lt _ _ _ (by simp)]
    simpa using hu)
  obtain ⟨kind, f, d, i, ⟨vk, vb, vd, vi⟩, bits, op, A3, n3, c3, ks⟩ := a
  obtain ⟨_, hf, hd, hi, hv, hbits, hop, hk, hks, hk1, hk2, hk3⟩ := ha
  unfold a19cells at *
  simp only at *
  subst hkd
  obtain ⟨X, hX⟩ : ∃ X, X = ((w.alloc (.cells #[.int .i64 4, .int .i64 f, .int .i64 d, .int .i64 i, .int .u8 (vk : Int), .int .u64 (vb : Int), .int .i64 vd, .int .i64 vi, .int .u64 (bits : Int), .int .u8 (op : Int), .slice A3 n3 c3] 37)).alloc (.cells #[.int .u8 0, .int .u64 0, .int .i64 0, .int .i64 0] 34)).alloc (.cells #[.int .u8 0, .int .u64 0, .int .i64 0, .int .i64 0] 34) := ⟨_, rfl⟩
  have st0 : WtSt w X := by rw [hX]; exact WtSt.made _ _
  have hbX := st0.bel
  have hsX := hs.step hbX
  have hrX := hr.below (hbX.mono hhi)
  have hhX := Nat.le_trans hhi hbX.size
  have hkX := (hk.below hbX).more hbX.size
  have HST := hidb st0
  have HXX := hidb hX
  have cc : Calls Tryz.prog 27 #[.pointer tp, .slice A n c, .int .i64 d, .int .i64 i] X (ResVl X (mdLoad l (afvals zs) d i)) := code_mdload (c := c) hrX hhX hsX hn d i hd hi
  obtain ⟨⟨⟨gk, gb, gd, gi⟩, no⟩, hrr⟩ : ∃ r, mdLoad l (afvals zs) d i = r := ⟨_, rfl⟩
  have hww : mdWant l (afvals zs) ⟨4, f, d, i, ⟨vk, vb, vd, vi⟩, bits, op, A3, n3, c3, ks⟩ = (afvals zs, ⟨gk, gb, gd, gi⟩, no) := by unfold mdWant; simp [hrr]
  rw [hrr] at cc
  unfold ResVl vlC at cc
  simp only at cc
  rw [hww]
  have x2 := HC.out _ rfl X (by rw [hX]; exact Below.refl _ _) 2 _ rfl
  have x3 := HC.out _ rfl X (by rw [hX]; exact Below.refl _ _) 3 _ rfl
  have HS := hidb hs
  clear hs hr hl hz hsX hrX hkX hk hks HC st0 hbX hX hrr hww
  go_enter Tryz.func12, Tryz.ntmps12
  go_wp2_with (first | (go_at_call 27; rw [← HXX.out]; (with_reducible refine cc.mono ?_); rintro e w1 ⟨rfl, hb1⟩; have ST := hidb (HST.out.step hb1); clear hb1; obtain ⟨v0, v1, v2, v3⟩ := ST.out.vc; obtain ⟨z0, z1, z2, z3⟩ := ST.out.rc; obtain ⟨f0, f1, f2, f3⟩ := ST.out.rf; obtain ⟨g0, g1, g2, g3⟩ := ST.out.vf))
  go_region
  go_wp2
  have ho := fun k => four_other w1 (w.heap.size + 1 + 1) (w.heap.size + 1) k (.int .u8 (gk : Int)) (.int .u64 (gb : Int)) (.int .i64 gd) (.int .i64 gi) (by omega)
  obtain ⟨s0, s1, s2, s3⟩ := four_cellsV _ (w.heap.size + 1) (.int .u8 (gk : Int)) (.int .u64 (gb : Int)) (.int .i64 gd) (.int .i64 gi) _ _ _ _ ((ho 0).trans z0) ((ho 1).trans z1) ((ho 2).trans z2) ((ho 3).trans z3)
  have hb := belF_dr (bel_set4 (b := w.heap.size + 1) (bel_set4 (b := w.heap.size + 1 + 1) ST.out.bel (by omega) (.int .u8 (gk : Int)) (.int .u64 (gb : Int)) (.int .i64 gd) (.int .i64 gi)) (by omega) (.int .u8 (gk : Int)) (.int .u64 (gb : Int)) (.int .i64 gd) (.int .i64 gi))
  exact bodyPost_ret (v := .tuple #[.slice A n c, .agg #[.int .u8 (gk : Int), .int .u64 (gb : Int), .int .i64 gd, .int .i64 gi], .int .i64 no]) (by simp [results, Tryz.results12, go_sem, s0, s1, s2, s3]) rfl ⟨A, n, c, zs, rfl, HS.out.step hb, rfl, hc.1, hc.2, hb⟩
theorem code_does (hs : AfRow w w.heap.size A n zs) (hn : n ≤ 1000000) (hc : n ≤ c ∧ c ≤ 9223372036854775807) (hr : TbO w lo' hi' tp l) (hhi : hi' ≤ w.heap.size) (hz : ∀ x ∈ afvals zs, x.2.length ≤ 1000000) (hl : ∀ x ∈ l, 0 ≤ x.1 ∧ x.1 ≤ 1000) (a : A19) (ha : A19Ok w w.heap.size a) (hm : a.n ≤ 1000) :
    Calls Tryz.prog 12 #[.pointer tp, .slice A n c, .agg (a19cells a).toArray] w (ResWt w (mdWant l (afvals zs) a)) := by
  by_cases h0 : a.kind = 0
  · exact code_does0 hs hn hc hr hhi hz hl a ha hm h0
  by_cases h1 : a.kind = 1
  · exact code_does1 hs hn hc hr hhi hz hl a ha hm h1
  by_cases h2 : a.kind = 2
  · exact code_does2 hs hn hc hr hhi hz hl a ha hm h2
  by_cases h3 : a.kind = 3
  · exact code_does3 hs hn hc hr hhi hz hl a ha hm h3
  by_cases h4 : a.kind = 4
  · exact code_does4 hs hn hc hr hhi hz hl a ha hm h4
  by_cases h5 : a.kind = 5
  · exact code_does5 hs hn hc hr hhi hz hl a ha hm h5
  exact code_does6 hs hn hc hr hhi hz hl a ha hm ⟨h0, h1, h2, h3, h4, h5⟩
end
end Go.Proofs.YtdcnpaodcjfdbaaGreatDoor

/- The walks of layer 19's statements: tables' own functions, the document's example, what is gone through. -/
namespace Go.Proofs.YtdcnpaodcjfdbaaGreatDoor
open Go.RowKit Go.ChangeShapes Go.WideShapes
set_option linter.unusedVariables false

section
variable {l : Fns}
theorem mdFits_owns (ha : fAll l = true) (L : Afs) (d : Nat) (i : Int) (v : VlV) : mdFits (fOwns l) L d i v = mdFits l L d i v := by unfold mdFits; rw [fPtr_owns ha]
theorem mdRight_owns (ha : fAll l = true) (L : Afs) : mdRight (fOwns l) L = mdRight l L := by
  unfold mdRight mdSized mdFit
  simp only [fSize_owns, mdFits_owns ha]
theorem mdWords_owns (L : Afs) : mdWords (fOwns l) L = mdWords l L := by
  unfold mdWords
  simp only [fWords_owns]
theorem mdGet_owns (ha : fAll l = true) (L : Afs) (d i : Int) : mdGet (fOwns l) L d i = mdGet l L d i := by unfold mdGet; rw [mdRight_owns ha]
theorem mdRefers_owns (ha : fAll l = true) (L : Afs) (d i : Int) : mdRefers (fOwns l) L d i = mdRefers l L d i := by unfold mdRefers; rw [mdGet_owns ha]
theorem mdLoad_owns (ha : fAll l = true) (L : Afs) (d i : Int) : mdLoad (fOwns l) L d i = mdLoad l L d i := by unfold mdLoad; rw [mdRefers_owns ha]
theorem mdSet_owns (ha : fAll l = true) (L : Afs) (d i : Int) (v : VlV) : mdSet (fOwns l) L d i v = mdSet l L d i v := by unfold mdSet; rw [mdRight_owns ha, mdFits_owns ha]
theorem mdWrite_owns (ha : fAll l = true) (L : Afs) (d i : Int) (b : Nat) : mdWrite (fOwns l) L d i b = mdWrite l L d i b := by unfold mdWrite; rw [mdRefers_owns ha]
theorem mdReturn_owns (ha : fAll l = true) (L : Afs) : mdReturn (fOwns l) L = mdReturn l L := by unfold mdReturn; rw [mdRight_owns ha]
theorem mdCall_owns (ha : fAll l = true) (L : Afs) (f : Int) : mdCall (fOwns l) L f = mdCall l L f := by
  unfold mdCall mdNew
  simp only [mdRight_owns ha, fSize_owns, fPtr_owns ha]
theorem mdCalc_owns (ha : fAll l = true) (L : Afs) (op d : Int) (ks : List Int) : mdCalc (fOwns l) L op d ks = mdCalc l L op d ks := by unfold mdCalc; rw [mdRight_owns ha]
theorem mdWant_owns (ha : fAll l = true) (L : Afs) (a : A19) : mdWant (fOwns l) L a = mdWant l L a := by
  unfold mdWant
  rw [mdCall_owns ha, mdReturn_owns ha, mdSet_owns ha, mdGet_owns ha, mdLoad_owns ha, mdWrite_owns ha, mdCalc_owns ha]
end
theorem fTab_all {l : Fns} (h : fTab l = true) : fAll l = true := by unfold fTab at h; rw [Bool.and_eq_true] at h; exact h.1
theorem fTab_few {l : Fns} (h : fTab l = true) : l.length ≤ 100 := by unfold fTab at h; rw [Bool.and_eq_true, decide_eq_true_iff] at h; omega
theorem mdGreat_in {L : Afs} (h : mdGreat L = false) : L.length ≤ 30 ∧ ∀ x ∈ L, x.2.length ≤ 100 := by
  unfold mdGreat at h
  rw [Bool.or_eq_false_iff, decide_eq_false_iff_not, List.any_eq_false] at h
  refine ⟨by omega, fun x hx => ?_⟩
  have := h.2 x hx
  simp at this
  omega

theorem mdWith_mem {L : Afs} {d i : Nat} {v : VlV} {x : Int × List VlV} {m : Nat} (h : ∀ x ∈ L, x.2.length ≤ m) (hx : x ∈ mdWith L d i v) : x.2.length ≤ m := by
  obtain ⟨k, hk, rfl⟩ := mem_getD hx
  rw [mdWith_length] at hk
  have h1 : (mdWith L d i v).getD k (0, []) = (((mdWith L d i v).getD k (0, [])).1, afAt (mdWith L d i v) k) := rfl
  rw [h1]
  show (afAt (mdWith L d i v) k).length ≤ m
  rw [mdWith_slots]
  exact h _ (getD_mem hk)
/-- How great a row is behind an act. -/
theorem mdWant_size {l : Fns} (hl : ∀ x ∈ l, 0 ≤ x.1 ∧ x.1 ≤ 1000) {L : Afs} (h : ∀ x ∈ L, x.2.length ≤ 1000) (a : A19) : (mdWant l L a).1.length ≤ L.length + 1 ∧ ∀ x ∈ (mdWant l L a).1, x.2.length ≤ 1000 := by
  have same : L.length ≤ L.length + 1 ∧ ∀ x ∈ L, x.2.length ≤ 1000 := ⟨Nat.le_succ _, h⟩
  have wth : ∀ d i v, (mdWith L d i v).length ≤ L.length + 1 ∧ ∀ x ∈ mdWith L d i v, x.2.length ≤ 1000 := fun d i v => ⟨by rw [mdWith_length]; omega, fun x hx => mdWith_mem h hx⟩
  unfold mdWant
  split
  · show (mdCall l L a.f).1.length ≤ _ ∧ ∀ x ∈ (mdCall l L a.f).1, _
    unfold mdCall
    split
    · exact same
    split
    · exact same
    · have hz := fSize_range hl a.f
      refine ⟨by simp, fun x hx => ?_⟩
      rcases List.mem_append.1 hx with hx | hx
      · exact h x hx
      · rw [List.mem_singleton.1 hx]
        show (mdNew l a.f _).length ≤ 1000
        rw [mdNew_length]; omega
  split
  · show (mdReturn l L).1.length ≤ _ ∧ ∀ x ∈ (mdReturn l L).1, _
    unfold mdReturn
    split
    · exact same
    split
    · exact same
    · exact ⟨by rw [List.length_take]; omega, fun x hx => h x (List.mem_of_mem_take hx)⟩
  split
  · show (mdSet l L a.d a.i a.v).1.length ≤ _ ∧ ∀ x ∈ (mdSet l L a.d a.i a.v).1, _
    unfold mdSet
    split
    · exact same
    split
    · exact same
    split
    · exact same
    · exact wth _ _ _
  split
  · exact same
  split
  · exact same
  split
  · show (mdWrite l L a.d a.i a.bits).1.length ≤ _ ∧ ∀ x ∈ (mdWrite l L a.d a.i a.bits).1, _
    unfold mdWrite
    split
    · exact same
    split
    · exact same
    · exact wth _ _ _
  · show (mdCalc l L a.op a.d a.zs).1.length ≤ _ ∧ ∀ x ∈ (mdCalc l L a.op a.d a.zs).1, _
    unfold mdCalc
    split
    · exact same
    split
    · exact same
    split
    · exact same
    split
    · exact same
    · exact wth _ _ _
theorem S13.base {w X W : World} {p : Option Addr} {l : Fns} (hb : Below w.heap.size w X) (s : S13 X W p l) : S13 w W p l := by
  obtain ⟨h1, lo, hi, h2, h3, h4⟩ := s
  exact ⟨belF_tr hb h1, lo, hi, h2, h3, Nat.le_trans hb.size h4⟩
theorem aw19_tab : fTab [((0 : Int), ([] : List Nat))] = true := by decide
theorem aw19_own : fOwns [((0 : Int), ([] : List Nat))] = [(0, [])] := by decide
theorem aw19_call : mdCall [((0 : Int), ([] : List Nat))] [] 0 = ([(0, [])], 0) := by decide
theorem aw19_ret : mdReturn [((0 : Int), ([] : List Nat))] [(0, [])] = ([(0, [])], 8) := by decide
set_option maxRecDepth 100000 in
theorem awake19 (w : World) (ht : TabDB w) : Calls Tryz.prog 7 #[] w fun e w' => e = .returned (.bool true) ∧ Below w.heap.size w w' := by
  have hsz : ∀ x ∈ [((0 : Int), ([] : List Nat))], 0 ≤ x.1 ∧ x.1 ≤ 1000 := fun x hx => by rw [List.mem_singleton.1 hx]; omega
  have CN : Calls Tryz.prog 4 #[.slice (some ⟨w.heap.size, 0, none⟩) 1 1] (w.alloc (.cells #[.int .i64 0, .slice none 0 0] 53)) fun e w1 => ∃ b, e = .returned (.tuple #[.pointer (some ⟨b, 0, none⟩), .int .i64 0]) ∧ Hid (S13 w w1 (some ⟨b, 0, none⟩) [(0, [])]) := by
    obtain ⟨X, hX⟩ : ∃ X, X = w.alloc (.cells #[.int .i64 0, .slice none 0 0] 53) := ⟨_, rfl⟩
    have hbX : Below w.heap.size w X := by rw [hX]; exact belF_al (Below.refl _ _) _
    have hzX : X.heap.size = w.heap.size + 1 := by rw [hX]; simp
    have hrow : FnRow X 0 X.heap.size (some ⟨w.heap.size, 0, none⟩) 1 [⟨0, none, 0, 0, []⟩] := by
      refine ⟨⟨rfl, fun _ => ⟨w.heap.size, 0, rfl, by omega, fun j y hj => ?_⟩⟩, fun _ _ _ => Nat.zero_le _, fun y hy => ?_⟩
      · match j, hj with
        | 0, hj =>
          obtain rfl := Option.some.inj hj
          refine ⟨_, rfl, fun k hk => ?_, rfl⟩
          have h2 : C2 X w.heap.size (.int .i64 0) (.slice none 0 0) := by rw [hX]; simp [C2]
          match k, hk with
          | 0, _ => exact h2.1
          | 1, _ => exact h2.2
        | j + 1, hj => simp at hj
      · rw [List.mem_singleton.1 hy]
        exact ⟨Sl.nil_, fun _ _ _ => Nat.zero_le _, Nat.le_refl _, Nat.zero_le _, fun _ => rfl, fun x hx => (by cases hx), ⟨by simp, by simp⟩⟩
    have cn := code_fNew (some ⟨w.heap.size, 0, none⟩) 1 1 _ 0 X hrow (by omega) (fun y hy => by rw [List.mem_singleton.1 hy]; simp) (TabDB.below ht hbX) aw19_tab
    rw [← hX]
    refine cn.mono fun e w1 ⟨b, h1, h2, h3⟩ => ⟨b, h1, hidb ?_⟩
    rw [show fOwns (vals [⟨0, none, 0, 0, []⟩]) = [(0, [])] from aw19_own] at h2
    exact ⟨belF_tr hbX h3, _, _, h2.o, Nat.le_refl _, hbX.size⟩
  have CC : Hid (∀ W b, Hid (S13 w W (some ⟨b, 0, none⟩) [(0, [])]) → Calls Tryz.prog 18 #[.pointer (some ⟨b, 0, none⟩), .slice (some ⟨W.heap.size, 0, none⟩) 0 0, .int .i64 0] (W.alloc (.cells #[] 59)) fun e w1 => ∃ A c zs, e = .returned (.tuple #[.slice A 1 c, .int .i64 0]) ∧ Hid (S13 w w1 (some ⟨b, 0, none⟩) [(0, [])] ∧ AfRow w1 w1.heap.size A 1 zs ∧ afvals zs = [(0, [])])) := hidb (fun W b s => by
    have hb0 := belF_al (Below.refl W.heap.size W) (.cells #[] 59)
    have s2 := s.out.step hb0
    obtain ⟨h1, lo, hi, h2, h3, h4⟩ := s2
    have hrow : AfRow (W.alloc (.cells #[] 59)) (W.alloc (.cells #[] 59)).heap.size (some ⟨W.heap.size, 0, none⟩) 0 [] := ⟨⟨rfl, fun h => absurd h (Nat.lt_irrefl _)⟩, fun z hz => (by cases hz)⟩
    have hc := code_mdcall (c := 0) h2 h3 hrow (by omega) (fun x hx => by cases hx) hsz 0 (by unfold in64; omega)
    rw [show afvals [] = [] from rfl, aw19_call] at hc
    refine hc.mono fun e w1 ⟨A, n, c, zs, k1, k2, k3, k4, k5, k6⟩ => ?_
    have hn : n = 1 := by
      have e1 := congrArg List.length k3
      rw [afvals_length, k2.len] at e1
      exact e1
    subst hn
    exact ⟨A, c, zs, k1, hidb ⟨(s.out.step hb0).step k6, k2, k3⟩⟩)
  have CR : Hid (∀ W b A c zs, Hid (S13 w W (some ⟨b, 0, none⟩) [(0, [])] ∧ AfRow W W.heap.size A 1 zs ∧ afvals zs = [(0, [])]) → Calls Tryz.prog 19 #[.pointer (some ⟨b, 0, none⟩), .slice A 1 c] W fun e w1 => ∃ A' n' c', e = .returned (.tuple #[.slice A' n' c', .int .i64 8]) ∧ Hid (Below w.heap.size w w1)) := hidb (fun W b A c zs s => by
    obtain ⟨s1, s2, s3⟩ := s.out
    obtain ⟨h1, lo, hi, h2, h3, h4⟩ := s1
    have hc := code_mdreturn (c := c) h2 h3 s2 (by omega) (fun x hx => by rw [s3] at hx; rw [List.mem_singleton.1 hx]; simp)
    rw [s3, aw19_ret] at hc
    refine hc.mono fun e w1 ⟨A, n, c, zs, k1, k2, k3, k4, k5, k6⟩ => ⟨A, n, c, k1, hidb (belF_tr h1 k6)⟩)
  clear ht
  --@1
  go_enter Tryz.func7, Tryz.ntmps7
  go_wp2_with (first
    | (go_at_call 4; (with_reducible refine CN.mono ?_); rintro e w1 ⟨b, rfl, hs1⟩)
    | (go_at_call 18; (with_reducible refine (CC.out _ _ hs1).mono ?_); rintro e w2 ⟨A2, c2, zs2, rfl, hs2⟩)
    | (go_at_call 19; (with_reducible refine (CR.out _ _ _ _ _ hs2).mono ?_); rintro e w3 ⟨A3, n3, c3, rfl, hs3⟩))
  go_ret
  exact ⟨rfl, hs3.out⟩
end Go.Proofs.YtdcnpaodcjfdbaaGreatDoor
