/- Which cut spans are asked for, and 'rising': those, by rising starts. Made by program. -/
import Derived.Test.YtcgfmpegakpddaaGreatPoolPreds
namespace Go.Proofs.YtcgfmpegakpddaaGreat
open Go.RowKit Go.Maps
set_option linter.unusedVariables false

theorem q_spans (k : CutV) (o : Nat) (order : Int) (W : World) (hk : CutAt W k) (ho : W.cell? ⟨o, 0, none⟩ = some (.int .i64 order)) :
    Calls Tryz.prog 58 #[pv k, .pointer (some ⟨o, 0, none⟩)] W fun e w' => e = .returned (.bool (k.s.2.2.2 == order)) ∧ Below W.heap.size W w' := by
  have d3 := hk.c3
  unfold pv
  obtain ⟨kb, hkb⟩ : ∃ kb, k.b = kb := ⟨_, rfl⟩
  obtain ⟨so, hso⟩ : ∃ so, k.s.2.2.2 = so := ⟨_, rfl⟩
  rw [hkb, hso] at d3
  rw [hkb, hso]
  clear hk hkb hso
  go_enter Tryz.func58, Tryz.ntmps58
  go_wp2
  go_quiet (fail)
  go_wp2
  go_ret
  exact ⟨rfl, belowN (Below.refl _ _) _⟩
theorem q_list (k : CutV) (o : Nat) (order : Int) (W : World) (hk : CutAt W k) (ho : W.cell? ⟨o, 0, none⟩ = some (.int .i64 order)) :
    Calls Tryz.prog 60 #[pv k, .pointer (some ⟨o, 0, none⟩)] W fun e w' => e = .returned (.bool (k.s.2.2.2 == order)) ∧ Below W.heap.size W w' := by
  have d3 := hk.c3
  unfold pv
  obtain ⟨kb, hkb⟩ : ∃ kb, k.b = kb := ⟨_, rfl⟩
  obtain ⟨so, hso⟩ : ∃ so, k.s.2.2.2 = so := ⟨_, rfl⟩
  rw [hkb, hso] at d3
  rw [hkb, hso]
  clear hk hkb hso
  go_enter Tryz.func60, Tryz.ntmps60
  go_wp2
  go_quiet (fail)
  go_wp2
  go_ret
  exact ⟨rfl, belowN (Below.refl _ _) _⟩
theorem q_take (k : CutV) (o : Nat) (order : Int) (W : World) (hk : CutAt W k) (ho : W.cell? ⟨o, 0, none⟩ = some (.int .i64 order)) :
    Calls Tryz.prog 93 #[pv k, .pointer (some ⟨o, 0, none⟩)] W fun e w' => e = .returned (.bool (k.s.2.2.2 == order && decide (0 < k.c.2))) ∧ Below W.heap.size W w' := by
  have d3 := hk.c3
  have d5 := hk.c5
  unfold pv
  obtain ⟨kb, hkb⟩ : ∃ kb, k.b = kb := ⟨_, rfl⟩
  obtain ⟨so, hso⟩ : ∃ so, k.s.2.2.2 = so := ⟨_, rfl⟩
  obtain ⟨kl, hkl⟩ : ∃ kl, k.c.2 = kl := ⟨_, rfl⟩
  rw [hkb, hso] at d3
  rw [hkb, hkl] at d5
  rw [hkb, hso, hkl]
  clear hk hkb hso hkl
  by_cases g1 : so = order
  · have hd1 : (so == order) = true := by simpa using g1
    rw [hd1]
    clear g1
    by_cases g2 : 0 < kl
    · have hd2 : decide (0 < kl) = true := decide_eq_true g2
      go_enter Tryz.func93, Tryz.ntmps93
      go_wp2
      go_quiet (fail)
      go_wp2
      go_ret
      exact ⟨by rw [hd2]; rfl, belowN (Below.refl _ _) _⟩
    · have hd2 : decide (0 < kl) = false := decide_eq_false g2
      go_enter Tryz.func93, Tryz.ntmps93
      go_wp2
      go_quiet (fail)
      go_wp2
      go_ret
      exact ⟨by rw [hd2]; rfl, belowN (Below.refl _ _) _⟩
  · have hd1 : (so == order) = false := by simpa using g1
    rw [hd1]
    go_enter Tryz.func93, Tryz.ntmps93
    go_wp2
    go_quiet (fail)
    go_wp2
    go_ret
    exact ⟨rfl, belowN (Below.refl _ _) _⟩
theorem q_all (v : Value) (W : World) :
    Calls Tryz.prog 65 #[v] W fun e w' => e = .returned (.bool true) ∧ Below W.heap.size W w' := by
  go_enter Tryz.func65, Tryz.ntmps65
  go_wp2
  go_ret
  exact ⟨rfl, Below.refl _ _⟩
/-- What a span that is cut keeps to. -/
def CutOk (k : CutV) : Prop := k.s.2.2.1 = 4 ∧ 0 ≤ k.s.2.1 ∧ k.s.2.1 ≤ 1024 ∧ 0 ≤ k.s.2.2.2 ∧ k.s.2.2.2 ≤ 3
theorem q_full (k : CutV) (W : World) (hk : CutAt W k) (h : CutOk k) :
    Calls Tryz.prog 142 #[pv k] W fun e w' => e = .returned (.bool (k.c.2 == ((pBlocks k.s).length : Int))) ∧ Below W.heap.size W w' := by
  obtain ⟨h0, h1, h2, h3, h4⟩ := h
  have cb := code_pblocks k W.drew (hk.below (w' := W.drew) (Below.refl _ W).drew) h0 h1 h2 h3 h4
  have d5 := hk.c5
  have HK : Hid (∀ W', Below W.heap.size W W' → W'.cell? ⟨k.b, 5, none⟩ = some (.int .i64 k.c.2)) := hidb (fun W' hb => (hk.below hb).c5)
  unfold OwnInts at cb
  unfold pv at cb ⊢
  generalize (pBlocks k.s).length = N at cb ⊢
  generalize k.b = kb at d5 cb HK ⊢
  generalize k.c.2 = kl at d5 cb HK ⊢
  generalize (pBlocks k.s).map iv = xs at cb
  clear hk h0 h1 h2 h3 h4
  go_enter Tryz.func142, Tryz.ntmps142
  go_wp2
  go_region_held3 (fun W' => W'.cell? ⟨kb, 5, none⟩ = some (.int .i64 kl)) (go_keep)
    (first | (go_at_call 67; (with_reducible refine cb.mono ?_); rintro e w1 ⟨A, c, rfl, hown, hb1⟩; have hb2 : Below W.heap.size W w1 := ((Below.refl _ W).drew).trans hb1; have y5 := HK.out _ hb2; clear hb1))
  all_goals go_wp2
  all_goals go_ret
  all_goals exact ⟨rfl, hb2⟩

theorem r2_spans (k : CutV) (t : Nat) (o : Nat) (order : Int) (W : World) (hk : CutAt W k) (ht : W.cell? ⟨t, 0, none⟩ = some (.func (.func 58) #[] #[.pointer (some ⟨o, 0, none⟩)])) (ho : W.cell? ⟨o, 0, none⟩ = some (.int .i64 order)) :
    Calls Tryz.prog 115 #[pv k, .pointer (some ⟨t, 0, none⟩)] W fun e w' => e = .returned (.bool (!(k.s.2.2.2 == order))) ∧ Below W.heap.size W w' := by
  have cq := q_spans k o order W hk ho
  generalize (k.s.2.2.2 == order) = r at cq ⊢
  unfold pv at cq ⊢
  clear hk
  go_enter Tryz.func115, Tryz.ntmps115
  go_wp2_with (go_at_call 58; (with_reducible refine cq.mono ?_); rintro e w' ⟨rfl, hb⟩)
  go_ret
  exact ⟨rfl, hb⟩
theorem r2_list (k : CutV) (t : Nat) (o : Nat) (order : Int) (W : World) (hk : CutAt W k) (ht : W.cell? ⟨t, 0, none⟩ = some (.func (.func 60) #[] #[.pointer (some ⟨o, 0, none⟩)])) (ho : W.cell? ⟨o, 0, none⟩ = some (.int .i64 order)) :
    Calls Tryz.prog 115 #[pv k, .pointer (some ⟨t, 0, none⟩)] W fun e w' => e = .returned (.bool (!(k.s.2.2.2 == order))) ∧ Below W.heap.size W w' := by
  have cq := q_list k o order W hk ho
  generalize (k.s.2.2.2 == order) = r at cq ⊢
  unfold pv at cq ⊢
  clear hk
  go_enter Tryz.func115, Tryz.ntmps115
  go_wp2_with (go_at_call 60; (with_reducible refine cq.mono ?_); rintro e w' ⟨rfl, hb⟩)
  go_ret
  exact ⟨rfl, hb⟩
theorem r2_take (k : CutV) (t : Nat) (o : Nat) (order : Int) (W : World) (hk : CutAt W k) (ht : W.cell? ⟨t, 0, none⟩ = some (.func (.func 93) #[] #[.pointer (some ⟨o, 0, none⟩)])) (ho : W.cell? ⟨o, 0, none⟩ = some (.int .i64 order)) :
    Calls Tryz.prog 115 #[pv k, .pointer (some ⟨t, 0, none⟩)] W fun e w' => e = .returned (.bool (!(k.s.2.2.2 == order && decide (0 < k.c.2)))) ∧ Below W.heap.size W w' := by
  have cq := q_take k o order W hk ho
  generalize (k.s.2.2.2 == order && decide (0 < k.c.2)) = r at cq ⊢
  unfold pv at cq ⊢
  clear hk
  go_enter Tryz.func115, Tryz.ntmps115
  go_wp2_with (go_at_call 93; (with_reducible refine cq.mono ?_); rintro e w' ⟨rfl, hb⟩)
  go_ret
  exact ⟨rfl, hb⟩
theorem r2_all (k : CutV) (t : Nat)  (W : World) (hk : CutAt W k) (ht : W.cell? ⟨t, 0, none⟩ = some (.func (.func 65) #[] #[]))  :
    Calls Tryz.prog 115 #[pv k, .pointer (some ⟨t, 0, none⟩)] W fun e w' => e = .returned (.bool (!true)) ∧ Below W.heap.size W w' := by
  have cq := q_all (pv k) W
  unfold pv at cq ⊢
  clear hk
  go_enter Tryz.func115, Tryz.ntmps115
  go_wp2_with (go_at_call 65; (with_reducible refine cq.mono ?_); rintro e w' ⟨rfl, hb⟩)
  go_ret
  exact ⟨rfl, hb⟩
theorem r2_full (k : CutV) (t : Nat)  (W : World) (hk : CutAt W k) (ht : W.cell? ⟨t, 0, none⟩ = some (.func (.func 142) #[] #[])) (h : CutOk k) :
    Calls Tryz.prog 115 #[pv k, .pointer (some ⟨t, 0, none⟩)] W fun e w' => e = .returned (.bool (!(k.c.2 == ((pBlocks k.s).length : Int)))) ∧ Below W.heap.size W w' := by
  have cq := q_full k W hk h
  generalize (k.c.2 == ((pBlocks k.s).length : Int)) = r at cq ⊢
  unfold pv at cq ⊢
  clear hk
  go_enter Tryz.func115, Tryz.ntmps115
  go_wp2_with (go_at_call 142; (with_reducible refine cq.mono ?_); rintro e w' ⟨rfl, hb⟩)
  go_ret
  exact ⟨rfl, hb⟩

theorem Hp.lb {w : World} {S : Nat → Prop} {p : Nat} {h : HeapV} (k : Hp w S p h) : h.last ≤ 1000000000 := by obtain ⟨_, _, _, _, _, _, _, _, _, k, _⟩ := k; exact k.lb
theorem allP_len {h : HeapV} (k : HOk h) (hlb : h.last ≤ 1000000000) {ks : List CutV} (hm : ∀ c ∈ ks, c.s ∈ h.l) : ∀ ss, AllP ks ss → ss.length ≤ 1000000000 := fun ss hS => by
  have h1 := nodup_bound h.last.toNat (ss.map (·.s.1)) hS.1 fun x hx => by
    obtain ⟨s, hs, rfl⟩ := List.mem_map.1 hx
    have := k.idr s.s (hm s ((hS.2 s).1 hs))
    omega
  rw [List.length_map] at h1
  omega
/-- Which of the row are asked for. -/
def Rising (w : World) (ks : List CutV) (f : CutV → Bool) (e : Ending) (w' : World) : Prop := ∃ ds, InOrderP ks ds ∧ OwnCuts w (ds.filter f) e w'
set_option maxRecDepth 100000 in
theorem code_rising_of (a : Option Addr) (w : World) (ks : List CutV) (v : Value) (mb : Option Nat) (hp : ∀ w1, Below w.heap.size w w1 → Calls Tryz.prog 112 #[.pointer a] w1 fun e w' => e = .returned v ∧ Below w1.heap.size w1 w')
    (hv : ∀ w, (Instr.field 119 v 2).run Tryz.prog w = .ok (.map mb) w) (hlen : ∀ ss, AllP ks ss → ss.length ≤ 1000000000) (hk : ∀ k ∈ ks, CutAt w k)
    (hc : ∀ W B, Below w.heap.size w W → W.cell? ⟨B, 0, none⟩ = some (.map mb) → Calls Tryz.prog 151 #[.func (.func 153) #[] #[.pointer (some ⟨B, 0, none⟩)]] W fun e w' => ∃ A c ss, e = .returned (.slice A (List.length ss) c) ∧ AllP ks ss ∧ w'.ownsRow W.heap.size 109 1 (.slice A ss.length c) ss.length (cellsAll pcell ss) ∧ Below W.heap.size W w')
    (fn : Nat) (caps : Array Value) (f : CutV → Bool) (hq : ∀ W t, Below w.heap.size w W → W.cell? ⟨t, 0, none⟩ = some (.func (.func fn) #[] caps) → ∀ k ∈ ks, Calls Tryz.prog 115 #[pv k, .pointer (some ⟨t, 0, none⟩)] W fun e w' => e = .returned (.bool (!f k)) ∧ Below W.heap.size W w') :
    Calls Tryz.prog 57 #[.pointer a, .func (.func fn) #[] caps] w (Rising w ks f) := by
  obtain ⟨W0, hW0⟩ : ∃ W0, W0 = w.alloc (.cells #[.func (.func fn) #[] caps] 114) := ⟨_, rfl⟩
  have hb0 : Below w.heap.size w W0 := by rw [hW0]; exact (Below.refl _ _).alloc (Nat.le_refl _) _
  have hz0 : W0.heap.size = w.heap.size + 1 := by rw [hW0]; simp
  have ht : W0.cell? ⟨w.heap.size, 0, none⟩ = some (.func (.func fn) #[] caps) := by rw [hW0]; exact World.cell?_alloc_at _ _ _ 0 (by simp)
  have cp := hp W0 hb0
  have cv := fun W => code_pvalues mb W
  have HB0 := hidb hb0
  have cs : ∀ w1, Below W0.heap.size W0 w1 → Calls Tryz.prog 110 #[.func (.func 153) #[] #[.pointer (some ⟨w1.heap.size, 0, none⟩)], .func (.func 113) #[] #[]] (w1.alloc (.cells #[.map mb] 117)) fun e w' => ∃ ds A c, e = .returned (.slice A (List.length ds) c) ∧ InOrderP ks ds ∧ w'.ownsRow W0.heap.size 109 1 (.slice A ds.length c) ds.length (cellsAll pcell ds) ∧ Below W0.heap.size W0 w' := fun w1 hb1 => by
    have hb2 : Below W0.heap.size W0 (w1.alloc (.cells #[.map mb] 117)) := hb1.alloc hb1.size _
    have hb3 := HB0.out.trans (hb2.mono HB0.out.size)
    refine (code_psortedf ks hlen w1.heap.size _ (fun k h => (hk k h).below hb3) (hc _ _ hb3 (World.cell?_alloc_at _ _ _ 0 (by simp)))).mono ?_
    rintro e w' ⟨ds, hd, A, c, rfl, hrow, hb⟩
    exact ⟨ds, A, c, rfl, hd, own_lower hrow hb2.size, hb2.trans (hb.mono hb2.size)⟩
  have HD : Hid (∀ w2 (ds : List CutV) A c n, ds.length = n → InOrderP ks ds → w2.ownsRow W0.heap.size 109 1 (.slice A n c) n (cellsAll pcell ds) → Below W0.heap.size W0 w2 → Calls Tryz.prog 114 #[.slice A n c, .func (.func 115) #[] #[.pointer (some ⟨w.heap.size, 0, none⟩)]] w2 (Rising w ks f)) := hidb (fun w2 ds A c n hn hd hrow hb2 => by
    have hb3 := HB0.out.trans (hb2.mono HB0.out.size)
    have hl : ds.length ≤ 1000000000 := hlen ds ⟨hd.1, hd.2.1⟩
    have hob : ∀ b, (Value.slice A n c).ownBlock = some b → W0.heap.size ≤ b ∧ b < w2.heap.size := fun b hb => hrow.lt b hb
    rw [cellsAll_p] at hrow
    refine (code_pdel (fun k => !f k) w.heap.size A n c ds w2 W0.heap.size hrow hn (by omega) (fun W hg k hk2 => ?_)).mono ?_
    · have hbW : Below W0.heap.size W0 W := hb2.grown hg hb2.size (fun b hb => (hob b hb).1)
      exact hq W w.heap.size (HB0.out.trans (hbW.mono HB0.out.size)) ((hbW.cell (p := ⟨w.heap.size, 0, none⟩) (by show w.heap.size < _; omega)).trans ht) k ((hd.2.1 k).1 hk2)
    · rintro e w' ⟨A', c', rfl, hrow', hg⟩
      have hf : (ds.filter fun x => !(fun k => !f k) x) = ds.filter f := by simp
      rw [hf] at hrow' ⊢
      refine ⟨ds, hd, A', c', rfl, ?_, hb3.grown hg hb3.size (fun b hb => Nat.le_trans (by omega) (hob b hb).1)⟩
      rw [cellsAll_p]
      exact own_lower hrow' (by omega))
  have HW0 := hidb hW0
  clear hc hlen hk hq hp hb0 ht hW0
  go_enter Tryz.func57, Tryz.ntmps57
  go_wp2_with (first
    | (go_at_call 112; rw [← HW0.out]; (with_reducible refine cp.mono ?_); rintro e w1 ⟨rfl, hb1⟩)
    | (go_at_call 111; (with_reducible refine (cv _).mono ?_); rintro e w2 ⟨rfl, rfl⟩)
    | (go_at_call 110; (with_reducible refine (cs _ hb1).mono ?_); rintro e w3 ⟨ds, A, c, rfl, hd, hrow, hb3⟩; obtain ⟨n, hn⟩ : ∃ n, List.length ds = n := ⟨_, rfl⟩; rw [hn] at hrow; rw [hn]; have cd := HD.out _ _ _ _ _ hn hd hrow hb3; unfold Rising OwnCuts at cd)
    | (go_at_call 114; (with_reducible refine cd.mono ?_); rintro e w4 ⟨ds4, hd4, A4, c4, rfl, hrow4, hb4⟩))
  go_ret
  exact ⟨ds4, hd4, A4, c4, rfl, hrow4, hb4⟩
/-- rising, of a pool. -/
theorem code_rising {w : World} {Sh : Nat → Prop} {p hp ap g mb n m : Nat} {D : DataW Unit} {v : PoolW} (k : PlAt w Sh p hp ap g mb n m D v) (o : PlOk n m v) (fn : Nat) (caps : Array Value) (f : CutV → Bool)
    (hq : ∀ W t, Below w.heap.size w W → W.cell? ⟨t, 0, none⟩ = some (.func (.func fn) #[] caps) → ∀ k ∈ v.ks, Calls Tryz.prog 115 #[pv k, .pointer (some ⟨t, 0, none⟩)] W fun e w' => e = .returned (.bool (!f k)) ∧ Below W.heap.size W w') :
    Calls Tryz.prog 57 #[.pointer (some ⟨p, 0, none⟩), .func (.func fn) #[] caps] w (Rising w v.ks f) := by
  refine code_rising_of _ w v.ks (.agg #[.pointer (some ⟨hp, 0, none⟩), .pointer (some ⟨ap, 0, none⟩), .map (some mb), .bool v.held]) (some mb) (fun w1 hb => ?_) (fun w => pfield_mb _ _ _ _ w) (allP_len k.hp_.ok k.hp_.lb o.mem) k.cuts (fun W B hb hB => ?_) fn caps f hq
  · obtain ⟨d0, d1, d2, d3, d4⟩ := k.cell_ (hb.block _ k.ltp)
    exact code_pparts p _ _ _ _ w1 d0 d1 d2 d3
  · exact code_pcollect B mb m D v.ks k.mis o.ids (by have := o.cnt; have := k.hp_.lb; omega) W hB (ownsMap_block k.mp (hb.block _ k.mp.lt))
theorem code_rising_nil (w : World) (fn : Nat) (caps : Array Value) : Calls Tryz.prog 57 #[.pointer none, .func (.func fn) #[] caps] w (OwnCuts w []) := by
  refine (code_rising_of none w [] (.agg #[.pointer none, .pointer none, .map none, .bool false]) none (fun w1 _ => code_pparts_nil w1) (fun w => pfield_mb _ _ _ _ w) (fun ss hS => ?_) (fun k h => by cases h) (fun W B hb hB => code_pcollect_nil B W hB) fn caps (fun _ => true) (fun W t _ _ k h => by cases h)).mono ?_
  · cases ss with
    | nil => exact Nat.zero_le _
    | cons s ss => exact absurd ((hS.2 s).1 (List.mem_cons_self ..)) (by simp)
  · rintro e w' ⟨ds, hd, hO⟩
    cases ds with
    | nil => exact hO
    | cons s ds => exact absurd ((hd.2.1 s).1 (List.mem_cons_self ..)) (by simp)

end Go.Proofs.YtcgfmpegakpddaaGreat
