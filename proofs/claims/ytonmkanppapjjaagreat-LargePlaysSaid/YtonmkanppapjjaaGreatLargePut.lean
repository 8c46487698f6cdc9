/- Layer 10's keeper: New, free, put, Hold, Flush. -/
import Derived.Test.YtonmkanppapjjaaGreatLargeKp
import Derived.Test.YtonmkanppapjjaaGreatAppendAt
namespace Go.Proofs.YtonmkanppapjjaaGreat
open Go.RowKit Go.Maps
set_option linter.unusedVariables false

theorem Hp.sub {w : World} {S S2 : Nat → Prop} {p : Nat} {h : HeapV} (k : Hp w S p h) (h1 : ∀ b, S b → S2 b) (h2 : ∀ b, S2 b → b < w.heap.size) : Hp w S2 p h := by
  obtain ⟨ip, ig, fp, mb, n, m, ids, D, Sf, k1, k2, k3, k4, k5, k6, k7⟩ := k
  exact ⟨ip, ig, fp, mb, n, m, ids, D, Sf, k1, k2, ⟨h1 _ k3.1, h1 _ k3.2.1, h1 _ k3.2.2.1, h1 _ k3.2.2.2⟩, fun b hb => h1 b (k4 b hb), h2, k6, k7⟩
theorem Hp.late {w w1 w2 : World} {S : Nat → Prop} {p : Nat} {h : HeapV} (hb : w.heap.size ≤ w1.heap.size) (k : Hp w2 (more S w1 w2) p h) : Hp w2 (more S w w2) p h :=
  k.sub (fun b hb' => ⟨hb'.1.imp id (fun q => Nat.le_trans hb q), hb'.2⟩) fun b hb' => hb'.2
theorem Kept.late {w w1 w2 : World} {S : Nat → Prop} (hb : Below w.heap.size w w1) (k : Kept S w1 w2) : Kept S w w2 := (Kept.of_below hb S).trans k fun _ _ h => h

/-- New. -/
theorem code_knew_nil (w : World) : Calls Tryz.prog 33 #[.pointer none] w fun e w' => e = .returned (.pointer none) ∧ w' = w := by
  go_enter Tryz.func33, Tryz.ntmps33
  go_wp2
  go_ret
  exact ⟨rfl, rfl⟩
theorem code_knew {w : World} {Sh : Nat → Prop} {hp : Nat} {h : HeapV} (k : Hp w Sh hp h) :
    Calls Tryz.prog 33 #[.pointer (some ⟨hp, 0, none⟩)] w fun e w' => ∃ p, e = .returned (.pointer (some ⟨p, 0, none⟩)) ∧ KpAt w' Sh p hp none 0 none 0 ⟨h, [], [], false⟩ ∧ Below w.heap.size w w' ∧ w.heap.size ≤ p := by
  have HE : Hid (KpAt (w.alloc (.cells #[.pointer (some ⟨hp, 0, none⟩), .slice none 0 0, .slice none 0 0, .bool false] 135)) Sh w.heap.size hp none 0 none 0 ⟨h, [], [], false⟩ ∧ Below w.heap.size w (w.alloc (.cells #[.pointer (some ⟨hp, 0, none⟩), .slice none 0 0, .slice none 0 0, .bool false] 135))) := hidb (by
    have hb : Below w.heap.size w (w.alloc (.cells #[.pointer (some ⟨hp, 0, none⟩), .slice none 0 0, .slice none 0 0, .bool false] 135)) := (Below.refl _ _).alloc (Nat.le_refl _) _
    refine ⟨⟨World.cell?_alloc_at _ _ _ 0 (by simp), World.cell?_alloc_at _ _ _ 1 (by simp), World.cell?_alloc_at _ _ _ 2 (by simp), World.cell?_alloc_at _ _ _ 3 (by simp), fun j => frozen_new _ _ _ j, World.ownsRow_nil _ _ _ _, World.ownsRow_nil _ _ _ _, k.below hb, Nat.zero_le _, Nat.zero_le _, fun c => ?_, fun b c => (by cases c), fun b c => (by cases c), fun b c => (by cases c)⟩, hb⟩
    have := k.lt _ c
    omega)
  clear k
  go_enter Tryz.func33, Tryz.ntmps33
  go_wp2
  go_ret
  exact ⟨w.heap.size, rfl, HE.out.1, HE.out.2, Nat.le_refl _⟩

/-- What free does. -/
def FreedK (w : World) (Sh : Nat → Prop) (hp : Nat) (h : HeapV) (e : Ending) (w' : World) : Prop := e = .returned (.tuple #[]) ∧ Hp w' (more Sh w w') hp h ∧ Kept Sh w w'
section
variable {w : World} {Sh : Nat → Prop} {p hp : Nat} {K V : Option Addr} {kc vc : Nat} {v : LargeV}
theorem code_kfree (k : KpAt w Sh p hp K kc V vc v) (A : Option Addr) (m c : Nat) (ds : List Spn) (hs : Sn w w.heap.size A m ds) (hm : m ≤ 1024) (hid : ∀ s ∈ ds, in64 s.1) :
    Calls Tryz.prog 83 #[.pointer (some ⟨p, 0, none⟩), .slice A m c] w (FreedK w Sh hp (hDrop v.h (ds.map (·.1))).1) := by
  have HX : Hid (∀ W, Below w.heap.size w W → W.cell? ⟨p, 0, none⟩ = some (.pointer (some ⟨hp, 0, none⟩))) := hidb (fun W hb => (k.below hb).c0)
  have CN : Hid (∀ W, Below w.heap.size w W → Calls Tryz.prog 92 #[.slice A m c] W fun e w' => ∃ A' n' c', e = .returned (.slice A' n' c') ∧ Hid (Below w.heap.size w w' ∧ n' ≤ 1024 ∧ Sl w' w'.heap.size A' n' ((ds.map (·.1)).map iv))) := hidb (fun W hb => by
    have hl : ds.length = m := hs.1
    refine (code_lnumbers A m c ds W (RowOf.more (RowOf.below hs hb) hb.size) (by omega)).mono ?_
    rintro e w' ⟨A', c', rfl, h1, h2⟩
    exact ⟨A', _, c', rfl, hidb ⟨bel_tr2 hb h2, by rw [List.length_map]; omega, Sl.of_own h1⟩⟩)
  have CF : Hid (∀ W A' n' c', Hid (Below w.heap.size w W ∧ n' ≤ 1024 ∧ Sl W W.heap.size A' n' ((ds.map (·.1)).map iv)) → Calls Tryz.prog 132 #[.pointer (some ⟨hp, 0, none⟩), .slice A' n' c'] W fun e w' => (∃ no : Int, e = .returned (.int .i64 no)) ∧ Hid (FreedK w Sh hp (hDrop v.h (ds.map (·.1))).1 (.returned (.tuple #[])) w') ∧ w'.cell? ⟨p, 0, none⟩ = some (.pointer (some ⟨hp, 0, none⟩))) := hidb (fun W A' n' c' hx => by
    obtain ⟨hb, hn, hsl⟩ := hx.out
    refine (code_hfree (k.hp_.below hb) A' n' c' (ds.map (·.1)) hsl (by omega) (fun i hi => by
      obtain ⟨s, hs, rfl⟩ := List.mem_map.1 hi
      exact hid s hs)).mono ?_
    rintro e w' ⟨rfl, h1, h2⟩
    exact ⟨⟨_, rfl⟩, hidb ⟨rfl, h1.late hb.size, h2.late hb⟩, ((h2.late hb).cell (a := ⟨p, 0, none⟩) k.ltp k.n1).trans k.c0⟩)
  have c0 := k.c0
  clear k hs hm hid
  go_enter Tryz.func83, Tryz.ntmps83
  go_wp2
  go_region_held3 (fun W => W.cell? ⟨p, 0, none⟩ = some (.pointer (some ⟨hp, 0, none⟩)))
    (first | with_reducible assumption | with_reducible exact HX.out _ (by repeat (first | with_reducible exact Below.refl _ _ | with_reducible exact Hid.out (by assumption) | with_reducible apply bel_al2 | with_reducible apply bel_dr2)))
    (first
      | (go_at_call 92; ((with_reducible refine (CN.out _ (by repeat (first | with_reducible exact Below.refl _ _ | with_reducible apply bel_al2 | with_reducible apply bel_dr2))).mono ?_); rintro e w1 ⟨A', n', c', rfl, hx1⟩; have HB1 := hidb hx1.out.1))
      | (go_at_call 132; ((with_reducible refine (CF.out _ _ _ _ hx1).mono ?_); rintro e w2 ⟨⟨no, rfl⟩, hx2, hc2⟩)))
  exact bodyPost_ret (v := .tuple #[]) (by simp [results, Tryz.results83, go_sem]) rfl hx2.out

/-- A call that answers nothing. -/
def DoneK (w : World) (S : Nat → Prop) (p hp : Nat) (v' : LargeV) (e : Ending) (w' : World) : Prop := e = .returned (.tuple #[]) ∧ KWent w S p hp w' v'
theorem KpAt.pushK {X w5 : World} {A5 : Option Addr} {c5 : Nat} {s : Spn} (k : KpAt w Sh p hp K kc V vc v) (hb : Below w.heap.size w X) (h4 : v.kept.length + 1 ≤ 1024) (ho : w5.ownsRow 0 50 4 (.slice A5 (v.kept.length + 1) c5) (v.kept.length + 1) (cellsAll scells v.kept ++ scells s)) (hg : X.grownBy w5 (Value.slice K v.kept.length kc).ownBlock)
    (hat : (Value.slice A5 (v.kept.length + 1) c5).ownBlock = (Value.slice K v.kept.length kc).ownBlock ∨ (Value.slice A5 (v.kept.length + 1) c5).ownBlock = some X.heap.size) : KWent w (KpS Sh p K V) p hp (w5.setCell ⟨p, 1, none⟩ (.slice A5 (v.kept.length + 1) c5)) { v with kept := v.kept ++ [s] } := by
  rw [ab_eq] at hg
  rw [ab_eq, ab_eq] at hat
  obtain ⟨q1, q2, q3⟩ := (k.below hb).kept_ (l' := v.kept ++ [s]) hg (by rw [cellsAll_append, cellsAll_one]; exact ho) (hat.imp id (fun e b e2 => by rw [e] at e2; injection e2 with e2; omega)) (by simp) h4
  exact q1.went ((Kept.of_below hb _).trans q2 fun _ _ h => h) fun b h => (q3 b h).imp id (fun h => Nat.le_trans hb.size h)
theorem KpAt.pushV {X w5 : World} {A5 : Option Addr} {c5 : Nat} {s : Spn} (k : KpAt w Sh p hp K kc V vc v) (hb : Below w.heap.size w X) (h4 : v.waits.length + 1 ≤ 1024) (ho : w5.ownsRow 0 50 4 (.slice A5 (v.waits.length + 1) c5) (v.waits.length + 1) (cellsAll scells v.waits ++ scells s)) (hg : X.grownBy w5 (Value.slice V v.waits.length vc).ownBlock)
    (hat : (Value.slice A5 (v.waits.length + 1) c5).ownBlock = (Value.slice V v.waits.length vc).ownBlock ∨ (Value.slice A5 (v.waits.length + 1) c5).ownBlock = some X.heap.size) : KWent w (KpS Sh p K V) p hp (w5.setCell ⟨p, 2, none⟩ (.slice A5 (v.waits.length + 1) c5)) { v with waits := v.waits ++ [s] } := by
  rw [ab_eq] at hg
  rw [ab_eq, ab_eq] at hat
  obtain ⟨q1, q2, q3⟩ := (k.below hb).waits_ (l' := v.waits ++ [s]) hg (by rw [cellsAll_append, cellsAll_one]; exact ho) (hat.imp id (fun e b e2 => by rw [e] at e2; injection e2 with e2; omega)) (by simp) h4
  exact q1.went ((Kept.of_below hb _).trans q2 fun _ _ h => h) fun b h => (q3 b h).imp id (fun h => Nat.le_trans hb.size h)

theorem Sn.one_ (X : World) (s : Spn) (e : TypeId) : Sn (X.alloc (.cells #[.int .i64 s.1, .int .i64 s.2.1, .int .i64 s.2.2.1, .int .i64 s.2.2.2] e)) (X.alloc (.cells #[.int .i64 s.1, .int .i64 s.2.1, .int .i64 s.2.2.1, .int .i64 s.2.2.2] e)).heap.size (some ⟨X.heap.size, 0, none⟩) 1 [s] := by
  refine ⟨rfl, fun _ => ⟨X.heap.size, 0, rfl, by simp, fun j y hj => ?_⟩⟩
  match j, hj with
  | 0, hj =>
    obtain rfl : s = y := by simpa using hj
    refine ⟨scells s, rfl, fun k hk => ?_, rfl⟩
    obtain ⟨h0, h1, h2, h3⟩ := SpAt.new_ X s e
    match k, hk with
    | 0, _ => exact h0
    | 1, _ => exact h1
    | 2, _ => exact h2
    | 3, _ => exact h3
  | j + 1, hj => simp at hj
set_option maxRecDepth 100000 in
set_option maxHeartbeats 1000000 in
theorem code_kput (k : KpAt w Sh p hp K kc V vc v) (o : LOk v) (s : Spn) (hs : Out v s) :
    Calls Tryz.prog 87 #[.pointer (some ⟨p, 0, none⟩), spv s] w (DoneK w (KpS Sh p K V) p hp (lPut v s)) := by
  obtain ⟨i0, hi, hz0, hz1, hz2⟩ := info_parts info_span
  have o2 := (o.put hs).1
  have hlens := o2.lens
  have hlb := k.hp_.lb
  obtain ⟨hid, hlen64⟩ := o.ids64 hlb hs.1
  cases hh : v.held with
  | true =>
    have e : lPut v s = { v with waits := v.waits ++ [s] } := by unfold lPut; rw [hh]; rfl
    rw [e] at hlens ⊢
    have hwl : v.waits.length + 1 ≤ 1024 := by simp at hlens; omega
    obtain ⟨s1, s2, s3, s4⟩ := s
    have c2 := k.c2
    have c3 := k.c3
    have HX : Hid (∀ X w5 A5 c5, X = ((w.alloc (.cells #[.int .i64 s1, .int .i64 s2, .int .i64 s3, .int .i64 s4] 50)).alloc (.cells #[.int .i64 s1, .int .i64 s2, .int .i64 s3, .int .i64 s4] 50)).drew → w5.ownsRow 0 50 4 (.slice A5 (v.waits.length + 1) c5) (v.waits.length + 1) (cellsAll scells v.waits ++ scells (s1, s2, s3, s4)) → X.grownBy w5 (Value.slice V v.waits.length vc).ownBlock → ((Value.slice A5 (v.waits.length + 1) c5).ownBlock = (Value.slice V v.waits.length vc).ownBlock ∨ (Value.slice A5 (v.waits.length + 1) c5).ownBlock = some X.heap.size) → (∃ u, w5.cell? ⟨p, 2, none⟩ = some u) ∧ w5.frozen? ⟨p, 2, none⟩ = false ∧ Hid (DoneK w (KpS Sh p K V) p hp { v with waits := v.waits ++ [(s1, s2, s3, s4)] } (.returned (.tuple #[])) (w5.setCell ⟨p, 2, none⟩ (.slice A5 (v.waits.length + 1) c5)))) := hidb (fun X w5 A5 c5 hX h1 h2 h3 => by
      have hbX : Below w.heap.size w X := by rw [hX]; exact bel_dr2 (bel_al2 (bel_al2 (Below.refl _ _) _) _)
      have kX := k.below hbX
      obtain ⟨hc, hf⟩ := kX.cellsG h2 (fun e => (k.n3 p ((ab_eq V _ _).symm.trans e.symm)).1 rfl)
      exact ⟨⟨_, (hc 2).trans kX.c2⟩, hf 2, hidb ⟨rfl, k.pushV hbX hwl h1 h2 h3⟩⟩)
    have HOWN := hidb ((k.k2.alloc (.cells #[.int .i64 s1, .int .i64 s2, .int .i64 s3, .int .i64 s4] 50)).alloc (.cells #[.int .i64 s1, .int .i64 s2, .int .i64 s3, .int .i64 s4] 50)).drew
    have HCE : Hid (CellsAt (((w.alloc (.cells #[.int .i64 s1, .int .i64 s2, .int .i64 s3, .int .i64 s4] 50)).alloc (.cells #[.int .i64 s1, .int .i64 s2, .int .i64 s3, .int .i64 s4] 50)).drew) (some ⟨w.heap.size + 1, 0, none⟩) (scells (s1, s2, s3, s4))) := hidb (CellsAt.drew (cells_new' (w.alloc (.cells #[.int .i64 s1, .int .i64 s2, .int .i64 s3, .int .i64 s4] 50)) (scells (s1, s2, s3, s4)) _ _ (by simp)))
    have HON := hidb (scells_one1 (s1, s2, s3, s4))
    rw [hh] at c3
    have hpl : p < w.heap.size := k.ltp
    obtain ⟨wl, hwle⟩ : ∃ wl, v.waits.length = wl := ⟨_, rfl⟩
    rw [hwle] at HX HOWN c2 hwl
    obtain ⟨xs, hxs⟩ : ∃ xs, cellsAll scells v.waits = xs := ⟨_, rfl⟩
    rw [hxs] at HX HOWN
    unfold spv
    simp only
    clear k o o2 hs hlens hlb hid hlen64 e hwle hxs hh
    go_enter Tryz.func87, Tryz.ntmps87
    go_wp2
    go_region_law (refine step_append_rowA rfl (.tmp 17) (.tmp 19) 30 rfl 0 50 i0 (.agg #[.int .i64 0, .int .i64 0, .int .i64 0, .int .i64 0]) 4 32 Tryz.underlying30 hi hz0 hz1 hz2 rfl (by decide) _ wl xs rfl (by exact HOWN.out) (Nat.zero_le _) (some ⟨w.heap.size + 1, 0, none⟩) 1 1 (scells (s1, s2, s3, s4)) rfl rfl (fun h => by cases h) HCE.out HON.out (by unfold maxLen; omega) (by omega) ?_; intro A5 c5 w5 ho5 hg5 hat5; obtain ⟨⟨u5, hu5⟩, hf5, HP⟩ := HX.out _ w5 A5 c5 rfl ho5 hg5 hat5; clear ho5 hg5 hat5)
    all_goals go_wp2
    all_goals exact bodyPost_ret (v := .tuple #[]) (by simp [results, Tryz.results87, go_sem]) rfl HP.out
  | false =>
    have hsl : ∀ (X : World), Sn (X.alloc (.cells #[.int .i64 s.1, .int .i64 s.2.1, .int .i64 s.2.2.1, .int .i64 s.2.2.2] 50)) (X.alloc (.cells #[.int .i64 s.1, .int .i64 s.2.1, .int .i64 s.2.2.1, .int .i64 s.2.2.2] 50)).heap.size (some ⟨X.heap.size, 0, none⟩) 1 [s] := fun X => Sn.one_ X s _
    obtain ⟨r, hr⟩ : ∃ r, (lOf v.kept s.2.2.1).length = r := ⟨_, rfl⟩
    have he1 : r < 2 → lPut v s = { v with kept := v.kept ++ [s] } := fun h => by unfold lPut; rw [hh, hr, if_neg (by simp), if_pos h]
    have he2 : ¬ r < 2 → lPut v s = { v with h := (hDrop v.h [s.1]).1 } := fun h => by unfold lPut; rw [hh, hr, if_neg (by simp), if_neg h]
    obtain ⟨s1, s2, s3, s4⟩ := s
    simp only at hr hid hsl he1 he2
    have CK : Hid (Calls Tryz.prog 40 #[.pointer (some ⟨p, 0, none⟩), .int .i64 s3] (w.alloc (.cells #[.int .i64 s1, .int .i64 s2, .int .i64 s3, .int .i64 s4] 50)) fun e w' => ∃ A c, e = .returned (.slice A r c) ∧ Hid (Below w.heap.size w w' ∧ SpAt w' w.heap.size (s1, s2, s3, s4))) := hidb (by
      have hb1 : Below w.heap.size w (w.alloc (.cells #[.int .i64 s1, .int .i64 s2, .int .i64 s3, .int .i64 s4] 50)) := (Below.refl _ _).alloc (Nat.le_refl _) _
      refine (code_kkept (k.below hb1).parts s3).mono ?_
      rintro e w' ⟨A, c, rfl, _, hb⟩
      rw [List.length_map, hr]
      exact ⟨A, c, rfl, hidb ⟨bel_tr2 hb1 hb, (SpAt.new_ w (s1, s2, s3, s4) _).below hb (by simp)⟩⟩)
    have c3 := k.c3
    rw [hh] at c3
    have hpl : p < w.heap.size := k.ltp
    have HQ : Hid (∀ W, Below w.heap.size w W → W.cell? ⟨p, 1, none⟩ = some (.slice K v.kept.length kc) ∧ p < W.heap.size ∧ w.heap.size ≤ W.heap.size) := hidb (fun W hb => ⟨(k.below hb).c1, (k.below hb).ltp, hb.size⟩)
    by_cases hrl : r < 2
    · rw [he1 hrl] at hlens ⊢
      have hkl : v.kept.length + 1 ≤ 1024 := by simp at hlens; omega
      have HX : Hid (∀ w3 X w5 A5 c5, Below w.heap.size w w3 → X = (w3.alloc (.cells #[.int .i64 s1, .int .i64 s2, .int .i64 s3, .int .i64 s4] 50)).drew → w5.ownsRow 0 50 4 (.slice A5 (v.kept.length + 1) c5) (v.kept.length + 1) (cellsAll scells v.kept ++ scells (s1, s2, s3, s4)) → X.grownBy w5 (Value.slice K v.kept.length kc).ownBlock → ((Value.slice A5 (v.kept.length + 1) c5).ownBlock = (Value.slice K v.kept.length kc).ownBlock ∨ (Value.slice A5 (v.kept.length + 1) c5).ownBlock = some X.heap.size) → (∃ u, w5.cell? ⟨p, 1, none⟩ = some u) ∧ w5.frozen? ⟨p, 1, none⟩ = false ∧ Hid (DoneK w (KpS Sh p K V) p hp { v with kept := v.kept ++ [(s1, s2, s3, s4)] } (.returned (.tuple #[])) (w5.setCell ⟨p, 1, none⟩ (.slice A5 (v.kept.length + 1) c5)))) := hidb (fun w3 X w5 A5 c5 hb3 hX h1 h2 h3 => by
        have hbX : Below w.heap.size w X := by rw [hX]; exact bel_dr2 (bel_al2 hb3 _)
        have kX := k.below hbX
        obtain ⟨hc, hf⟩ := kX.cellsG h2 (fun e => (k.n2 p ((ab_eq K _ _).symm.trans e.symm)).1 rfl)
        exact ⟨⟨_, (hc 1).trans kX.c1⟩, hf 1, hidb ⟨rfl, k.pushK hbX hkl h1 h2 h3⟩⟩)
      have HOWN : Hid (∀ w3, Below w.heap.size w w3 → (w3.alloc (.cells #[.int .i64 s1, .int .i64 s2, .int .i64 s3, .int .i64 s4] 50)).drew.ownsRow 0 50 4 (.slice K v.kept.length kc) v.kept.length (cellsAll scells v.kept)) := hidb (fun w3 hb3 => ((k.below hb3).k1.alloc (.cells #[.int .i64 s1, .int .i64 s2, .int .i64 s3, .int .i64 s4] 50)).drew)
      have HCE : Hid (∀ (w3 : World), CellsAt ((w3.alloc (.cells #[.int .i64 s1, .int .i64 s2, .int .i64 s3, .int .i64 s4] 50)).drew) (some ⟨w3.heap.size, 0, none⟩) (scells (s1, s2, s3, s4))) := hidb (fun w3 => CellsAt.drew (cells_new w3 (scells (s1, s2, s3, s4)) _))
      have HON := hidb (scells_one1 (s1, s2, s3, s4))
      obtain ⟨kl, hkle⟩ : ∃ kl, v.kept.length = kl := ⟨_, rfl⟩
      rw [hkle] at HX HOWN HQ hkl
      obtain ⟨xs, hxs⟩ : ∃ xs, cellsAll scells v.kept = xs := ⟨_, rfl⟩
      rw [hxs] at HX HOWN
      have hr2 : (r : Int) < 2 := by omega
      unfold spv
      simp only
      clear k o o2 hs hlens hlb hid hlen64 hkle hxs hh hr he1 he2 hsl
      go_enter Tryz.func87, Tryz.ntmps87
      go_wp2_with (go_at_call 40; (with_reducible refine CK.out.mono ?_); rintro e w3 ⟨A3, c3', rfl, hx3⟩; obtain ⟨q1, q2, q3⟩ := HQ.out w3 hx3.out.1; obtain ⟨t0, t1, t2, t3⟩ := hx3.out.2.cells)
      have HO3 := hidb (HOWN.out w3 hx3.out.1)
      have HC3 := hidb (HCE.out w3)
      have HX3 := hidb (fun X w5 A5 c5 => HX.out w3 X w5 A5 c5 hx3.out.1)
      go_region_law (refine step_append_rowA rfl (.tmp 35) (.tmp 37) 30 rfl 0 50 i0 (.agg #[.int .i64 0, .int .i64 0, .int .i64 0, .int .i64 0]) 4 32 Tryz.underlying30 hi hz0 hz1 hz2 rfl (by decide) _ kl xs rfl (by exact HO3.out) (Nat.zero_le _) (some ⟨w3.heap.size, 0, none⟩) 1 1 (scells (s1, s2, s3, s4)) rfl rfl (fun h => by cases h) HC3.out HON.out (by unfold maxLen; omega) (by omega) ?_; intro A5 c5 w5 ho5 hg5 hat5; obtain ⟨⟨u5, hu5⟩, hf5, HP⟩ := HX3.out _ w5 A5 c5 rfl ho5 hg5 hat5; clear ho5 hg5 hat5)
      all_goals go_wp2
      all_goals exact bodyPost_ret (v := .tuple #[]) (by simp [results, Tryz.results87, go_sem]) rfl HP.out
    · rw [he2 hrl]
      have CF : Hid (∀ w3, Below w.heap.size w w3 → Calls Tryz.prog 83 #[.pointer (some ⟨p, 0, none⟩), .slice (some ⟨w3.heap.size, 0, none⟩) 1 1] (w3.alloc (.cells #[.int .i64 s1, .int .i64 s2, .int .i64 s3, .int .i64 s4] 50)) fun e w' => e = .returned (.tuple #[]) ∧ Hid (DoneK w (KpS Sh p K V) p hp { v with h := (hDrop v.h [s1]).1 } (.returned (.tuple #[])) w')) := hidb (fun w3 hb3 => by
        have hbX := bel_al2 hb3 (.cells #[.int .i64 s1, .int .i64 s2, .int .i64 s3, .int .i64 s4] 50)
        have kX := k.below hbX
        refine (code_kfree kX _ 1 1 [(s1, s2, s3, s4)] (hsl w3) (by omega) (fun x hx => by obtain rfl := List.mem_singleton.1 hx; exact hid)).mono ?_
        rintro e w' ⟨rfl, h1, h2⟩
        obtain ⟨q1, q2⟩ := kX.heap_ h1 h2
        exact ⟨rfl, hidb ⟨rfl, q1.went ((Kept.of_below hbX _).trans h2 fun b _ h => Or.inl h) fun b h => (q2 b h).imp id (fun h => Nat.le_trans hbX.size h)⟩⟩)
      have hr2 : ¬ (r : Int) < 2 := by omega
      unfold spv
      simp only
      clear k o o2 hs hlens hlb hid hlen64 hh hr he1 he2 hsl
      go_enter Tryz.func87, Tryz.ntmps87
      go_wp2_with (first
        | (go_at_call 40; (with_reducible refine CK.out.mono ?_); rintro e w3 ⟨A3, c3', rfl, hx3⟩; obtain ⟨q1, q2, q3⟩ := HQ.out w3 hx3.out.1; obtain ⟨t0, t1, t2, t3⟩ := hx3.out.2.cells)
        | (go_at_call 83; (with_reducible refine (CF.out _ hx3.out.1).mono ?_); rintro e w4 ⟨rfl, HP⟩))
      exact bodyPost_ret (v := .tuple #[]) (by simp [results, Tryz.results87, go_sem]) rfl HP.out
/-- Hold. -/
theorem code_khold_nil (on : Bool) (w : World) : Calls Tryz.prog 35 #[.pointer none, .bool on] w fun e w' => e = .returned (.bool false) ∧ w' = w := by
  go_enter Tryz.func35, Tryz.ntmps35
  go_wp2
  go_ret
  exact ⟨rfl, rfl⟩
/-- A call that answers this. -/
def SaidK (w : World) (S : Nat → Prop) (p hp : Nat) (v' : LargeV) (x : Value) (e : Ending) (w' : World) : Prop := e = .returned x ∧ KWent w S p hp w' v'
set_option maxHeartbeats 1000000 in
theorem code_khold (k : KpAt w Sh p hp K kc V vc v) (o : LOk v) (on : Bool) :
    Calls Tryz.prog 35 #[.pointer (some ⟨p, 0, none⟩), .bool on] w (SaidK w (KpS Sh p K V) p hp (lHold v on) (.bool v.held)) := by
  have c3 := k.c3
  have f3 := k.fz 3
  have hpl := k.ltp
  cases on with
  | true =>
    have HE : Hid (SaidK w (KpS Sh p K V) p hp (lHold v true) (.bool v.held) (.returned (.bool v.held)) (w.setCell ⟨p, 3, none⟩ (.bool true))) := hidb (by
      obtain ⟨q1, q2⟩ := k.held_ true
      exact ⟨rfl, q1.went q2 fun b h => Or.inl h⟩)
    obtain ⟨held, hh⟩ : ∃ held, v.held = held := ⟨_, rfl⟩
    rw [hh] at c3 HE ⊢
    clear k o hh
    go_enter Tryz.func35, Tryz.ntmps35
    go_wp2
    go_ret
    exact HE.out
  | false =>
    obtain ⟨k1, hK1⟩ := k.held_ false
    have hs1 : Sn (w.setCell ⟨p, 3, none⟩ (.bool false)) (w.setCell ⟨p, 3, none⟩ (.bool false)).heap.size V v.waits.length v.waits := k1.parts.vn
    have hid : ∀ s ∈ v.waits, in64 s.1 := fun s hs => (o.ids64 k.hp_.lb (o.waitsm s hs).1).1
    have CF : Hid (Calls Tryz.prog 83 #[.pointer (some ⟨p, 0, none⟩), .slice V v.waits.length vc] (w.setCell ⟨p, 3, none⟩ (.bool false)) fun e w' => e = .returned (.tuple #[]) ∧ (∃ u, w'.cell? ⟨p, 2, none⟩ = some u) ∧ w'.frozen? ⟨p, 2, none⟩ = false ∧ Hid (SaidK w (KpS Sh p K V) p hp (lHold v false) (.bool v.held) (.returned (.bool v.held)) (w'.setCell ⟨p, 2, none⟩ (.slice none 0 0)))) := hidb (by
      refine (code_kfree k1 V v.waits.length vc v.waits hs1 k.lv hid).mono ?_
      rintro e w' ⟨rfl, h1, h2⟩
      obtain ⟨q1, q2⟩ := k1.heap_ h1 h2
      obtain ⟨r1, r2, r3⟩ := q1.waits_ (V' := none) (n' := 0) (vc' := 0) (l' := []) (grownSelf _ _) (World.ownsRow_nil _ _ _ _) (Or.inr fun b hb => by cases hb) rfl (Nat.zero_le _)
      have hsz : w.heap.size ≤ w'.heap.size := Nat.le_trans hK1.size h2.size
      refine ⟨rfl, ⟨_, q1.c2⟩, q1.fz 2, hidb ⟨rfl, ?_⟩⟩
      have hz1 : (w.setCell ⟨p, 3, none⟩ (.bool false)).heap.size = w.heap.size := by simp
      have hK2 : Kept (KpS Sh p K V) w w' := hK1.trans h2 fun b _ h => Or.inl h
      refine r1.went (hK2.trans r2 fun b hb h => ?_) fun b h => ?_
      · rcases q2 b h with h | h
        · exact h
        · omega
      · rcases r3 b h with h | h
        · rcases q2 b h with h | h
          · exact Or.inl h
          · exact Or.inr (by omega)
        · exact Or.inr (by omega))
    have c2 : (w.setCell ⟨p, 3, none⟩ (.bool false)).cell? ⟨p, 2, none⟩ = some (.slice V v.waits.length vc) := k1.c2
    have c2' := k.c2
    obtain ⟨held, hh⟩ : ∃ held, v.held = held := ⟨_, rfl⟩
    rw [hh] at c3 CF ⊢
    obtain ⟨wl, hwl⟩ : ∃ wl, v.waits.length = wl := ⟨_, rfl⟩
    rw [hwl] at c2 c2' CF
    clear k k1 hK1 o hh hwl hs1 hid
    go_enter Tryz.func35, Tryz.ntmps35
    go_wp2_with (go_at_call 83; (with_reducible refine CF.out.mono ?_); rintro e w3 ⟨rfl, ⟨u3, hu3⟩, hf3, HP⟩)
    go_ret
    exact HP.out

/-- Flush. -/
theorem code_kflush_nil (w : World) : Calls Tryz.prog 37 #[.pointer none] w fun e w' => e = .returned (.int .i64 0) ∧ w' = w := by
  go_enter Tryz.func37, Tryz.ntmps37
  go_wp2
  go_ret
  exact ⟨rfl, rfl⟩
set_option maxHeartbeats 1000000 in
theorem code_kflush (k : KpAt w Sh p hp K kc V vc v) (o : LOk v) :
    Calls Tryz.prog 37 #[.pointer (some ⟨p, 0, none⟩)] w (SaidK w (KpS Sh p K V) p hp (lFlush v) (.int .i64 (v.kept.length : Int))) := by
  have hid : ∀ s ∈ v.kept, in64 s.1 := fun s hs => (o.ids64 k.hp_.lb (o.keptm s hs).1).1
  have CF : Hid (Calls Tryz.prog 83 #[.pointer (some ⟨p, 0, none⟩), .slice K v.kept.length kc] w fun e w' => e = .returned (.tuple #[]) ∧ (∃ u, w'.cell? ⟨p, 1, none⟩ = some u) ∧ w'.frozen? ⟨p, 1, none⟩ = false ∧ Hid (SaidK w (KpS Sh p K V) p hp (lFlush v) (.int .i64 (v.kept.length : Int)) (.returned (.int .i64 (v.kept.length : Int))) (w'.setCell ⟨p, 1, none⟩ (.slice none 0 0)))) := hidb (by
    refine (code_kfree k K v.kept.length kc v.kept k.parts.kn k.lk hid).mono ?_
    rintro e w' ⟨rfl, h1, h2⟩
    obtain ⟨q1, q2⟩ := k.heap_ h1 h2
    obtain ⟨r1, r2, r3⟩ := q1.kept_ (K' := none) (n' := 0) (kc' := 0) (l' := []) (grownSelf _ _) (World.ownsRow_nil _ _ _ _) (Or.inr fun b hb => by cases hb) rfl (Nat.zero_le _)
    have hsz : w.heap.size ≤ w'.heap.size := h2.size
    refine ⟨rfl, ⟨_, q1.c1⟩, q1.fz 1, hidb ⟨rfl, ?_⟩⟩
    have hK2 : Kept (KpS Sh p K V) w w' := (Kept.refl _ w).trans h2 fun b _ h => Or.inl h
    refine r1.went (hK2.trans r2 fun b hb h => ?_) fun b h => ?_
    · rcases q2 b h with h | h
      · exact h
      · omega
    · rcases r3 b h with h | h
      · exact q2 b h
      · exact Or.inr (by omega))
  have c1 := k.c1
  have hpl := k.ltp
  obtain ⟨kl, hkl⟩ : ∃ kl, v.kept.length = kl := ⟨_, rfl⟩
  rw [hkl] at c1 CF ⊢
  clear k o hkl hid
  go_enter Tryz.func37, Tryz.ntmps37
  go_wp2_with (go_at_call 83; (with_reducible refine CF.out.mono ?_); rintro e w3 ⟨rfl, ⟨u3, hu3⟩, hf3, HP⟩)
  go_ret
  exact HP.out
end

end Go.Proofs.YtonmkanppapjjaaGreat
