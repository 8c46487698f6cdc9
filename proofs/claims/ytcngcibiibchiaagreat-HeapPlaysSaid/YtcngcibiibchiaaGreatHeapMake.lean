/- What Make of the document's own answers to layer 7 (heap) returns. -/
import Derived.Test.YtcngcibiibchiaaGreatHeapNew
import Derived.Test.YtcngcibiibchiaaGreatRows7
import Derived.Test.YtcngcibiibchiaaGreatPlain7
import Derived.Deep.Cut
import Derived.Deep.CutRange
import Derived.Deep.RegionHeld3
import Derived.RegionTactic
import Derived.ChangeAlike
namespace Go.Proofs.YtcngcibiibchiaaGreat
open Go.RowKit
set_option linter.unusedVariables false

def spanV (s : Int × Int × Int × Int) : Value := .agg #[.int .i64 s.1, .int .i64 s.2.1, .int .i64 s.2.2.1, .int .i64 s.2.2.2]
/-- A heap, a span and an error's number that a call answers. -/
def MadeIs (w : World) (P : Nat → Prop) (r : HeapV × (Int × Int × Int × Int) × Int) (e : Ending) (w' : World) : Prop := (∃ v, e = .returned (.tuple #[v, spanV r.2.1, .int .i64 r.2.2]) ∧ HIs w' P r.1 v) ∧ Below w.heap.size w w'

set_option maxHeartbeats 1000000 in
theorem ref_hmake_no (P : Nat → Prop) (h : HeapV) (v : Value) (k order : Int) (w : World) (hv : HIs w P h v) (h0 : in64 k) (h1 : in64 order) (hbad : k < 1 ∨ order < -1 ∨ 3 < order) :
    Calls Tryz.prog 10 #[v, .int .i64 k, .int .i64 order] w (MadeIs w P (h, spanNone, 1)) := by
  have HV := hidb hv
  obtain ⟨A, c, A2, c2, rfl, _⟩ := hv
  obtain ⟨n, hn⟩ : ∃ n, h.free.length = n := ⟨_, rfl⟩
  obtain ⟨n2, hn2⟩ : ∃ n2, h.l.length = n2 := ⟨_, rfl⟩
  rw [hn, hn2] at HV ⊢
  obtain ⟨pg, hpg⟩ : ∃ pg, h.pages = pg := ⟨_, rfl⟩
  obtain ⟨la, hla⟩ : ∃ la, h.last = la := ⟨_, rfl⟩
  rw [hpg, hla] at HV ⊢
  have HF : Hid (∀ w', Below w.heap.size w w' → MadeIs w P (h, spanNone, 1) (.returned (.tuple #[.agg #[.int .i64 pg, .slice A n c, .slice A2 n2 c2, .int .i64 la], .agg #[.int .i64 0, .int .i64 0, .int .i64 0, .int .i64 0], .int .i64 1])) w') := hidb (fun w' hb => ⟨⟨_, rfl, HV.out.below hb⟩, hb⟩)
  clear hn hn2 hpg hla
  by_cases b1 : k < 1
  · clear hbad
    go_enter Tryz.func10, Tryz.ntmps10
    go_wp2
    refine bodyPost_ret (v := .tuple #[.agg #[.int .i64 pg, .slice A n c, .slice A2 n2 c2, .int .i64 la], .agg #[.int .i64 0, .int .i64 0, .int .i64 0, .int .i64 0], .int .i64 1]) (by simp [results, Tryz.results10, go_sem]) rfl ?_
    refine HF.out _ ?_
    repeat (first | exact Below.refl _ _ | refine Below.setCell ?_ (by first | omega | (simp; done) | (simp; omega)) _ | refine Below.alloc ?_ (by first | omega | (simp; done) | (simp; omega)) _)
  by_cases b2 : order < -1
  · clear hbad
    go_enter Tryz.func10, Tryz.ntmps10
    go_wp2
    refine bodyPost_ret (v := .tuple #[.agg #[.int .i64 pg, .slice A n c, .slice A2 n2 c2, .int .i64 la], .agg #[.int .i64 0, .int .i64 0, .int .i64 0, .int .i64 0], .int .i64 1]) (by simp [results, Tryz.results10, go_sem]) rfl ?_
    refine HF.out _ ?_
    repeat (first | exact Below.refl _ _ | refine Below.setCell ?_ (by first | omega | (simp; done) | (simp; omega)) _ | refine Below.alloc ?_ (by first | omega | (simp; done) | (simp; omega)) _)
  · have b3 : 3 < order := by omega
    clear hbad
    go_enter Tryz.func10, Tryz.ntmps10
    go_wp2
    refine bodyPost_ret (v := .tuple #[.agg #[.int .i64 pg, .slice A n c, .slice A2 n2 c2, .int .i64 la], .agg #[.int .i64 0, .int .i64 0, .int .i64 0, .int .i64 0], .int .i64 1]) (by simp [results, Tryz.results10, go_sem]) rfl ?_
    refine HF.out _ ?_
    repeat (first | exact Below.refl _ _ | refine Below.setCell ?_ (by first | omega | (simp; done) | (simp; omega)) _ | refine Below.alloc ?_ (by first | omega | (simp; done) | (simp; omega)) _)


theorem bestAt_mem {l : List (Int × Int)} : ∀ {k : Nat} {want : Int} {r : Int × Int}, bestAt l k want = some r → r ∈ l ∧ want ≤ r.2
  | 0, _, _, h => by cases h
  | k + 1, want, r, h => by
    have h2 : (l.find? (fun r => r.2 == want)).or (bestAt l k (want + 1)) = some r := h
    cases e : l.find? (fun r => r.2 == want) with
    | some y =>
      rw [e] at h2
      obtain rfl : y = r := by simpa using h2
      have := List.find?_some e
      exact ⟨List.mem_of_find?_eq_some e, by have : y.2 = want := by simpa using this
                                             omega⟩
    | none =>
      rw [e] at h2
      have := bestAt_mem (k := k) (want := want + 1) (r := r) (by simpa using h2)
      exact ⟨this.1, by omega⟩
/-- The tightest run is one of the free ones. -/
theorem fBest_ok {f : List Bool} {n : Int} {r : Int × Int} (h : fBest f n = some r) : r ∈ fList f ∧ 1 ≤ n ∧ n ≤ r.2 ∧ RunOk (f.map b2i) 1 0 r := by
  unfold fBest at h
  split at h
  · cases h
  · have := bestAt_mem h
    exact ⟨this.1, by omega, this.2, runsAt_ok _ _ _ _ r this.1⟩

theorem scells_one1 (y : Int × Int × Int × Int) : ∀ u ∈ scells y, u.oneCell' = true := fun u hy => by
  simp [scells, iv] at hy
  rcases hy with rfl | rfl | rfl | rfl <;> rfl
theorem scells_one {l : List (Int × Int × Int × Int)} : ∀ u ∈ cellsAll scells l, u.oneCell' = true := fun u hu => by
  obtain ⟨y, _, hy⟩ := List.mem_flatMap.1 hu
  simp [scells, iv] at hy
  rcases hy with rfl | rfl | rfl | rfl <;> rfl
/-- The cells of a row of spans, one behind the other. -/
theorem Sn.cellsAt {w : World} {B n : Nat} {A : Option Addr} {l : List (Int × Int × Int × Int)} (h : Sn w B A n l) : CellsAt w A (cellsAll scells l) := fun ad e j u hj => by
  have hlen := cellsAll_length scells_len l
  have hjl : j < l.length * 4 := by rw [← hlen]; exact (List.getElem?_eq_some_iff.1 hj).1
  have hq : j / 4 < n := by have := h.1; omega
  obtain ⟨b, off, y, cs, e2, _, hy, hcl, hcs, rfl⟩ := RowOf.at_ h hq
  rw [e] at e2
  injection e2 with e2
  subst e2
  have h1 := cellsAll_at scells_len l (j / 4) y hy (j % 4) (by omega)
  rw [show j / 4 * 4 + j % 4 = j by omega, hj] at h1
  rw [Go.WideShapes.add_plain, show off + j = off + j / 4 * 4 + j % 4 by omega, hcs (j % 4) (by omega), ← h1]

/-- Four cells of one block, written: what another block had. -/
theorem aside4 (w : World) (b b' : Nat) (hne : b ≠ b') (u0 u1 u2 u3 : Value) (i : Nat) : ((((w.setCell ⟨b, 0, none⟩ u0).setCell ⟨b, 1, none⟩ u1).setCell ⟨b, 2, none⟩ u2).setCell ⟨b, 3, none⟩ u3).cell? ⟨b', i, none⟩ = w.cell? ⟨b', i, none⟩ := by
  have o : ∀ (w : World) (j : Nat) (v : Value), (w.setCell ⟨b, j, none⟩ v).cell? ⟨b', i, none⟩ = w.cell? ⟨b', i, none⟩ := fun w j v => World.cell?_setCell_other w _ _ _ (fun e => hne (by injection e))
  rw [o, o, o, o]
theorem Sl.aside4 {w : World} {B n : Nat} {A : Option Addr} {xs : List Value} (h : Sl w B A n xs) {b : Nat} (hp : ∀ a, A = some a → a.block ≠ b) (u0 u1 u2 u3 : Value) : Sl ((((w.setCell ⟨b, 0, none⟩ u0).setCell ⟨b, 1, none⟩ u1).setCell ⟨b, 2, none⟩ u2).setCell ⟨b, 3, none⟩ u3) B A n xs :=
  (((h.aside (p := ⟨b, 0, none⟩) hp u0).aside (p := ⟨b, 1, none⟩) hp u1).aside (p := ⟨b, 2, none⟩) hp u2).aside (p := ⟨b, 3, none⟩) hp u3
theorem own_aside4 {w : World} {base size n : Nat} {e : TypeId} {v : Value} {xs : List Value} (h : w.ownsRow base e size v n xs) {b : Nat} (hb : b < base) (u0 u1 u2 u3 : Value) : ((((w.setCell ⟨b, 0, none⟩ u0).setCell ⟨b, 1, none⟩ u1).setCell ⟨b, 2, none⟩ u2).setCell ⟨b, 3, none⟩ u3).ownsRow base e size v n xs :=
  ownsRow_setCell_below (ownsRow_setCell_below (ownsRow_setCell_below (ownsRow_setCell_below h (a := ⟨b, 0, none⟩) hb u0) (a := ⟨b, 1, none⟩) hb u1) (a := ⟨b, 2, none⟩) hb u2) (a := ⟨b, 3, none⟩) hb u3
theorem below_set4 {B : Nat} {w w' : World} (h : Below B w w') {b : Nat} (hb : B ≤ b) (u0 u1 u2 u3 : Value) : Below B w ((((w'.setCell ⟨b, 0, none⟩ u0).setCell ⟨b, 1, none⟩ u1).setCell ⟨b, 2, none⟩ u2).setCell ⟨b, 3, none⟩ u3) :=
  (((h.setCell (p := ⟨b, 0, none⟩) hb u0).setCell (p := ⟨b, 1, none⟩) hb u1).setCell (p := ⟨b, 2, none⟩) hb u2).setCell (p := ⟨b, 3, none⟩) hb u3

theorem sl_drew {w : World} {n : Nat} {A : Option Addr} {xs : List Value} (h : Sl w w.heap.size A n xs) : Sl w.drew w.drew.heap.size A n xs := h
theorem sn_drew {w : World} {n : Nat} {A : Option Addr} {l : List (Int × Int × Int × Int)} (h : Sn w w.heap.size A n l) : Sn w.drew w.drew.heap.size A n l := h
theorem his_of {w : World} {P : Nat → Prop} {h : HeapV} {A A2 : Option Addr} {c c2 n n2 : Nat} {pg la : Int} (e1 : h.free.length = n) (e2 : h.l.length = n2) (e3 : h.pages = pg) (e4 : h.last = la)
    (k1 : n ≤ c) (k2 : c ≤ 9223372036854775807) (k3 : A = none → c = 0) (k4 : Sl w w.heap.size A n (h.free.map bv)) (k5 : n2 ≤ c2) (k6 : c2 ≤ 9223372036854775807) (k7 : A2 = none → c2 = 0) (k8 : Sn w w.heap.size A2 n2 h.l) (k9 : InP P A) (k10 : InP P A2) (k11 : InP (· < w.heap.size) A2) :
    HIs w P h (.agg #[.int .i64 pg, .slice A n c, .slice A2 n2 c2, .int .i64 la]) := by
  subst e1 e2 e3 e4
  exact ⟨A, c, A2, c2, rfl, k1, k2, k3, k4, k5, k6, k7, k8, k9, k10, k11⟩
theorem own_lt_drew {w : World} {base size n c : Nat} {e : TypeId} {A : Option Addr} {xs : List Value} (h : w.ownsRow base e size (.slice A n c) n xs) : InP (fun b => b < w.drew.heap.size) A := fun a ha => (h.lt a.block (by rw [ha]; rfl)).2
theorem own_caps4 {w : World} {base : Nat} {e : TypeId} {A : Option Addr} {n c : Nat} {xs : List Value} (h : w.ownsRow base e 4 (.slice A n c) n xs) : n ≤ c ∧ c ≤ 9223372036854775807 ∧ (A = none → c = 0) := by
  rcases h.2 with ⟨h1, h0⟩ | ⟨g, cap, cur, h1, _, _, hnc, hcm, _⟩
  · injection h1 with h2 h3 h4
    exact ⟨by omega, by omega, fun _ => h4⟩
  · injection h1 with h2 h3 h4
    subst h4
    exact ⟨hnc, by unfold maxLen at hcm; omega, fun h => by rw [h] at h2; cases h2⟩

set_option maxHeartbeats 4000000 in
theorem ref_hmake_yes (P : Nat → Prop) (h : HeapV) (v : Value) (k order : Int) (r : Int × Int) (w : World) (hP : ∀ b, w.heap.size ≤ b → P b) (hv : HIs w P h v) (h0 : in64 k) (h1 : in64 order) (hok : ¬ (k < 1 ∨ order < -1 ∨ 3 < order)) (hlen : h.free.length = 1024) (hl : h.l.length ≤ 65536) (hla : 0 ≤ h.last ∧ h.last ≤ 1000000000) (hb : fBest h.free k = some r) :
    Calls Tryz.prog 10 #[v, .int .i64 k, .int .i64 order] w (MadeIs w P (⟨h.pages, (fPut h.free [(r.1, k)] false).1, h.l ++ [(h.last + 1, r.1, k, order)], h.last + 1⟩, (h.last + 1, r.1, k, order), 0)) := by
  have HV := hidb hv
  obtain ⟨hr1, hr2, hr3, S, L, rfl, hr5, hr6, hr7, _⟩ := fBest_ok hb
  obtain ⟨A, c, A2, c2, e0, g1, g2, g3, g4, g5, g6, g7, g8, g9, g10, g12⟩ := hv
  subst e0
  obtain ⟨n, hn⟩ : ∃ n, h.free.length = n := ⟨_, rfl⟩
  obtain ⟨n2, hn2⟩ : ∃ n2, h.l.length = n2 := ⟨_, rfl⟩
  obtain ⟨pg, hpg⟩ : ∃ pg, h.pages = pg := ⟨_, rfl⟩
  obtain ⟨la, hla2⟩ : ∃ la, h.last = la := ⟨_, rfl⟩
  rw [hn, hn2, hpg, hla2] at HV ⊢
  rw [hn] at g1 g4 hlen
  rw [hn2] at g5 g8 hl
  rw [hla2] at hla
  rw [List.length_map] at hr7
  rw [hn] at hr7
  simp only at hr3 ⊢
  obtain ⟨FF, hFF⟩ : ∃ FF, fPut h.free [((S : Int), k)] false = FF := ⟨_, rfl⟩
  rw [hFF]
  -- the call's own three blocks
  obtain ⟨w0, hw0⟩ : ∃ w0, w0 = ((w.alloc (.cells #[.int .i64 pg, .slice A n c, .slice A2 n2 c2, .int .i64 la] 31)).alloc (.cells #[.int .i64 0, .slice none 0 0, .slice none 0 0, .int .i64 0] 31)).alloc (.cells #[.int .i64 0, .int .i64 0, .int .i64 0, .int .i64 0] 43) := ⟨_, rfl⟩
  have hb0 : Below w.heap.size w w0 := by
    rw [hw0]
    repeat (first | exact Below.refl _ _ | refine Below.alloc ?_ (by first | omega | (simp; done) | (simp; omega)) _)
  have cb := ref_fbest A n c h.free k w0 ((g4.below hb0).more hb0.size) (by omega) h0.1 h0.2
  rw [hb] at cb
  unfold RunIs at cb
  have cb2 : Calls Tryz.prog 32 #[.slice A n c, .int .i64 k] w0 fun e w' => e = .returned (.tuple #[.agg #[.int .i64 (S : Int), .int .i64 (L : Int)], .bool true]) ∧ Below w0.heap.size w0 w' := cb
  have HW0 := hidb hw0
  have k1 : ¬ k < 1 := by omega
  have k2 : ¬ order < -1 := by omega
  have k3 : ¬ 3 < order := by omega
  have hk0 := h0.2
  have hla0 := hla.1
  have hla1 := hla.2
  have hz0 : w0.heap.size = w.heap.size + 1 + 1 + 1 := by rw [hw0]; simp
  have HQ : Hid (∀ W, Below w0.heap.size w0 W → W.cell? ⟨w.heap.size, 0, none⟩ = some (.int .i64 pg) ∧ W.cell? ⟨w.heap.size, 1, none⟩ = some (.slice A n c) ∧ W.cell? ⟨w.heap.size, 2, none⟩ = some (.slice A2 n2 c2) ∧ W.cell? ⟨w.heap.size, 3, none⟩ = some (.int .i64 la) ∧ ∀ j, W.frozen? ⟨w.heap.size, j, none⟩ = false) := hidb (fun W hb => by
    have hlt : w.heap.size < w0.heap.size := by omega
    refine ⟨?_, ?_, ?_, ?_, fun j => ?_⟩
    · rw [hb.cell (p := ⟨w.heap.size, 0, none⟩) hlt, hw0, World.cell?_alloc_lt _ _ _ (by simp; omega), World.cell?_alloc_lt _ _ _ (by simp)]; simp
    · rw [hb.cell (p := ⟨w.heap.size, 1, none⟩) hlt, hw0, World.cell?_alloc_lt _ _ _ (by simp; omega), World.cell?_alloc_lt _ _ _ (by simp)]; simp
    · rw [hb.cell (p := ⟨w.heap.size, 2, none⟩) hlt, hw0, World.cell?_alloc_lt _ _ _ (by simp; omega), World.cell?_alloc_lt _ _ _ (by simp)]; simp
    · rw [hb.cell (p := ⟨w.heap.size, 3, none⟩) hlt, hw0, World.cell?_alloc_lt _ _ _ (by simp; omega), World.cell?_alloc_lt _ _ _ (by simp)]; simp
    · rw [hb.frozen (p := ⟨w.heap.size, j, none⟩) hlt, hw0, World.frozen?_alloc_past _ _ _ (by simp; omega), World.frozen?_alloc_past _ _ _ (by simp)]; exact frozen_new w _ _ j)
  have hl1 : n ≤ 1024 := by omega
  have hl2 : 1024 ≤ n := by omega
  have HN := hidb hn
  have HN2 := hidb hn2
  have HPG := hidb hpg
  have HLA := hidb hla2
  have HG3 := hidb g3
  have HG7 := hidb g7
  clear hw0 cb hok h0 h1 hb hla hlen hn hn2 hpg hla2 g3 g7
  go_enter Tryz.func10, Tryz.ntmps10
  have hz1 : ∀ w1 : World, Below w0.heap.size w0 w1 → w.heap.size < w1.heap.size ∧ w.heap.size + 1 < w1.heap.size ∧ w.heap.size + 1 + 1 < w1.heap.size := fun w1 hb => by have := hb.size; omega
  have HZ1 := hidb hz1
  have HZ0 := hidb hz0
  clear hz0 hz1
  go_wp2_with (go_at_call 32; rw [← HW0.out]; (with_reducible refine cb2.mono ?_); rintro e w1 ⟨rfl, hb1⟩; obtain ⟨q0, q1, q2, q3, qz⟩ := HQ.out _ hb1; have qz0 := qz 0; have qz1 := qz 1; have qz2 := qz 2; have qz3 := qz 3; clear qz; obtain ⟨z0, z1, z2⟩ := HZ1.out _ hb1)
  have hR := Rn.one (w := w1.alloc (.cells #[.int .i64 (S : Int), .int .i64 k] 41)) (S : Int) k 41
  have hbw1 : Below w.heap.size w ((w1.alloc (.cells #[.int .i64 (S : Int), .int .i64 k] 41)).alloc (.cells #[.int .i64 (S : Int), .int .i64 k] 41)) := ((hb0.trans (hb1.mono (by have := HZ0.out; omega))).alloc (by omega) _).alloc (by simp; omega) _
  have cp := ref_fput A (some ⟨(w1.alloc (.cells #[.int .i64 (S : Int), .int .i64 k] 41)).heap.size, 0, none⟩) n c 1 1 h.free [((S : Int), k)] false _ ((g4.below hbw1).more hbw1.size) hR hl1 hl2 (by omega) g1 g2 (fun r hr => by rw [List.mem_singleton.1 hr]; exact ⟨by unfold in64; simp only; omega, by unfold in64; simp only; omega⟩)
  rw [show (w1.alloc (.cells #[.int .i64 (S : Int), .int .i64 k] 41)).heap.size = w1.heap.size + 1 by simp] at cp
  unfold ResBoolsNo at cp
  rw [hFF] at cp
  have hfl : FF.1.length = n := by rw [← hFF, fPut_length]; exact HN.out
  rw [hfl] at cp
  have HB1 := hidb hb1
  have HBW1 := hidb hbw1
  have HFL := hidb hfl
  have CP := hidb cp
  have HFF := hidb hFF
  clear hR hbw1 hb1 cb2 hfl cp hFF
  have HBA : Hid (∀ w2, Below ((w1.alloc (.cells #[.int .i64 (S : Int), .int .i64 k] 41)).alloc (.cells #[.int .i64 (S : Int), .int .i64 k] 41)).heap.size ((w1.alloc (.cells #[.int .i64 (S : Int), .int .i64 k] 41)).alloc (.cells #[.int .i64 (S : Int), .int .i64 k] 41)) w2 →
      Below w0.heap.size w0 w2 ∧ w1.heap.size + 1 < w2.heap.size ∧ w2.cell? ⟨w1.heap.size, 0, none⟩ = some (.int .i64 (S : Int)) ∧ w2.cell? ⟨w1.heap.size, 1, none⟩ = some (.int .i64 k)) := hidb (fun w2 hb2 => by
    have e := hb2.size
    have e1 := HB1.out.size
    simp at e
    refine ⟨HB1.out.trans (((Below.refl w1.heap.size w1).alloc (Nat.le_refl _) _).alloc (by simp) _ |>.mono (by omega) |>.trans (hb2.mono (by simp; omega))), by omega, ?_, ?_⟩
    · rw [hb2.cell (p := ⟨w1.heap.size, 0, none⟩) (by simp; omega), World.cell?_alloc_lt _ _ _ (by simp)]; simp
    · rw [hb2.cell (p := ⟨w1.heap.size, 1, none⟩) (by simp; omega), World.cell?_alloc_lt _ _ _ (by simp)]; simp)
  go_wp2_with (go_at_call 24; (with_reducible refine CP.out.mono ?_); rintro e w2 ⟨A3, c3, rfl, k1, k2, k3, k4, hb2, k6⟩; have K1 := hidb k1; have K2 := hidb k2; have K3 := hidb k3; have K4 := hidb k4; have K6 := hidb k6; clear k1 k2 k3 k4 k6; obtain ⟨hb02, z3, r0, r1⟩ := HBA.out _ hb2; obtain ⟨p0, p1, p2, p3, pz⟩ := HQ.out _ hb02; have pz0 := pz 0; have pz1 := pz 1; have pz2 := pz 2; have pz3 := pz 3; clear pz; have HB2 := hidb hb2; have HB02 := hidb hb02; clear hb2 hb02)
  obtain ⟨W3, hW3⟩ : ∃ W3, W3 = ((w2.setCell ⟨w.heap.size, 1, none⟩ (.slice A3 n c3)).setCell ⟨w.heap.size, 3, none⟩ (.int .i64 (la + 1))).alloc (.cells #[.int .i64 (la + 1), .int .i64 (S : Int), .int .i64 k, .int .i64 order] 43) := ⟨_, rfl⟩
  rw [← hW3]
  have hz3 : W3.heap.size = w2.heap.size + 1 := by rw [hW3]; simp
  have hzz : w.heap.size + 1 + 1 + 1 ≤ w2.heap.size := by have := HB02.out.size; have := HZ0.out; omega
  have HS : Hid (∀ W, Below W3.heap.size W3 W → W.cell? ⟨w.heap.size, 2, none⟩ = some (.slice A2 n2 c2) ∧ W.cell? ⟨w2.heap.size, 0, none⟩ = some (.int .i64 (la + 1)) ∧ W.cell? ⟨w2.heap.size, 1, none⟩ = some (.int .i64 (S : Int)) ∧ W.cell? ⟨w2.heap.size, 2, none⟩ = some (.int .i64 k) ∧ W.cell? ⟨w2.heap.size, 3, none⟩ = some (.int .i64 order)) := hidb (fun W hb => by
    refine ⟨?_, ?_, ?_, ?_, ?_⟩
    · rw [hb.cell (p := ⟨w.heap.size, 2, none⟩) (by show w.heap.size < _; omega), hW3, World.cell?_alloc_lt _ _ _ (by simp; omega)]
      rw [World.cell?_setCell_other _ _ _ _ (by simp), World.cell?_setCell_other _ _ _ _ (by simp)]; exact p2
    all_goals
      rw [hb.cell (by show w2.heap.size < _; omega), hW3, World.cell?_alloc_at _ _ _ _ (by simp)]; rfl)
  obtain ⟨j0, hji, hjz0, hjz1, hjz2⟩ := info_parts info_span
  have HW3 := hidb hW3
  have HZ3 := hidb hz3
  clear hW3 hz3
  have HB3 : Hid (Below w.heap.size w W3) := hidb (by
    rw [HW3.out]
    exact (((hb0.trans (HB02.out.mono (by have := HZ0.out; omega))).setCell (p := ⟨w.heap.size, 1, none⟩) (Nat.le_refl _) _).setCell (p := ⟨w.heap.size, 3, none⟩) (Nat.le_refl _) _).alloc (by simp; omega) _)
  have HG8 : Hid (∀ W, Below W3.heap.size W3 W → CellsAt W A2 (cellsAll scells h.l)) := hidb (fun W hb => Sn.cellsAt (RowOf.below g8 (HB3.out.trans (hb.mono HB3.out.size))))
  have HOne : Hid (∀ u ∈ cellsAll scells h.l, u.oneCell' = true) := hidb scells_one
  have HLen : Hid ((cellsAll scells h.l).length = n2 * 4) := hidb (by rw [cellsAll_length scells_len, HN2.out])
  have HA0 : Hid (A2 = none → n2 = 0 ∧ c2 = 0) := hidb (fun e => by
    have h0 : n2 = 0 := by
      refine Nat.eq_zero_of_not_pos fun hp => ?_
      obtain ⟨b, off, e2, _⟩ := g8.2 hp
      rw [e] at e2; cases e2
    exact ⟨h0, HG7.out e⟩)
  have HS4 : Hid (∀ W, Below W3.heap.size W3 W → W.cell? ⟨w2.heap.size, 0, none⟩ = some (.int .i64 (la + 1)) ∧ W.cell? ⟨w2.heap.size, 1, none⟩ = some (.int .i64 (S : Int)) ∧ W.cell? ⟨w2.heap.size, 2, none⟩ = some (.int .i64 k) ∧ W.cell? ⟨w2.heap.size, 3, none⟩ = some (.int .i64 order)) := hidb (fun W hb => (HS.out W hb).2)
  have HSS : Hid (∀ W v, Below W3.heap.size W3 W → (W.setCell ⟨w.heap.size, 2, none⟩ v).cell? ⟨w2.heap.size, 0, none⟩ = some (.int .i64 (la + 1)) ∧ (W.setCell ⟨w.heap.size, 2, none⟩ v).cell? ⟨w2.heap.size, 1, none⟩ = some (.int .i64 (S : Int)) ∧ (W.setCell ⟨w.heap.size, 2, none⟩ v).cell? ⟨w2.heap.size, 2, none⟩ = some (.int .i64 k) ∧ (W.setCell ⟨w.heap.size, 2, none⟩ v).cell? ⟨w2.heap.size, 3, none⟩ = some (.int .i64 order)) := hidb (fun W v hb => by
    obtain ⟨e0, e1, e2, e3⟩ := HS4.out W hb
    refine ⟨?_, ?_, ?_, ?_⟩
    all_goals
      rw [World.cell?_setCell_other _ _ _ _ (fun e => by injection e with e; omega)]
      assumption)
  have HL2 : Hid (∀ W, Below W3.heap.size W3 W → W.cell? ⟨w.heap.size, 2, none⟩ = some (.slice A2 n2 c2) ∧ W.frozen? ⟨w.heap.size, 2, none⟩ = false) := hidb (fun W hb => ⟨(HS.out W hb).1, by
    rw [hb.frozen (p := ⟨w.heap.size, 2, none⟩) (by show w.heap.size < _; have := HZ3.out; omega), HW3.out, World.frozen?_alloc_past _ _ _ (by simp; omega)]
    simpa using pz2⟩)
  obtain ⟨l2, l2z⟩ := HL2.out W3 (Below.refl _ _)
  obtain ⟨m0', m1', m2', m3'⟩ := HS4.out W3 (Below.refl _ _)
  have hbtlt : w2.heap.size < W3.heap.size := by have := HZ3.out; omega
  have hb0lt : w.heap.size < W3.heap.size := by have := HZ3.out; omega
  go_cut [62] from 55 to 62 (fun v wx => ∃ A' c' w'', v = .pointer (some ⟨w.heap.size, 2, none⟩) ∧ wx = w''.setCell ⟨w.heap.size, 2, none⟩ (.slice A' (n2 + 1) c') ∧ Below W3.heap.size W3 w'' ∧ w''.ownsRow W3.heap.size 43 4 (.slice A' (n2 + 1) c') (n2 + 1) (cellsAll scells h.l ++ scells (la + 1, (S : Int), k, order)))
  case first =>
    clear HV hr1 hr2 hr3 hr5 hr6 hr7 g1 g2 g4 g5 g6 g9 g10 g12 hb0 HQ HZ1 HZ0 q0 q1 q2 q3 qz0 qz1 qz2 qz3 z0 z1 z2 HB1 HBW1 HFL HBA CP K1 K2 K3 K4 K6 z3 r0 r1 p0 p1 p2 p3 pz0 pz1 pz2 pz3 HB2 HB02 HSS HS HW3 HB3 HW0 HN HN2 HPG HLA HG3 HG7 k1 k2 k3 hk0 hP g8
    go_region_law
      (first
        | (refine step_append_row rfl (.tmp 55) (.tmp 57) 29 rfl W3.heap.size 43 j0 (.agg #[.int .i64 0, .int .i64 0, .int .i64 0, .int .i64 0]) 4 32 Tryz.underlying29 hji hjz0 hjz1 hjz2 rfl (by decide) _ 0 [] rfl (by first | exact (own_empty' _ _ _ _ _ (by first | rfl | simp) (by first | exact Nat.le_refl _ | simp)).drew | exact ((own_empty' _ _ _ _ _ (by first | rfl | simp) (by first | exact Nat.le_refl _ | simp)).alloc _).drew) (by first | omega | (simp; done) | (simp; omega)) A2 n2 c2 (cellsAll scells h.l) rfl HLen.out HA0.out (HG8.out _ (by repeat (first | assumption | exact Below.refl _ _ | refine Below.drew ?_ | refine Below.alloc ?_ (by first | omega | (simp; done) | (simp; omega)) _))) HOne.out (by unfold maxLen; omega) (by omega) ?_; intro A5 c5 w5 hown5 hg5; have hB5 : Below W3.heap.size W3 w5 := Below.grown (by repeat (first | assumption | exact Below.refl _ _ | refine Below.drew ?_ | refine Below.alloc ?_ (by first | omega | (simp; done) | (simp; omega)) _)) hg5 (by first | omega | (simp; done) | (simp; omega)) (fun q hq => own_ge hq (by first | omega | (simp; done) | (simp; omega))); have hz5 : W3.heap.size ≤ w5.heap.size := hB5.size; obtain ⟨v0, v1, v2, v3⟩ := HS4.out _ hB5; have vlt : w2.heap.size < w5.heap.size := (by omega); rw [List.nil_append, Nat.zero_add] at hown5; have hown5' : w5.ownsRow W3.heap.size 43 4 (.slice A5 (0 + n2) c5) n2 (cellsAll scells h.l) := by rw [Nat.zero_add]; exact hown5)
        | (refine step_append_row rfl (.tmp 58) (.tmp 60) 29 rfl W3.heap.size 43 j0 (.agg #[.int .i64 0, .int .i64 0, .int .i64 0, .int .i64 0]) 4 32 Tryz.underlying29 hji hjz0 hjz1 hjz2 rfl (by decide) _ n2 (cellsAll scells h.l) rfl (by first | exact hown5 | exact hown5.alloc _ | exact hown5' | exact hown5'.alloc _) (by first | omega | (simp; done) | (simp; omega)) (some ⟨_, 0, none⟩) 1 1 (scells (la + 1, (S : Int), k, order)) rfl rfl (fun h => by cases h) (by first | exact cells_new' _ _ _ _ (by first | rfl | simp) | (refine CellsAt.grown ?_ hg5 (own_off (by first | omega | (simp; done))); first | exact (cells_new' _ _ _ _ (by first | rfl | simp)).drew | exact ((cells_new' _ _ _ _ (by first | rfl | simp)).alloc _).drew)) (scells_one1 _) (by unfold maxLen; omega) (by omega) ?_; intro A6 c6 w6 hown6 hg6; have hB6 : Below W3.heap.size W3 w6 := Below.grown (by repeat (first | assumption | exact Below.refl _ _ | refine Below.drew ?_ | refine Below.alloc ?_ (by first | omega | (simp; done) | (simp; omega)) _)) hg6 (by first | omega | (simp; done) | (simp; omega)) (by first | exact fun q hq => (hown5.lt q hq).1 | exact fun q hq => (hown5'.lt q hq).1); have hz6 : W3.heap.size ≤ w6.heap.size := hB6.size; obtain ⟨m2, m2z⟩ := HL2.out _ hB6; have HO6 := hidb hown6; clear hown6 hg6))
    all_goals
      go_wp2_with fail
      go_meet
      exact ⟨A6, c6, w6, rfl, rfl, hB6, HO6.out⟩
  case rest =>
    obtain ⟨A7, c7, w7, e7, rfl, hB7, HO7⟩ := hcut
    subst e7
    have HB7 := hidb hB7
    have HO7' := hidb HO7
    clear hB7 HO7
    obtain ⟨W4, hW4⟩ : ∃ W4, W4 = w7.setCell ⟨w.heap.size, 2, none⟩ (.slice A7 (n2 + 1) c7) := ⟨_, rfl⟩
    -- what W3 had, W4 has, but for one cell
    have hkeep : ∀ (b i : Nat), b < W3.heap.size → (b = w.heap.size → i ≠ 2) → W4.cell? ⟨b, i, none⟩ = W3.cell? ⟨b, i, none⟩ := fun b i hb hi => by
      rw [hW4, World.cell?_setCell_other _ _ _ _ (fun e => by injection e with e1 e2; exact hi e1.symm e2.symm), HB7.out.cell (p := ⟨b, i, none⟩) hb]
    have hkeep3 : ∀ (b i : Nat), b < w0.heap.size → (b = w.heap.size → i ≠ 1 ∧ i ≠ 3) → W3.cell? ⟨b, i, none⟩ = w0.cell? ⟨b, i, none⟩ := fun b i hb hi => by
      have h2 := HB02.out.size
      rw [HW3.out, World.cell?_alloc_past _ _ _ (by simp; omega), World.cell?_setCell_other _ _ _ _ (fun e => by injection e with e1 e2; exact (hi e1.symm).2 e2.symm), World.cell?_setCell_other _ _ _ _ (fun e => by injection e with e1 e2; exact (hi e1.symm).1 e2.symm), HB02.out.cell (p := ⟨b, i, none⟩) hb]
    have hfz : ∀ (b j : Nat), b < w0.heap.size → W4.frozen? ⟨b, j, none⟩ = w0.frozen? ⟨b, j, none⟩ := fun b j hb => by
      have h2 := HB02.out.size
      rw [hW4]
      have e1 : (w7.setCell ⟨w.heap.size, 2, none⟩ (.slice A7 (n2 + 1) c7)).frozen? ⟨b, j, none⟩ = w7.frozen? ⟨b, j, none⟩ := by simp
      rw [e1, HB7.out.frozen (p := ⟨b, j, none⟩) (by have := HZ3.out; show b < _; omega), HW3.out, World.frozen?_alloc_past _ _ _ (by simp; omega)]
      have e2 : ((w2.setCell ⟨w.heap.size, 1, none⟩ (.slice A3 n c3)).setCell ⟨w.heap.size, 3, none⟩ (.int .i64 (la + 1))).frozen? ⟨b, j, none⟩ = w2.frozen? ⟨b, j, none⟩ := by simp
      rw [e2, HB02.out.frozen (p := ⟨b, j, none⟩) hb]
    have hz0 := HZ0.out
    have hz3 := HZ3.out
    have hz2 := HB02.out.size
    have hc7 : w7.cell? ⟨w.heap.size, 2, none⟩ = some (.slice A2 n2 c2) := (HL2.out _ HB7.out).1
    have HC : Hid (W4.cell? ⟨w.heap.size, 0, none⟩ = some (.int .i64 pg) ∧ W4.cell? ⟨w.heap.size, 1, none⟩ = some (.slice A3 n c3) ∧ W4.cell? ⟨w.heap.size, 2, none⟩ = some (.slice A7 (n2 + 1) c7) ∧ W4.cell? ⟨w.heap.size, 3, none⟩ = some (.int .i64 (la + 1))) := hidb (by
      refine ⟨?_, ?_, ?_, ?_⟩
      · rw [hkeep _ _ (by omega) (by simp), HW3.out, World.cell?_alloc_past _ _ _ (by simp; omega), World.cell?_setCell_other _ _ _ _ (by simp), World.cell?_setCell_other _ _ _ _ (by simp)]; exact p0
      · rw [hkeep _ _ (by omega) (by simp), HW3.out, World.cell?_alloc_past _ _ _ (by simp; omega), World.cell?_setCell_other _ _ _ _ (by simp)]; exact World.cell?_setCell_same _ _ _ p1
      · rw [hW4]; exact World.cell?_setCell_same _ _ _ hc7
      · rw [hkeep _ _ (by omega) (by simp), HW3.out, World.cell?_alloc_past _ _ _ (by simp; omega)]; exact World.cell?_setCell_same _ _ _ (by rw [World.cell?_setCell_other _ _ _ _ (by simp)]; exact p3))
    have HD : Hid (W4.cell? ⟨w2.heap.size, 0, none⟩ = some (.int .i64 (la + 1)) ∧ W4.cell? ⟨w2.heap.size, 1, none⟩ = some (.int .i64 (S : Int)) ∧ W4.cell? ⟨w2.heap.size, 2, none⟩ = some (.int .i64 k) ∧ W4.cell? ⟨w2.heap.size, 3, none⟩ = some (.int .i64 order)) := hidb (by
      rw [hW4]; exact HSS.out _ _ HB7.out)
    have HE : Hid (W4.cell? ⟨w.heap.size + 1, 0, none⟩ = some (.int .i64 0) ∧ W4.cell? ⟨w.heap.size + 1, 1, none⟩ = some (.slice none 0 0) ∧ W4.cell? ⟨w.heap.size + 1, 2, none⟩ = some (.slice none 0 0) ∧ W4.cell? ⟨w.heap.size + 1, 3, none⟩ = some (.int .i64 0)) := hidb (by
      refine ⟨?_, ?_, ?_, ?_⟩
      all_goals
        rw [hkeep _ _ (by omega) (fun h => by omega), hkeep3 _ _ (by omega) (fun h => by omega), HW0.out, World.cell?_alloc_past _ _ _ (by simp), World.cell?_alloc_at _ _ _ _ (by simp)]; rfl)
    have HE2 : Hid (W4.cell? ⟨w.heap.size + 1 + 1, 0, none⟩ = some (.int .i64 0) ∧ W4.cell? ⟨w.heap.size + 1 + 1, 1, none⟩ = some (.int .i64 0) ∧ W4.cell? ⟨w.heap.size + 1 + 1, 2, none⟩ = some (.int .i64 0) ∧ W4.cell? ⟨w.heap.size + 1 + 1, 3, none⟩ = some (.int .i64 0)) := hidb (by
      refine ⟨?_, ?_, ?_, ?_⟩
      all_goals
        rw [hkeep _ _ (by omega) (fun h => by omega), hkeep3 _ _ (by omega) (fun h => by omega), HW0.out, World.cell?_alloc_at _ _ _ _ (by simp)]; rfl)
    have HZ4 : Hid (∀ j, W4.frozen? ⟨w.heap.size + 1, j, none⟩ = false ∧ W4.frozen? ⟨w.heap.size + 1 + 1, j, none⟩ = false) := hidb (fun j => by
      constructor
      · rw [hfz _ _ (by omega), HW0.out, World.frozen?_alloc_past _ _ _ (by simp), World.frozen?_alloc_at _ _ _ _ (by simp)]
      · rw [hfz _ _ (by omega), HW0.out, World.frozen?_alloc_at _ _ _ _ (by simp)])
    have HPA : Hid (InP P A3 ∧ ∀ a, A3 = some a → a.block ≠ w.heap.size ∧ a.block ≠ w.heap.size + 1 ∧ a.block ≠ w.heap.size + 1 + 1) := hidb (by
      rcases K6.out with h6 | h6
      · refine ⟨fun a ha => g9 a (h6 ▸ ha), fun a ha => ?_⟩
        have hn0 : 0 < n := by omega
        obtain ⟨b, off, e2, hb, _⟩ := g4.2 hn0
        rw [← h6, ha] at e2
        injection e2 with e2
        subst e2
        simp only
        omega
      · have hle : ∀ a, A3 = some a → w1.heap.size + 2 ≤ a.block := fun a ha => by have := h6 a ha; simp at this; omega
        exact ⟨fun a ha => hP _ (by have := hle a ha; have := HB1.out.size; omega), fun a ha => by have := hle a ha; have := HB1.out.size; omega⟩)
    have HSl : Hid (Sl W4 W4.heap.size A3 n (FF.1.map bv)) := hidb (by
      have q1 := (K4.out.aside (p := ⟨w.heap.size, 1, none⟩) (fun a ha => (HPA.out.2 a ha).1) (.slice A3 n c3)).aside (p := ⟨w.heap.size, 3, none⟩) (fun a ha => (HPA.out.2 a ha).1) (.int .i64 (la + 1))
      have q2 := q1.alloc (by simp) (.cells #[.int .i64 (la + 1), .int .i64 (S : Int), .int .i64 k, .int .i64 order] 43)
      rw [← HW3.out] at q2
      have q3 := (q2.below (HB7.out.mono (by omega))).more (B' := w7.heap.size) (by have := HB7.out.size; omega)
      rw [hW4]
      exact (q3.aside (p := ⟨w.heap.size, 2, none⟩) (fun a ha => (HPA.out.2 a ha).1) _).more (by simp))
    have HO4 : Hid (W4.ownsRow W3.heap.size 43 4 (.slice A7 (n2 + 1) c7) (n2 + 1) (cellsAll scells (h.l ++ [(la + 1, (S : Int), k, order)]))) := hidb (by
      rw [hW4, cellsAll_append, cellsAll_one]
      exact ownsRow_setCell_below HO7'.out (a := ⟨w.heap.size, 2, none⟩) hb0lt _)
    have HBW : Hid (Below w.heap.size w W4) := hidb (by
      rw [hW4]; exact (HB3.out.trans (HB7.out.mono HB3.out.size)).setCell (p := ⟨w.heap.size, 2, none⟩) (Nat.le_refl _) _)
    have HC7 : Hid (n2 + 1 ≤ c7 ∧ c7 ≤ 9223372036854775807 ∧ (A7 = none → c7 = 0)) := hidb (own_caps4 HO7'.out)
    have HPA7 : Hid (InP P A7) := hidb (fun a ha => hP _ (by have := (HO7'.out.lt a.block (by rw [ha]; rfl)).1; omega))
    rw [← hW4]
    have HW4 := hidb hW4
    clear hW4 hkeep hkeep3 hfz hz0 hz3 hz2 hc7
    obtain ⟨x0, x1, x2, x3⟩ := HC.out
    obtain ⟨d0, d1, d2, d3⟩ := HD.out
    obtain ⟨e0, e1, e2, e3⟩ := HE.out
    obtain ⟨f0, f1, f2, f3⟩ := HE2.out
    have n1 : ¬ w.heap.size + 1 = w2.heap.size := by omega
    have n2' : ¬ w.heap.size + 1 + 1 = w2.heap.size := by omega
    have n3 : ¬ w2.heap.size = w.heap.size + 1 := by omega
    have n4 : ¬ w2.heap.size = w.heap.size + 1 + 1 := by omega
    have n5 : ¬ w.heap.size + 1 + 1 = w.heap.size := by omega
    have n6 : ¬ w.heap.size = w.heap.size + 1 + 1 := by omega
    have n7 : ¬ w.heap.size + 1 = w.heap.size := by omega
    have n8 : ¬ w.heap.size + 1 = w.heap.size + 1 + 1 := by omega
    have n9 : ¬ w.heap.size + 1 + 1 = w.heap.size + 1 := by omega
    have f4 := (HZ4.out 0).1
    have f5 := (HZ4.out 1).1
    have f6 := (HZ4.out 2).1
    have f7 := (HZ4.out 3).1
    have f8 := (HZ4.out 0).2
    have f9 := (HZ4.out 1).2
    have f10 := (HZ4.out 2).2
    have f11 := (HZ4.out 3).2
    go_wp2
    go_region_held3 (fun W' => W'.cell? ⟨w.heap.size, 0, none⟩ = some (.int .i64 pg) ∧ W'.cell? ⟨w.heap.size, 1, none⟩ = some (.slice A3 n c3) ∧ W'.cell? ⟨w.heap.size, 2, none⟩ = some (.slice A7 (n2 + 1) c7) ∧ W'.cell? ⟨w.heap.size, 3, none⟩ = some (.int .i64 (la + 1)) ∧ W'.cell? ⟨w2.heap.size, 0, none⟩ = some (.int .i64 (la + 1)) ∧ W'.cell? ⟨w2.heap.size, 1, none⟩ = some (.int .i64 (S : Int)) ∧ W'.cell? ⟨w2.heap.size, 2, none⟩ = some (.int .i64 k) ∧ W'.cell? ⟨w2.heap.size, 3, none⟩ = some (.int .i64 order)) (go_keep) (fail)
    go_wp2
    obtain ⟨s0, s1, s2, s3⟩ := four_cells W4 (w.heap.size + 1) (.int .i64 pg) (.slice A3 n c3) (.slice A7 (n2 + 1) c7) (.int .i64 (la + 1)) _ _ _ _ e0 e1 e2 e3
    have a2 := fun i => aside4 W4 (w.heap.size + 1) (w.heap.size + 1 + 1) (by omega) (.int .i64 pg) (.slice A3 n c3) (.slice A7 (n2 + 1) c7) (.int .i64 (la + 1)) i
    obtain ⟨t0, t1, t2, t3⟩ := four_cells _ (w.heap.size + 1 + 1) (.int .i64 (la + 1)) (.int .i64 (S : Int)) (.int .i64 k) (.int .i64 order) _ _ _ _ ((a2 0).trans f0) ((a2 1).trans f1) ((a2 2).trans f2) ((a2 3).trans f3)
    have a1 := fun i => aside4 ((((W4.setCell ⟨w.heap.size + 1, 0, none⟩ (.int .i64 pg)).setCell ⟨w.heap.size + 1, 1, none⟩ (.slice A3 n c3)).setCell ⟨w.heap.size + 1, 2, none⟩ (.slice A7 (n2 + 1) c7)).setCell ⟨w.heap.size + 1, 3, none⟩ (.int .i64 (la + 1))) (w.heap.size + 1 + 1) (w.heap.size + 1) (by omega) (.int .i64 (la + 1)) (.int .i64 (S : Int)) (.int .i64 k) (.int .i64 order) i
    have b0 := (a1 0).trans s0
    have b1 := (a1 1).trans s1
    have b2 := (a1 2).trans s2
    have b3 := (a1 3).trans s3
    clear a1 a2
    refine bodyPost_ret (v := .tuple #[.agg #[.int .i64 pg, .slice A3 n c3, .slice A7 (n2 + 1) c7, .int .i64 (la + 1)], .agg #[.int .i64 (la + 1), .int .i64 (S : Int), .int .i64 k, .int .i64 order], .int .i64 0]) (by simp [results, Tryz.results10, go_sem, b0, b1, b2, b3, t0, t1, t2, t3]) rfl ?_
    have hlen1 : FF.1.length = n := HFL.out
    have hlen2 : (h.l ++ [(la + 1, (S : Int), k, order)]).length = n2 + 1 := by rw [List.length_append, HN2.out]; rfl
    have hsl := ((HSl.out.aside4 (b := w.heap.size + 1) (fun a ha => (HPA.out.2 a ha).2.1) (.int .i64 pg) (.slice A3 n c3) (.slice A7 (n2 + 1) c7) (.int .i64 (la + 1))).aside4 (b := w.heap.size + 1 + 1) (fun a ha => (HPA.out.2 a ha).2.2) (.int .i64 (la + 1)) (.int .i64 (S : Int)) (.int .i64 k) (.int .i64 order))
    have hsn := own_aside4 (own_aside4 HO4.out (b := w.heap.size + 1) (by have := HZ3.out; omega) (.int .i64 pg) (.slice A3 n c3) (.slice A7 (n2 + 1) c7) (.int .i64 (la + 1))) (b := w.heap.size + 1 + 1) (by have := HZ3.out; omega) (.int .i64 (la + 1)) (.int .i64 (S : Int)) (.int .i64 k) (.int .i64 order)
    have hbf := below_set4 (below_set4 HBW.out (b := w.heap.size + 1) (by omega) (.int .i64 pg) (.slice A3 n c3) (.slice A7 (n2 + 1) c7) (.int .i64 (la + 1))) (b := w.heap.size + 1 + 1) (by omega) (.int .i64 (la + 1)) (.int .i64 (S : Int)) (.int .i64 k) (.int .i64 order)
    exact ⟨⟨_, rfl, his_of (h := ⟨pg, FF.1, h.l ++ [(la + 1, (S : Int), k, order)], la + 1⟩) hlen1 hlen2 rfl rfl K1.out K2.out K3.out (sl_drew (hsl.more (by simp))) HC7.out.1 HC7.out.2.1 HC7.out.2.2 (sn_drew (RowOf.of_own scells_len hsn hlen2)) HPA.out.1 HPA7.out (own_lt_drew hsn)⟩, hbf.drew⟩

end Go.Proofs.YtcngcibiibchiaaGreat
