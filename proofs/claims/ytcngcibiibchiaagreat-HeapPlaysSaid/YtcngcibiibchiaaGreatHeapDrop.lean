/- What Drop of the document's own answers to layer 7 (heap) returns. -/
import Derived.Test.YtcngcibiibchiaaGreatHeapMake2
import Derived.Deep.RegionLaw
import Derived.Deep.Cut
import Derived.Deep.CutRange
namespace Go.Proofs.YtcngcibiibchiaaGreat
open Go.RowKit
set_option linter.unusedVariables false

/-- Spans go, one by one; none, where one isn't there. -/
def dropAll (h : HeapV) (ids : List Int) : Option HeapV := ids.foldl (fun o i => o.bind (hDrop1 · i)) (some h)
theorem dropAll_snoc (h : HeapV) (ids : List Int) (i : Int) : dropAll h (ids ++ [i]) = (dropAll h ids).bind (hDrop1 · i) := by unfold dropAll; rw [List.foldl_append]; rfl
theorem dropFold_none : ∀ ids : List Int, ids.foldl (fun o i => o.bind (hDrop1 · i)) (none : Option HeapV) = none
  | [] => rfl
  | _ :: ids => dropFold_none ids
theorem dropAll_none (h : HeapV) (ids : List Int) (k : Nat) (e : dropAll h (ids.take k) = none) : dropAll h ids = none := by
  have e2 : ids = ids.take k ++ ids.drop k := (List.take_append_drop k ids).symm
  unfold dropAll at e ⊢
  rw [e2, List.foldl_append, e, dropFold_none]
theorem hDrop_all (h : HeapV) (ids : List Int) : hDrop h ids = match dropAll h ids with | some g => (g, 0) | none => (h, 6) := rfl

/-- A row that lies in another block. -/
theorem RowOf.aside {E : Type} {R : List Value → E → Prop} {s : Nat} {w : World} {B n : Nat} {A : Option Addr} {l : List E} (h : RowOf R s w B A n l) {p : Addr} (hp : ∀ a, A = some a → a.block ≠ p.block) (u : Value) : RowOf R s (w.setCell p u) B A n l :=
  ⟨h.1, fun hn => by
    obtain ⟨b, off, e, hb, hc⟩ := h.2 hn
    refine ⟨b, off, e, hb, fun j y hj => ?_⟩
    obtain ⟨cs, h1, h2, h3⟩ := hc j y hj
    exact ⟨cs, h1, fun k hk => (World.cell?_setCell_other w p ⟨b, off + j * s + k, none⟩ u (fun e2 => hp _ e (by rw [e2]))).trans (h2 k hk), h3⟩⟩
/-- A heap that lies in a block of the call's own: its cells and rows. -/
structure HAt (w : World) (P : Nat → Prop) (b : Nat) (g : HeapV) (A : Option Addr) (c : Nat) (A2 : Option Addr) (n2 c2 : Nat) : Prop where
  c0 : w.cell? ⟨b, 0, none⟩ = some (.int .i64 g.pages)
  c1 : w.cell? ⟨b, 1, none⟩ = some (.slice A 1024 c)
  c2' : w.cell? ⟨b, 2, none⟩ = some (.slice A2 n2 c2)
  c3 : w.cell? ⟨b, 3, none⟩ = some (.int .i64 g.last)
  fr : ∀ j, w.frozen? ⟨b, j, none⟩ = false
  l1 : g.free.length = 1024
  l2 : g.l.length = n2
  k1 : 1024 ≤ c
  k2 : c ≤ 9223372036854775807
  s1 : Sl w w.heap.size A 1024 (g.free.map bv)
  k5 : n2 ≤ c2
  k6 : c2 ≤ 9223372036854775807
  k7 : A2 = none → c2 = 0
  s2 : Sn w w.heap.size A2 n2 g.l
  p1 : InP P A
  p2 : InP P A2
  q1 : ∀ a, A = some a → a.block + 2 < b ∨ b < a.block
  q2 : ∀ a, A2 = some a → a.block + 2 < b ∨ b < a.block
  q3 : InP (· < w.heap.size) A2
  in64' : ∀ y ∈ g.l, in64 y.2.1 ∧ in64 y.2.2.1

theorem HAt.below {w w' : World} {P : Nat → Prop} {b : Nat} {g : HeapV} {A : Option Addr} {c : Nat} {A2 : Option Addr} {n2 c2 : Nat} (h : HAt w P b g A c A2 n2 c2) (hb : Below w.heap.size w w') : HAt w' P b g A c A2 n2 c2 := by
  have hlt := lt_of_cell h.c0
  have hc : ∀ j, w'.cell? ⟨b, j, none⟩ = w.cell? ⟨b, j, none⟩ := fun j => hb.cell (p := ⟨b, j, none⟩) hlt
  exact ⟨(hc 0).trans h.c0, (hc 1).trans h.c1, (hc 2).trans h.c2', (hc 3).trans h.c3, fun j => (hb.frozen (p := ⟨b, j, none⟩) hlt).trans (h.fr j), h.l1, h.l2, h.k1, h.k2, (h.s1.below hb).more hb.size, h.k5, h.k6, h.k7, (RowOf.below h.s2 hb).more hb.size, h.p1, h.p2, h.q1, h.q2, fun a ha => Nat.lt_of_lt_of_le (h.q3 a ha) hb.size, h.in64'⟩

theorem HAt.setFree {w : World} {P : Nat → Prop} {b : Nat} {g : HeapV} {A : Option Addr} {c : Nat} {A2 : Option Addr} {n2 c2 : Nat} (h : HAt w P b g A c A2 n2 c2) (A' : Option Addr) (c' : Nat) (f' : List Bool) (e1 : f'.length = 1024) (e2 : 1024 ≤ c') (e3 : c' ≤ 9223372036854775807)
    (e4 : Sl w w.heap.size A' 1024 (f'.map bv)) (e5 : InP P A') (e6 : ∀ a, A' = some a → a.block + 2 < b ∨ b < a.block) : HAt (w.setCell ⟨b, 1, none⟩ (.slice A' 1024 c')) P b { g with free := f' } A' c' A2 n2 c2 := by
  have o : ∀ j, j ≠ 1 → (w.setCell ⟨b, 1, none⟩ (.slice A' 1024 c')).cell? ⟨b, j, none⟩ = w.cell? ⟨b, j, none⟩ := fun j hj => World.cell?_setCell_other w _ _ _ (fun e => hj (by injection e with e1 e2; exact e2.symm))
  refine ⟨(o 0 (by decide)).trans h.c0, World.cell?_setCell_same w _ _ h.c1, (o 2 (by decide)).trans h.c2', (o 3 (by decide)).trans h.c3, fun j => ?_, e1, h.l2, e2, e3, ?_, h.k5, h.k6, h.k7, ?_, e5, h.p2, e6, h.q2, fun a ha => by have := h.q3 a ha; simp; omega, h.in64'⟩
  · have := h.fr j
    simpa using this
  · exact (e4.aside (p := ⟨b, 1, none⟩) (fun a ha => by have := e6 a ha; show a.block ≠ b; omega) _).more (by simp)
  · exact (RowOf.aside h.s2 (p := ⟨b, 1, none⟩) (fun a ha => by have := h.q2 a ha; show a.block ≠ b; omega) _).more (by simp)
theorem HAt.setSpans {w : World} {P : Nat → Prop} {b : Nat} {g : HeapV} {A : Option Addr} {c : Nat} {A2 : Option Addr} {n2 c2 : Nat} (h : HAt w P b g A c A2 n2 c2) (A' : Option Addr) (n' c' : Nat) (l' : List (Int × Int × Int × Int)) (e1 : l'.length = n') (e2 : n' ≤ c') (e3 : c' ≤ 9223372036854775807) (e0 : A' = none → c' = 0)
    (e4 : Sn w w.heap.size A' n' l') (e5 : InP P A') (e6 : ∀ a, A' = some a → a.block + 2 < b ∨ b < a.block) (e7 : ∀ y ∈ l', in64 y.2.1 ∧ in64 y.2.2.1) (e8 : InP (· < w.heap.size) A') : HAt (w.setCell ⟨b, 2, none⟩ (.slice A' n' c')) P b { g with l := l' } A c A' n' c' := by
  have o : ∀ j, j ≠ 2 → (w.setCell ⟨b, 2, none⟩ (.slice A' n' c')).cell? ⟨b, j, none⟩ = w.cell? ⟨b, j, none⟩ := fun j hj => World.cell?_setCell_other w _ _ _ (fun e => hj (by injection e with e1 e2; exact e2.symm))
  refine ⟨(o 0 (by decide)).trans h.c0, (o 1 (by decide)).trans h.c1, World.cell?_setCell_same w _ _ h.c2', (o 3 (by decide)).trans h.c3, fun j => ?_, h.l1, e1, h.k1, h.k2, ?_, e2, e3, e0, ?_, h.p1, e5, h.q1, e6, fun a ha => by have := e8 a ha; simp; omega, e7⟩
  · have := h.fr j
    simpa using this
  · exact (h.s1.aside (p := ⟨b, 2, none⟩) (fun a ha => by have := h.q1 a ha; show a.block ≠ b; omega) _).more (by simp)
  · exact (RowOf.aside e4 (p := ⟨b, 2, none⟩) (fun a ha => by have := e6 a ha; show a.block ≠ b; omega) _).more (by simp)

theorem grown_row {w w' : World} {g : Nat} (h : w.grownBy w' (some g)) (j : Nat) (u : Value) : w.grownBy (w'.setCell ⟨g, j, none⟩ u) (some g) :=
  ⟨h.os, h.tape, h.output, by simpa using h.size, fun k hk hr => (heap_setCell_other w' ⟨g, j, none⟩ k u (fun e => hr (by rw [e]))).trans (h.block k hk hr)⟩
theorem hat_drew {w : World} {P : Nat → Prop} {b : Nat} {g : HeapV} {A : Option Addr} {c : Nat} {A2 : Option Addr} {n2 c2 : Nat} (h : HAt w P b g A c A2 n2 c2) : HAt w.drew P b g A c A2 n2 c2 := h.below (Below.refl _ _).drew
/-- A heap and an error's number that a call answers. -/
def DropIs (w : World) (P : Nat → Prop) (r : HeapV × Int) (e : Ending) (w' : World) : Prop := (∃ v, e = .returned (.tuple #[v, .int .i64 r.2]) ∧ HIs w' P r.1 v) ∧ Below w.heap.size w w'
theorem grown_of_below {w0 w w' : World} {r : Option Nat} (h : w0.grownBy w r) (hb : Below w.heap.size w w') : w0.grownBy w' r :=
  ⟨hb.os.trans h.os, hb.tape.trans h.tape, hb.output.trans h.output, Nat.le_trans h.size hb.size, fun k hk hr => (hb.block k (Nat.lt_of_lt_of_le hk h.size)).trans (h.block k hk hr)⟩

set_option maxHeartbeats 4000000 in
set_option maxRecDepth 100000 in
theorem ref_hdrop (P : Nat → Prop) (h : HeapV) (v : Value) (AI : Option Addr) (m cI : Nat) (ids : List Int) (w : World) (hP : ∀ b, w.heap.size ≤ b → P b) (hv : HIs w P h v) (hs : Sl w w.heap.size AI m (ids.map iv)) (hm : m ≤ 65536) (hid : ∀ i ∈ ids, in64 i) (hlen : h.free.length = 1024) (hl : h.l.length ≤ 65536) (hin : ∀ y ∈ h.l, in64 y.2.1 ∧ in64 y.2.2.1) :
    Calls Tryz.prog 8 #[v, .slice AI m cI] w (DropIs w P (hDrop h ids)) := by
  have HV := hidb hv
  obtain ⟨A, c, A2, c2, e0, g1, g2, g3, g4, g5, g6, g7, g8, g9, g10, g12⟩ := hv
  subst e0
  have HSI := hidb hs
  have HID := hidb hid
  have HLI : Hid (ids.length = m) := hidb (by have := hs.1; simpa using this)
  obtain ⟨n2, hn2⟩ : ∃ n2, h.l.length = n2 := ⟨_, rfl⟩
  obtain ⟨pg, hpg⟩ : ∃ pg, h.pages = pg := ⟨_, rfl⟩
  obtain ⟨la, hla⟩ : ∃ la, h.last = la := ⟨_, rfl⟩
  rw [hlen] at g1 g4
  rw [hn2] at g5 g8 hl
  rw [hlen, hn2, hpg, hla] at HV ⊢
  clear hs hid
  go_enter Tryz.func8, Tryz.ntmps8
  go_wp2
  obtain ⟨w0, hw0⟩ : ∃ w0, w0 = ((w.alloc (.cells #[.int .i64 pg, .slice A 1024 c, .slice A2 n2 c2, .int .i64 la] 31)).alloc (.cells #[.int .i64 0, .slice none 0 0, .slice none 0 0, .int .i64 0] 31)).alloc (.cells #[.int .i64 pg, .slice A 1024 c, .slice A2 n2 c2, .int .i64 la] 31) := ⟨_, rfl⟩
  rw [← hw0]
  have hz0 : w0.heap.size = w.heap.size + 1 + 1 + 1 := by rw [hw0]; simp
  have hb0 : Below w.heap.size w w0 := by
    rw [hw0]
    repeat (first | exact Below.refl _ _ | refine Below.alloc ?_ (by simp; try omega) _)
  have hAne : ∀ (a : Addr), A = some a → a.block < w.heap.size := fun a ha => by
    obtain ⟨b, off, e2, hb, _⟩ := g4.2 (by omega)
    rw [ha] at e2; injection e2 with e2; subst e2; exact hb
  have g11 : ∀ a, A2 = some a → a.block + 2 < w.heap.size + 1 + 1 ∨ w.heap.size + 1 + 1 < a.block := fun a ha => by have := g12 a ha; omega
  have H0 : Hid (HAt w0 P (w.heap.size + 1 + 1) h A c A2 n2 c2) := hidb (by
    have e1 : ∀ j, w0.cell? ⟨w.heap.size + 1 + 1, j, none⟩ = (#[Value.int .i64 pg, .slice A 1024 c, .slice A2 n2 c2, .int .i64 la] : Array Value)[j]? := fun j => by rw [hw0, World.cell?_alloc_at _ _ _ _ (by simp)]
    refine ⟨by rw [e1, hpg]; rfl, by rw [e1]; rfl, by rw [e1]; rfl, by rw [e1, hla]; rfl, fun j => by rw [hw0, World.frozen?_alloc_at _ _ _ _ (by simp)], hlen, hn2, g1, g2, (g4.below hb0).more hb0.size, g5, g6, g7, (RowOf.below g8 hb0).more hb0.size, g9, g10, fun a ha => ?_, g11, fun a ha => by have := g12 a ha; have := hb0.size; show a.block < _; omega, hin⟩
    have := hAne a ha
    omega)
  have HGB : Hid (∀ W, w0.grownBy W (some (w.heap.size + 1 + 1)) → (W.cell? ⟨w.heap.size, 0, none⟩ = some (.int .i64 pg) ∧ W.cell? ⟨w.heap.size, 1, none⟩ = some (.slice A 1024 c) ∧ W.cell? ⟨w.heap.size, 2, none⟩ = some (.slice A2 n2 c2) ∧ W.cell? ⟨w.heap.size, 3, none⟩ = some (.int .i64 la)) ∧
      (W.cell? ⟨w.heap.size + 1, 0, none⟩ = some (.int .i64 0) ∧ W.cell? ⟨w.heap.size + 1, 1, none⟩ = some (.slice none 0 0) ∧ W.cell? ⟨w.heap.size + 1, 2, none⟩ = some (.slice none 0 0) ∧ W.cell? ⟨w.heap.size + 1, 3, none⟩ = some (.int .i64 0)) ∧ (∀ j, W.frozen? ⟨w.heap.size + 1, j, none⟩ = false)) := hidb (fun W hg => by
    have h1 := hg.block (w.heap.size) (by omega) (fun e => by injection e with e; omega)
    have h2 := hg.block (w.heap.size + 1) (by omega) (fun e => by injection e with e; omega)
    have e1 : ∀ j, W.cell? ⟨w.heap.size, j, none⟩ = w0.cell? ⟨w.heap.size, j, none⟩ := fun j => World.cell?_of_block (w := w0) (w' := W) (a := ⟨w.heap.size, j, none⟩) h1
    have e2 : ∀ j, W.cell? ⟨w.heap.size + 1, j, none⟩ = w0.cell? ⟨w.heap.size + 1, j, none⟩ := fun j => World.cell?_of_block (w := w0) (w' := W) (a := ⟨w.heap.size + 1, j, none⟩) h2
    refine ⟨⟨?_, ?_, ?_, ?_⟩, ⟨?_, ?_, ?_, ?_⟩, fun j => ?_⟩
    iterate 4 (rw [e1, hw0, World.cell?_alloc_past _ _ _ (by simp; omega), World.cell?_alloc_past _ _ _ (by simp), World.cell?_alloc_at _ _ _ _ rfl]; rfl)
    iterate 4 (rw [e2, hw0, World.cell?_alloc_past _ _ _ (by simp), World.cell?_alloc_at _ _ _ _ (by simp)]; rfl)
    have e3 : W.frozen? ⟨w.heap.size + 1, j, none⟩ = w0.frozen? ⟨w.heap.size + 1, j, none⟩ := by simp [World.frozen?, h2]
    rw [e3, hw0, World.frozen?_alloc_past _ _ _ (by simp), World.frozen?_alloc_at _ _ _ _ (by simp)])
  have HN1 : Hid (∀ W, w0.grownBy W (some (w.heap.size + 1 + 1)) → Below w.heap.size w W) := hidb (fun W hg => hb0.grown hg hb0.size (fun q hq => by injection hq with hq; omega))
  have HB0 := hidb hb0
  have HZ0 := hidb hz0
  have HW0 := hidb hw0
  clear hw0 hz0 hb0 hAne g11
  go_loopw [12] (fun v wr => ∃ (j : Nat) (g : HeapV) (A : Option Addr) (c : Nat) (A2 : Option Addr) (n2' c2 : Nat), j ≤ m ∧ v = .int .i64 j ∧ Hid (dropAll h (ids.take j) = some g) ∧ Hid (HAt wr P (w.heap.size + 1 + 1) g A c A2 n2' c2) ∧ Hid (w0.grownBy wr (some (w.heap.size + 1 + 1))) ∧ n2' ≤ 65536) (fun v _ => (m - intOf v).toNat)
  case atStart => exact ⟨0, h, A, c, A2, n2, c2, by omega, rfl, hidb rfl, H0, hidb ⟨rfl, rfl, rfl, Nat.le_refl _, fun _ _ _ => rfl⟩, hl⟩
  case round =>
    obtain ⟨j, g, B, cB, B2, nB, cB2, hj, rfl, HD, HH, HG, hnB⟩ := hrel
    by_cases hlt : j < m
    · have hbw : ∀ (W : World), w0.grownBy W (some (w.heap.size + 1 + 1)) → ∀ b i, b < w.heap.size → W.cell? ⟨b, i, none⟩ = w.cell? ⟨b, i, none⟩ := fun W hg b i hb => by
        have h1 := hg.block b (by have := HZ0.out; omega) (fun e => by injection e with e; omega)
        rw [World.cell?_of_block (w := w0) (w' := W) (a := ⟨b, i, none⟩) h1, HB0.out.cell (p := ⟨b, i, none⟩) hb]
      obtain ⟨b, off, z, rfl, hbz, hx, hc⟩ := HSI.out.at_ hlt
      rw [List.getElem?_map] at hx
      obtain ⟨id, hid⟩ : ∃ id, ids[j]? = some id := ⟨_, List.getElem?_eq_getElem (by have := HLI.out; omega)⟩
      rw [hid] at hx
      obtain rfl : iv id = z := by simpa using hx
      have HI := hidb hid
      have hcz : wr.cell? ⟨b, off + j, none⟩ = some (.int .i64 id) := (hbw wr HG.out b _ hbz).trans hc
      have c0 := HH.out.c0
      have c1 := HH.out.c1
      have c2x := HH.out.c2'
      have c3 := HH.out.c3
      have cf := ref_hfind g.pages g.last B B2 1024 cB nB cB2 g.l id wr.drew (RowOf.drewN HH.out.s2 1) hnB
      have hi0 : (0 : Int) ≤ (j : Int) := by omega
      have hi1 : (j : Int) < (m : Int) := by omega
      obtain ⟨wo, rfl⟩ : ∃ wo : World, wo = wr := ⟨_, rfl⟩
      clear hid hx hc hbw
      go_wp2
      go_region_held3 (fun W' => W'.cell? ⟨w.heap.size + 1 + 1, 0, none⟩ = some (.int .i64 g.pages) ∧ W'.cell? ⟨w.heap.size + 1 + 1, 1, none⟩ = some (.slice B 1024 cB) ∧ W'.cell? ⟨w.heap.size + 1 + 1, 2, none⟩ = some (.slice B2 nB cB2) ∧ W'.cell? ⟨w.heap.size + 1 + 1, 3, none⟩ = some (.int .i64 g.last) ∧ W'.cell? ⟨b, off + j, none⟩ = some (.int .i64 id)) (go_keep)
        (first | (go_at_call 13; (with_reducible refine cf.mono ?_); rintro e w3 ⟨rfl, hb3'⟩; have hb3 : Below wo.heap.size wo w3 := (Below.refl wo.heap.size wo).drew.trans hb3'; clear hb3'; have H3 := HH.out.below hb3; have y0 := H3.c0; have y1 := H3.c1; have y2 := H3.c2'; have y3 := H3.c3; have y4 : w3.cell? ⟨b, off + j, none⟩ = some (.int .i64 id) := (hb3.cell (p := ⟨b, off + j, none⟩) (lt_of_cell hcz)).trans hcz))
      clear cf
      have HH3 := hidb H3
      have HG3 : Hid (w0.grownBy w3 (some (w.heap.size + 1 + 1))) := hidb (grown_of_below HG.out hb3)
      clear H3 hb3
      cases hfi : g.l.findIdx? (fun s => s.1 == id) with
      | none =>
        have E : hFind g.l id = -1 := by unfold hFind; rw [hfi]; rfl
        have HE : Hid (hDrop h ids = (h, 6)) := hidb (by
          rw [hDrop_all, dropAll_none h ids (j + 1) (by rw [List.take_add_one, HI.out]; show dropAll h (ids.take j ++ [id]) = none; rw [dropAll_snoc, HD.out]; show hDrop1 g id = none; unfold hDrop1; rw [hfi])])
        rw [E]
        have Pn : Hid (∀ W, Below w.heap.size w W → DropIs w P (hDrop h ids) (.returned (.tuple #[.agg #[.int .i64 pg, .slice A 1024 c, .slice A2 n2 c2, .int .i64 la], .int .i64 6])) W) := hidb (fun W hb => by rw [HE.out]; exact ⟨⟨_, rfl, HV.out.below hb⟩, hb⟩)
        obtain ⟨⟨x0, x1, x2, x3⟩, ⟨r0, r1, r2, r3⟩, rz⟩ := HGB.out _ HG3.out
        have z0 := rz 0
        have z1 := rz 1
        have z2 := rz 2
        have z3 := rz 3
        clear hfi E rz
        go_wp2
        obtain ⟨b0, b1, b2, b3⟩ := four_cells w3 (w.heap.size + 1) (.int .i64 pg) (.slice A 1024 c) (.slice A2 n2 c2) (.int .i64 la) _ _ _ _ r0 r1 r2 r3
        have hbf := below_set4 (HN1.out _ HG3.out) (b := w.heap.size + 1) (by omega) (.int .i64 pg) (.slice A 1024 c) (.slice A2 n2 c2) (.int .i64 la)
        exact bodyPost_ret (v := .tuple #[.agg #[.int .i64 pg, .slice A 1024 c, .slice A2 n2 c2, .int .i64 la], .int .i64 6]) (by simp [results, Tryz.results8, go_sem, b0, b1, b2, b3]) rfl (Pn.out _ hbf)
      | some k =>
        have E : hFind g.l id = (k : Int) := by unfold hFind; rw [hfi]; rfl
        have hk : k < g.l.length := (List.findIdx?_eq_some_iff_findIdx_eq.1 hfi).1
        rw [HH3.out.l2] at hk
        have HE1 : Hid (hDrop1 g id = some { g with free := (fPut g.free [((g.l.getD k spanNone).2.1, (g.l.getD k spanNone).2.2.1)] true).1, l := g.l.eraseIdx k }) := hidb (by unfold hDrop1; rw [hfi])
        obtain ⟨b3, off3, yi, ys, yl, yo, rfl, hyk, hd0, hd1, hd2, hd3⟩ := Sn.span HH3.out.s2 hk
        have hyg : g.l.getD k spanNone = (yi, ys, yl, yo) := by rw [List.getD_eq_getElem?_getD, hyk]; rfl
        have hin2 := HH3.out.in64' (yi, ys, yl, yo) (List.mem_of_getElem? hyk)
        simp only at hin2
        obtain ⟨FF, hFF⟩ : ∃ FF, fPut g.free [(ys, yl)] true = FF := ⟨_, rfl⟩
        have CP : Hid (Calls Tryz.prog 24 #[.slice B 1024 cB, .slice (some ⟨w3.heap.size, 0, none⟩) 1 1, .bool true] ((w3.alloc (.cells #[.int .i64 ys, .int .i64 yl] 41)).drew) fun e w' => ∃ A' c', e = .returned (.tuple #[.slice A' 1024 c', .int .i64 FF.2]) ∧ HAt w' P (w.heap.size + 1 + 1) g B cB (some ⟨b3, off3, none⟩) nB cB2 ∧
            HAt (w'.setCell ⟨w.heap.size + 1 + 1, 1, none⟩ (.slice A' 1024 c')) P (w.heap.size + 1 + 1) { g with free := FF.1 } A' c' (some ⟨b3, off3, none⟩) nB cB2 ∧ w0.grownBy (w'.setCell ⟨w.heap.size + 1 + 1, 1, none⟩ (.slice A' 1024 c')) (some (w.heap.size + 1 + 1))) := hidb (by
          have hb : Below w3.heap.size w3 ((w3.alloc (.cells #[.int .i64 ys, .int .i64 yl] 41)).drew) := ((Below.refl _ _).alloc (Nat.le_refl _) _).drew
          have hA := HH3.out.below hb
          refine (ref_fput B (some ⟨w3.heap.size, 0, none⟩) 1024 cB 1 1 g.free [(ys, yl)] true _ hA.s1 (Rn.one ys yl 41) (Nat.le_refl _) (Nat.le_refl _) (by omega) hA.k1 hA.k2 (fun r hr => by rw [List.mem_singleton.1 hr]; exact hin2)).mono ?_
          rw [hFF]
          rintro e w' ⟨A', c', rfl, x1, x2, x3, x4, hb2, x6⟩
          have hfl : FF.1.length = 1024 := by rw [← hFF, fPut_length]; exact HH3.out.l1
          rw [hfl] at x1 x4 ⊢
          have hA2 := hA.below hb2
          have hg2 : w0.grownBy w' (some (w.heap.size + 1 + 1)) := grown_of_below (grown_of_below HG3.out hb) hb2
          have hsz := HG3.out.size
          have hz := HZ0.out
          refine ⟨A', c', rfl, hA2, hA2.setFree A' c' FF.1 hfl x1 x2 x4 ?_ ?_, ?_⟩
          · rcases x6 with x6 | x6
            · rw [x6]; exact HH3.out.p1
            · exact fun a ha => hP _ (by have := x6 a ha; have h2 : w3.heap.size ≤ ((w3.alloc (.cells #[.int .i64 ys, .int .i64 yl] 41)).drew).heap.size := hb.size; omega)
          · rcases x6 with x6 | x6
            · rw [x6]; exact HH3.out.q1
            · exact fun a ha => by
                have := x6 a ha
                have h2 : w3.heap.size ≤ ((w3.alloc (.cells #[.int .i64 ys, .int .i64 yl] 41)).drew).heap.size := hb.size
                omega
          · exact grown_row hg2 1 _)
        have hki0 : (0 : Int) ≤ (k : Int) := by omega
        have hki1 : (k : Int) < (nB : Int) := by omega
        have cp := CP.out
        have hblt : w.heap.size + 1 + 1 < w3.heap.size := by have := HG3.out.size; have := HZ0.out; omega
        have hb3lt := lt_of_cell hd0
        simp only at hb3lt
        rw [E]
        clear hfi E
        go_wp2
        go_cut [12] from 12 to 51 (fun v wx => v = .int .i64 (j : Int) ∧ ∃ A' c', HAt wx P (w.heap.size + 1 + 1) { g with free := FF.1 } A' c' (some ⟨b3, off3, none⟩) nB cB2 ∧ w0.grownBy wx (some (w.heap.size + 1 + 1)))
        case first =>
          go_region_law (first | (go_simp; go_at_call 24; (with_reducible refine cp.mono ?_); rintro e w5 ⟨A5, c5, rfl, hH5, hS5, hG5⟩; have v0 := hH5.c0; have v1 := hH5.c1; have v2 := hH5.c2'; have v3 := hH5.c3; have vz := hH5.fr 1))
          all_goals
            go_wp2_with fail
            go_meet
            exact ⟨rfl, A5, c5, hS5, hG5⟩
        case rest =>
          obtain ⟨rfl, A5, c5, hH5, hG5⟩ := hcut
          obtain ⟨W4, hW4⟩ : ∃ W4, W4 = wc := ⟨_, rfl⟩
          rw [← hW4] at hH5 hG5 ⊢
          obtain ⟨j0, hji, hjz0, hjz1, hjz2⟩ := info_parts info_span
          have HH5 := hidb hH5
          have HG5 := hidb hG5
          have hl5 : g.l.length = nB := hH5.l2
          have HCA : Hid (∀ W, Below W4.heap.size W4 W → CellsAt W (some ⟨b3, off3, none⟩) (cellsAll scells (g.l.take k))) := hidb (fun W hb ad e q u hq => by
            refine Sn.cellsAt (HH5.out.below hb).s2 ad e q u ?_
            have : (cellsAll scells g.l) = cellsAll scells (g.l.take k) ++ cellsAll scells (g.l.drop k) := by rw [← cellsAll_append, List.take_append_drop]
            show (cellsAll scells g.l)[q]? = _
            rw [this, List.getElem?_append_left (List.getElem?_eq_some_iff.1 hq).1, hq])
          have HCB : Hid (∀ W, Below W4.heap.size W4 W → CellsAt W (some ⟨b3, off3 + (k + 1) * 4, none⟩) (cellsAll scells (g.l.drop (k + 1)))) := hidb (fun W hb ad e q u hq => by
            injection e with e
            subst e
            have h2 := Sn.cellsAt (HH5.out.below hb).s2 ⟨b3, off3, none⟩ rfl ((k + 1) * 4 + q) u (by
              have : (cellsAll scells g.l) = cellsAll scells (g.l.take (k + 1)) ++ cellsAll scells (g.l.drop (k + 1)) := by rw [← cellsAll_append, List.take_append_drop]
              show (cellsAll scells g.l)[_]? = _
              have hl : (cellsAll scells (g.l.take (k + 1))).length = (k + 1) * 4 := by rw [cellsAll_length scells_len, List.length_take]; congr 1; omega
              rw [this, List.getElem?_append_right (by omega), hl, show (k + 1) * 4 + q - (k + 1) * 4 = q by omega, hq])
            rw [Go.WideShapes.add_plain] at h2 ⊢
            rw [← h2]
            congr 2
            omega)
          have HL1 : Hid ((cellsAll scells (g.l.take k)).length = k * 4) := hidb (by rw [cellsAll_length scells_len, List.length_take]; congr 1; omega)
          have HL2' : Hid ((cellsAll scells (g.l.drop (k + 1))).length = (nB - (k + 1)) * 4) := hidb (by rw [cellsAll_length scells_len, List.length_drop, hl5])
          have HO1 : Hid (∀ u ∈ cellsAll scells (g.l.take k), u.oneCell' = true) := hidb scells_one
          have HO2 : Hid (∀ u ∈ cellsAll scells (g.l.drop (k + 1)), u.oneCell' = true) := hidb scells_one
          have HF5 : Hid (∀ W, Below W4.heap.size W4 W → W.cell? ⟨w.heap.size + 1 + 1, 2, none⟩ = some (.slice (some ⟨b3, off3, none⟩) nB cB2) ∧ W.frozen? ⟨w.heap.size + 1 + 1, 2, none⟩ = false) := hidb (fun W hb => ⟨(HH5.out.below hb).c2', (HH5.out.below hb).fr 2⟩)
          obtain ⟨n0, nz⟩ := HF5.out W4 (Below.refl _ _)
          have hcap := hH5.k5
          have hcap2 := hH5.k6
          have hb2lt : w.heap.size + 1 + 1 < W4.heap.size := lt_of_cell hH5.c0
          have HW4 := hidb hW4
          clear hH5 hG5 hW4 hl5
          have HPE : Hid (∀ A' c' w6, Below W4.heap.size W4 w6 → w6.ownsRow W4.heap.size 43 4 (.slice A' (k + (nB - (k + 1))) c') (k + (nB - (k + 1))) (cellsAll scells (g.l.take k) ++ cellsAll scells (g.l.drop (k + 1))) →
              ∃ (j' : Nat) (g : HeapV) (A : Option Addr) (c : Nat) (A2 : Option Addr) (n2' c2 : Nat), j' ≤ m ∧ Value.int .i64 ((j : Int) + 1) = .int .i64 j' ∧ Hid (dropAll h (ids.take j') = some g) ∧ Hid (HAt (w6.setCell ⟨w.heap.size + 1 + 1, 2, none⟩ (.slice A' (k + (nB - (k + 1))) c')) P (w.heap.size + 1 + 1) g A c A2 n2' c2) ∧ Hid (w0.grownBy (w6.setCell ⟨w.heap.size + 1 + 1, 2, none⟩ (.slice A' (k + (nB - (k + 1))) c')) (some (w.heap.size + 1 + 1))) ∧ n2' ≤ 65536) := hidb (fun A' c' w6 hb ho => by
            have hcaps := own_caps4 ho
            have hlt := HH5.out.c0
            rw [← cellsAll_append, ← List.eraseIdx_eq_take_drop_succ] at ho
            have hl5' : g.l.length = nB := HH5.out.l2
            have hle : (g.l.eraseIdx k).length = k + (nB - (k + 1)) := by rw [List.length_eraseIdx, if_pos (by omega)]; omega
            have hblk : ∀ a, A' = some a → W4.heap.size ≤ a.block ∧ a.block < w6.heap.size := fun a ha => ho.lt a.block (by rw [ha]; rfl)
            have hwz := HG5.out.size
            have hwz2 := HZ0.out
            have hH := (HH5.out.below hb).setSpans A' (k + (nB - (k + 1))) c' (g.l.eraseIdx k) hle hcaps.1 hcaps.2.1 hcaps.2.2 (RowOf.of_own scells_len ho hle) (fun a ha => hP _ (by have := hblk a ha; omega)) (fun a ha => by have := hblk a ha; omega) (fun y hy => HH5.out.in64' y (List.mem_of_mem_eraseIdx hy)) (fun a ha => (hblk a ha).2)
            refine ⟨j + 1, _, _, _, _, _, _, by omega, by go_num, ?_, hidb hH, hidb ?_, by omega⟩
            · refine hidb ?_
              rw [List.take_add_one, HI.out]
              show dropAll h (ids.take j ++ [id]) = _
              rw [dropAll_snoc, HD.out]
              show hDrop1 g id = _
              rw [HE1.out, hyg, hFF]
            · have hgr := grown_row (grown_of_below HG5.out hb) 2 (.slice A' (k + (nB - (k + 1))) c')
              exact hgr)
          clear cp CP HE1 HH HG HH3 HG3 HD HSI HV HB0 HW0 HN1 HGB H0 g1 g2 g4 g5 g6 g7 g8 g9 g10 g12 HH5 HG5 HI c0 c1 c2x c3 y0 y1 y2 y3 y4 hd0 hd1 hd2 hd3 hyk hyg hin2 hFF hP hcz hin hla hpg hn2 hlen
          have hw1 : IntKind.i64.wrap ((k : Int) + 1) = (k : Int) + 1 := IntWalk.i64_in _ (by omega)
          have hs1 : (k : Int) ≤ (cB2 : Int) := by omega
          have hs2 : (k : Int) + 1 ≤ (nB : Int) := by omega
          have hs3 : (nB : Int) ≤ (cB2 : Int) := by omega
          have hs4 : (0 : Int) ≤ (k : Int) + 1 := by omega
          have hs5 : ((k : Int) + 1).toNat = k + 1 := by omega
          by_cases hkc : k + 1 < cB2
          · have hne : ¬ cB2 = k + 1 := by omega
            go_wp2
            go_region_law
              (first
                | (refine step_append_row rfl (.tmp 38) (.tmp 42) 29 rfl W4.heap.size 43 j0 (.agg #[.int .i64 0, .int .i64 0, .int .i64 0, .int .i64 0]) 4 32 Tryz.underlying29 hji hjz0 hjz1 hjz2 rfl (by decide) _ 0 [] rfl (own_empty' _ _ _ _ _ (by first | rfl | simp) (by first | exact Nat.le_refl _ | simp)).drew (by first | omega | (simp; done) | (simp; omega)) (some ⟨b3, off3, none⟩) k cB2 (cellsAll scells (g.l.take k)) rfl HL1.out (fun h => by cases h) (HCA.out _ (by repeat (first | assumption | exact Below.refl _ _ | refine Below.drew ?_ | refine Below.alloc ?_ (by first | omega | (simp; done) | (simp; omega)) _))) HO1.out (by unfold maxLen; omega) (by omega) ?_; intro A8 c8 w8 hown8 hg8; have hB8 : Below W4.heap.size W4 w8 := Below.grown (by repeat (first | assumption | exact Below.refl _ _ | refine Below.drew ?_ | refine Below.alloc ?_ (by first | omega | (simp; done) | (simp; omega)) _)) hg8 (by first | omega | (simp; done) | (simp; omega)) (fun q hq => own_ge hq (by first | omega | (simp; done) | (simp; omega))); have hz8 : W4.heap.size ≤ w8.heap.size := hB8.size; obtain ⟨v0, vz⟩ := HF5.out _ hB8; have vlt : w.heap.size + 1 + 1 < w8.heap.size := (by omega); rw [List.nil_append, Nat.zero_add] at hown8; have hown8' : w8.ownsRow W4.heap.size 43 4 (.slice A8 (0 + k) c8) k (cellsAll scells (g.l.take k)) := (by rw [Nat.zero_add]; exact hown8))
                | (refine step_append_row rfl (.tmp 43) (.tmp 48) 29 rfl W4.heap.size 43 j0 (.agg #[.int .i64 0, .int .i64 0, .int .i64 0, .int .i64 0]) 4 32 Tryz.underlying29 hji hjz0 hjz1 hjz2 rfl (by decide) _ k (cellsAll scells (g.l.take k)) rfl (by first | exact hown8 | exact hown8') (by first | omega | (simp; done) | (simp; omega)) (some ⟨b3, off3 + (k + 1) * 4, none⟩) (nB - (k + 1)) (cB2 - (k + 1)) (cellsAll scells (g.l.drop (k + 1))) rfl HL2'.out (fun h => by cases h) (HCB.out _ (by repeat (first | assumption | exact Below.refl _ _ | refine Below.drew ?_ | refine Below.alloc ?_ (by first | omega | (simp; done) | (simp; omega)) _))) HO2.out (by unfold maxLen; omega) (by omega) ?_; intro A6 c6 w6 hown6 hg6; have hB6 : Below W4.heap.size W4 w6 := Below.grown (by repeat (first | assumption | exact Below.refl _ _ | refine Below.drew ?_ | refine Below.alloc ?_ (by first | omega | (simp; done) | (simp; omega)) _)) hg6 (by first | omega | (simp; done) | (simp; omega)) (by first | exact fun q hq => (hown8.lt q hq).1 | exact fun q hq => (hown8'.lt q hq).1); have hz6 : W4.heap.size ≤ w6.heap.size := hB6.size; obtain ⟨m2, m2z⟩ := HF5.out _ hB6; have HO6 := hidb hown6; have HB6 := hidb hB6; clear hown6 hg6))
            all_goals
              go_wp2
              go_roundw
              case rel => exact HPE.out _ _ _ HB6.out HO6.out
              case measure => simp [intOf]; omega
          · have e1 : cB2 = k + 1 := by omega
            have e2 : nB = k + 1 := by omega
            subst e1
            have HE2 := hidb e2
            have hd : Hid (cellsAll scells (g.l.drop (k + 1)) = []) := hidb (by
              have := HL2'.out
              rw [HE2.out, Nat.sub_self, Nat.zero_mul] at this
              exact List.eq_nil_of_length_eq_zero this)
            have HPE2 : Hid (∀ A' c' w6, Below W4.heap.size W4 w6 → w6.ownsRow W4.heap.size 43 4 (.slice A' k c') k (cellsAll scells (g.l.take k)) →
              ∃ (j' : Nat) (g : HeapV) (A : Option Addr) (c : Nat) (A2 : Option Addr) (n2' c2 : Nat), j' ≤ m ∧ Value.int .i64 ((j : Int) + 1) = .int .i64 j' ∧ Hid (dropAll h (ids.take j') = some g) ∧ Hid (HAt (w6.setCell ⟨w.heap.size + 1 + 1, 2, none⟩ (.slice A' k c')) P (w.heap.size + 1 + 1) g A c A2 n2' c2) ∧ Hid (w0.grownBy (w6.setCell ⟨w.heap.size + 1 + 1, 2, none⟩ (.slice A' k c')) (some (w.heap.size + 1 + 1))) ∧ n2' ≤ 65536) := hidb (fun A' c' w6 x1 x2 => by
              have := HPE.out A' c' w6 x1
              rw [show k + (nB - (k + 1)) = k by omega, hd.out, List.append_nil] at this
              exact this x2)
            clear e2 hs1
            have hs6 : (k : Int) ≤ (k : Int) + 1 := by omega
            have hs7 : (nB : Int) ≤ (k : Int) + 1 := by have := HE2.out; omega
            clear hs3
            go_wp2
            go_region_law
              (first
                | (refine step_append_row rfl (.tmp 38) (.tmp 42) 29 rfl W4.heap.size 43 j0 (.agg #[.int .i64 0, .int .i64 0, .int .i64 0, .int .i64 0]) 4 32 Tryz.underlying29 hji hjz0 hjz1 hjz2 rfl (by decide) _ 0 [] rfl (own_empty' _ _ _ _ _ (by first | rfl | simp) (by first | exact Nat.le_refl _ | simp)).drew (by first | omega | (simp; done) | (simp; omega)) (some ⟨b3, off3, none⟩) k (k + 1) (cellsAll scells (g.l.take k)) rfl HL1.out (fun h => by cases h) (HCA.out _ (by repeat (first | assumption | exact Below.refl _ _ | refine Below.drew ?_ | refine Below.alloc ?_ (by first | omega | (simp; done) | (simp; omega)) _))) HO1.out (by unfold maxLen; omega) (by omega) ?_; intro A8 c8 w8 hown8 hg8; have hB8 : Below W4.heap.size W4 w8 := Below.grown (by repeat (first | assumption | exact Below.refl _ _ | refine Below.drew ?_ | refine Below.alloc ?_ (by first | omega | (simp; done) | (simp; omega)) _)) hg8 (by first | omega | (simp; done) | (simp; omega)) (fun q hq => own_ge hq (by first | omega | (simp; done) | (simp; omega))); have hz8 : W4.heap.size ≤ w8.heap.size := hB8.size; obtain ⟨v0, vz⟩ := HF5.out _ hB8; have vlt : w.heap.size + 1 + 1 < w8.heap.size := (by omega); rw [List.nil_append, Nat.zero_add] at hown8; have hown8' : w8.ownsRow W4.heap.size 43 4 (.slice A8 (0 + k) c8) k (cellsAll scells (g.l.take k)) := (by rw [Nat.zero_add]; exact hown8))
                | (refine step_append_row rfl (.tmp 43) (.tmp 48) 29 rfl W4.heap.size 43 j0 (.agg #[.int .i64 0, .int .i64 0, .int .i64 0, .int .i64 0]) 4 32 Tryz.underlying29 hji hjz0 hjz1 hjz2 rfl (by decide) _ k (cellsAll scells (g.l.take k)) rfl (by first | exact hown8 | exact hown8') (by first | omega | (simp; done) | (simp; omega)) (some ⟨b3, off3, none⟩) 0 0 [] rfl rfl (fun h => by cases h) (fun ad e q u hq => by simp at hq) (fun u hu => by cases hu) (by unfold maxLen; omega) (by omega) ?_; intro A6 c6 w6 hown6 hg6; have hB6 : Below W4.heap.size W4 w6 := Below.grown (by repeat (first | assumption | exact Below.refl _ _ | refine Below.drew ?_ | refine Below.alloc ?_ (by first | omega | (simp; done) | (simp; omega)) _)) hg6 (by first | omega | (simp; done) | (simp; omega)) (by first | exact fun q hq => (hown8.lt q hq).1 | exact fun q hq => (hown8'.lt q hq).1); have hz6 : W4.heap.size ≤ w6.heap.size := hB6.size; obtain ⟨m2, m2z⟩ := HF5.out _ hB6; have HO6 := hidb hown6; have HB6 := hidb hB6; clear hown6 hg6))
            all_goals
              go_wp2
              go_roundw
              case rel => exact HPE2.out _ _ _ HB6.out (by have := HO6.out; rwa [Nat.add_zero, List.append_nil] at this)
              case measure => simp [intOf]; omega
    · have hall : Hid (ids.take j = ids) := hidb (List.take_of_length_le (by have := HLI.out; omega))
      have HE : Hid (hDrop h ids = (g, 0)) := hidb (by
        have := HD.out
        rw [hall.out] at this
        rw [hDrop_all, this])
      have hne1 : ∀ a, B = some a → a.block ≠ w.heap.size + 1 := fun a ha => by have := HH.out.q1 a ha; omega
      have hne2 : ∀ a, B2 = some a → a.block ≠ w.heap.size + 1 := fun a ha => by have := HH.out.q2 a ha; omega
      have hbf := below_set4 (HN1.out _ HG.out) (b := w.heap.size + 1) (by omega) (.int .i64 g.pages) (.slice B 1024 cB) (.slice B2 nB cB2) (.int .i64 g.last)
      have hs1 := (HH.out.s1.aside4 (b := w.heap.size + 1) hne1 (.int .i64 g.pages) (.slice B 1024 cB) (.slice B2 nB cB2) (.int .i64 g.last)).more (B' := ((((wr.setCell ⟨w.heap.size + 1, 0, none⟩ (.int .i64 g.pages)).setCell ⟨w.heap.size + 1, 1, none⟩ (.slice B 1024 cB)).setCell ⟨w.heap.size + 1, 2, none⟩ (.slice B2 nB cB2)).setCell ⟨w.heap.size + 1, 3, none⟩ (.int .i64 g.last)).heap.size) (by simp)
      have hs2 := (RowOf.aside (RowOf.aside (RowOf.aside (RowOf.aside HH.out.s2 (p := ⟨w.heap.size + 1, 0, none⟩) hne2 (.int .i64 g.pages)) (p := ⟨w.heap.size + 1, 1, none⟩) hne2 (.slice B 1024 cB)) (p := ⟨w.heap.size + 1, 2, none⟩) hne2 (.slice B2 nB cB2)) (p := ⟨w.heap.size + 1, 3, none⟩) hne2 (.int .i64 g.last)).more (B' := ((((wr.setCell ⟨w.heap.size + 1, 0, none⟩ (.int .i64 g.pages)).setCell ⟨w.heap.size + 1, 1, none⟩ (.slice B 1024 cB)).setCell ⟨w.heap.size + 1, 2, none⟩ (.slice B2 nB cB2)).setCell ⟨w.heap.size + 1, 3, none⟩ (.int .i64 g.last)).heap.size) (by simp)
      have Pn : Hid (DropIs w P (hDrop h ids) (.returned (.tuple #[.agg #[.int .i64 g.pages, .slice B 1024 cB, .slice B2 nB cB2, .int .i64 g.last], .int .i64 0])) ((((wr.setCell ⟨w.heap.size + 1, 0, none⟩ (.int .i64 g.pages)).setCell ⟨w.heap.size + 1, 1, none⟩ (.slice B 1024 cB)).setCell ⟨w.heap.size + 1, 2, none⟩ (.slice B2 nB cB2)).setCell ⟨w.heap.size + 1, 3, none⟩ (.int .i64 g.last))) := hidb (by
        rw [HE.out]
        exact ⟨⟨_, rfl, his_of (h := g) HH.out.l1 HH.out.l2 rfl rfl HH.out.k1 HH.out.k2 (fun e => by
          obtain ⟨b, off, e2, _⟩ := HH.out.s1.2 (by omega)
          rw [e] at e2; cases e2) hs1 HH.out.k5 HH.out.k6 HH.out.k7 hs2 HH.out.p1 HH.out.p2 (fun a ha => by have := HH.out.q3 a ha; simp; omega)⟩, hbf⟩)
      clear hne1 hne2 hbf hs1 hs2
      obtain ⟨_, ⟨r0, r1, r2, r3⟩, rz⟩ := HGB.out _ HG.out
      have z0 := rz 0
      have z1 := rz 1
      have z2 := rz 2
      have z3 := rz 3
      have c0 := HH.out.c0
      have c1 := HH.out.c1
      have c2x := HH.out.c2'
      have c3 := HH.out.c3
      clear rz
      go_wp2
      obtain ⟨b0, b1, b2, b3⟩ := four_cells wr (w.heap.size + 1) (.int .i64 g.pages) (.slice B 1024 cB) (.slice B2 nB cB2) (.int .i64 g.last) _ _ _ _ r0 r1 r2 r3
      exact bodyPost_ret (v := .tuple #[.agg #[.int .i64 g.pages, .slice B 1024 cB, .slice B2 nB cB2, .int .i64 g.last], .int .i64 0]) (by simp [results, Tryz.results8, go_sem, b0, b1, b2, b3]) rfl Pn.out

end Go.Proofs.YtcngcibiibchiaaGreat
