/- What Set of layer 5 (index) does. -/
import Derived.Test.YtoghahldlnhpdaaIndexAsk2
import Derived.Test.YtoghahldlnhpdaaIndexWrite
import Derived.Test.YtoghahldlnhpdaaIndexSet0
namespace Go.Proofs.Ytoghahldlnhpdaa
open Go.RowKit
set_option linter.unusedVariables false

/-- Which pages were met. -/
def metRow (n : Nat) (d : List Nat) : List Value := (List.range n).map fun q => .bool (d.contains q)
theorem metRow_at (n : Nat) (d : List Nat) (q : Nat) (hq : q < n) : (metRow n d)[q]? = some (.bool (d.contains q)) := by
  unfold metRow; rw [List.getElem?_map, List.getElem?_range hq]; rfl
theorem metRow_set (n : Nat) (d : List Nat) (p : Nat) (hp : p < n) : (metRow n d).set p (.bool true) = metRow n (d ++ [p]) := by
  apply List.ext_getElem?
  intro q
  by_cases hq : q < n
  · rw [List.getElem?_set, metRow_at n _ q hq, metRow_at n _ q hq]
    by_cases h : p = q
    · subst h; simp [metRow, hp]
    · simp [h, Ne.symm h]
  · rw [List.getElem?_eq_none (by simp [metRow]; omega), List.getElem?_eq_none (by simp [metRow]; omega)]

/-- What holds while Set asks: the index as it was, its captured variables, and which pages were met. -/
structure SetI (W0 : World) (B p g n : Nat) (ids : List Int) (tm gm tx : Nat) (d : List Nat) (W : World) : Prop where
  ix : Ix W B p g n ids
  cm : W.cell? ⟨tm, 0, none⟩ = some (.slice (some ⟨gm, 0, none⟩) n n)
  cx : W.cell? ⟨tx, 0, none⟩ = some (.pointer (some ⟨p, 0, none⟩))
  met : W.heap[gm]? = some (.cells (metRow n d).toArray 4 (0, 0))
  bel : Below W0.heap.size W0 W
  gge : W0.heap.size ≤ gm
  np : p ≠ gm
  ng : g ≠ gm
  nm : tm ≠ gm
  nx : tx ≠ gm

theorem SetI.keep {W0 W W' : World} {B p g n : Nat} {ids : List Int} {tm gm tx : Nat} {d : List Nat} (h : SetI W0 B p g n ids tm gm tx d W) (hb : Below W.heap.size W W') : SetI W0 B p g n ids tm gm tx d W' :=
  ⟨h.ix.below hb (Nat.le_refl _), (hb.cell (lt_of_cell h.cm)).trans h.cm, (hb.cell (lt_of_cell h.cx)).trans h.cx, (hb.block _ (Array.getElem?_eq_some_iff.1 h.met).1).trans h.met, h.bel.trans (hb.mono h.bel.size), h.gge, h.np, h.ng, h.nm, h.nx⟩

theorem code_xset2 {W0 : World} {B p g n : Nat} {ids : List Int} {tm gm tx : Nat} (d : List Nat) (page : Nat) (W : World) (h : SetI W0 B p g n ids tm gm tx d W) (hp : page < n) :
    Calls Try.prog 27 #[.int .i64 (page : Int), .pointer (some ⟨tm, 0, none⟩), .pointer (some ⟨tx, 0, none⟩)] W fun e w' => e = .returned (.bool (okOne ids false d page)) ∧ W.grownBy w' (some gm) ∧ SetI W0 B p g n ids tm gm tx (d ++ [page]) w' := by
  have h1 := h.ix.cell
  have h2 := h.ix.int_ hp
  have h3 := h.ix.small
  have h4 := h.cm
  have h5 := h.cx
  have h6 : W.cell? ⟨gm, page, none⟩ = some (.bool (d.contains page)) := by simp [World.cell?, h.met, metRow_at n d page hp]
  have h7 : W.frozen? ⟨gm, page, none⟩ = false := by simp [World.frozen?, h.met]
  have HK : Hid (W.grownBy (W.setCell ⟨gm, page, none⟩ (.bool true)) (some gm) ∧ SetI W0 B p g n ids tm gm tx (d ++ [page]) (W.setCell ⟨gm, page, none⟩ (.bool true))) := hidb (by
    have hg : W.grownBy (W.setCell ⟨gm, page, none⟩ (.bool true)) (some gm) := grown_row (grown_refl W) page _
    refine ⟨hg, h.ix.grown hg h.np h.ng, hg.cell h.cm (fun e => h.nm (by injection e)), hg.cell h.cx (fun e => h.nx (by injection e)), ?_, h.bel.grown hg h.bel.size (fun k hk => by cases hk; exact h.gge), h.gge, h.np, h.ng, h.nm, h.nx⟩
    rw [heap_setCell_same W gm page _ 4 _ h.met]
    simp [← metRow_set n d page hp])
  have E : okOne ids false d page = (ids.getD page 0 == 0 && !d.contains page) := by simp [okOne]
  have n1 := h.np
  have n2 := h.ng
  have n3 := h.nm
  have n4 := h.nx
  rw [E]
  obtain ⟨y, hy⟩ : ∃ y, ids.getD page 0 = y := ⟨_, rfl⟩
  obtain ⟨z, hz⟩ : ∃ z, d.contains page = z := ⟨_, rfl⟩
  rw [hy] at h2 ⊢
  rw [hz] at h6 ⊢
  have hp0 : (0 : Int) ≤ (page : Int) := by omega
  have hp1 : (page : Int) < (n : Int) := by omega
  have k1 : (W.setCell ⟨gm, page, none⟩ (.bool true)).cell? ⟨tx, 0, none⟩ = some (.pointer (some ⟨p, 0, none⟩)) := HK.out.2.cx
  have k2 : (W.setCell ⟨gm, page, none⟩ (.bool true)).cell? ⟨p, 0, none⟩ = some (.slice (some ⟨g, 0, none⟩) n n) := HK.out.2.ix.cell
  have k3 : (W.setCell ⟨gm, page, none⟩ (.bool true)).cell? ⟨g, page, none⟩ = some (.int .i64 y) := by rw [HK.out.2.ix.int_ hp, hy]
  clear h hy hz E h1 h2 h5
  by_cases c : y = 0
  · have c2 : (y == 0) = true := by simpa using c
    rw [c2]
    clear c
    go_enter Try.func27, Try.ntmps27
    go_wp2
    go_ret
    exact ⟨by cases z <;> rfl, HK.out⟩
  · have c2 : (y == 0) = false := by simpa using c
    rw [c2]
    clear c
    go_enter Try.func27, Try.ntmps27
    go_wp2
    go_ret
    exact ⟨rfl, HK.out⟩

theorem asks_set {W0 : World} {B p g n : Nat} {ids : List Int} {tm gm tx : Nat} :
    Asks 27 #[.pointer (some ⟨tm, 0, none⟩), .pointer (some ⟨tx, 0, none⟩)] n gm (okOne ids false) (SetI W0 B p g n ids tm gm tx) W0 :=
  ⟨fun d pg W h hp => code_xset2 d pg W h hp, fun d W W' h hb => h.keep hb, fun d W h => h.bel⟩

/-- What Set and Drop answer, and leave. -/
def PutEnd (w : World) (B p g n : Nat) (r : List Int × Int) (e : Ending) (w' : World) : Prop := e = .returned (.int .i64 r.2) ∧ Ix w' B p g n r.1 ∧ w.grownBy w' (some g)


/-- A page below 1 has no number: Set is refused. -/
theorem code_xset_less {a : Option Addr} (id : Int) (A : Option Addr) (m c : Nat) (w : World) (h : id < 1) (h0 : -9223372036854775808 ≤ id) :
    Calls Try.prog 12 #[.pointer a, .int .i64 id, .slice A m c] w fun e w' => e = .returned (.int .i64 1) ∧ Below w.heap.size w w' := by
  go_enter_defers Try.func12, Try.ntmps12
  go_wp2
  refine leaves_cons (f := 26) (args := #[.pointer (some ⟨w.heap.size + 1, 0, none⟩)]) (by simp) (by simp [go_sem]) ?_
  refine (catch_set 56 1 (fun w => code_told1 w) ⟨w.heap.size + 1, 0, none⟩ 0 _ (by simp) (by simp) (by simp [go_sem])).mono ?_
  rintro e u' w'' ⟨rfl, rfl, rfl⟩
  simp [Leaves, settle, results, Try.results12, go_sem]
  exact (((Below.refl _ _).alloc (Nat.le_refl _) _).alloc (by simp) _).alloc (by simp; omega) _


theorem info_bool : (Try.prog.info? 4).map (fun i => (i.zero, i.size, i.bytes)) = some (some (.bool false), 1, 1) := by kernel_rfl
theorem met_none (n : Nat) : (madeCells (Value.bool false).cells (n * 1)).toList = metRow n [] := by
  rw [Nat.mul_one]
  refine (toList_madeCells_one _ n).trans ?_
  apply List.ext_getElem?
  intro q
  by_cases hq : q < n
  · rw [metRow_at n _ q hq]; simp [hq]
  · rw [List.getElem?_eq_none (by simp; omega), List.getElem?_eq_none (by simp [metRow]; omega)]
theorem heap_of_row {w : World} {base : Nat} {e : TypeId} {g n : Nat} {xs : List Value} (h : w.ownsRow base e 1 (.slice (some ⟨g, 0, none⟩) n n) n xs) : w.heap[g]? = some (.cells xs.toArray e (0, 0)) := by
  rcases h.2 with ⟨h1, _⟩ | ⟨g', cap, cur, h1, _, hh, _, _, hs, ht⟩
  · cases h1
  · injection h1 with h2 h3 h4
    injection h2 with h2
    injection h2 with h2
    subst h2 h4
    rw [hh, ← ht, List.take_of_length_le (by simp [hs])]

theorem Ix.setNew {w : World} {B p g n : Nat} {ids : List Int} (h : Ix w B p g n ids) {a : Addr} (hp : a.block ≠ p) (hg : a.block ≠ g) (u : Value) : Ix (w.setCell a u) B p g n ids :=
  ⟨(World.cell?_setCell_other w a _ _ (fun e => hp (by rw [e]))).trans h.cell, (heap_setCell_other w a g u (fun e => hg e.symm)).trans h.heap, h.hlen, h.ge, h.geg, h.ne, h.small⟩

/-- Behind what was written, and told. -/
theorem putEnd_ok {w w5 : World} {B p g n e : Nat} {ids : List Int} (hx : Ix w5 B p g n ids) (hg : w.grownBy w5 (some g)) (he : w.heap.size ≤ e) (hp : p < w.heap.size) (hgl : g < w.heap.size) (no : Int) (u v : Value) :
    PutEnd w B p g n (ids, no) (.returned (.int .i64 no)) ((w5.setCell ⟨e, 0, none⟩ u).setCell ⟨e, 0, none⟩ v) :=
  ⟨rfl, (hx.setNew (a := ⟨e, 0, none⟩) (by show e ≠ p; omega) (by show e ≠ g; omega) u).setNew (a := ⟨e, 0, none⟩) (by show e ≠ p; omega) (by show e ≠ g; omega) v,
    grown_new (grown_new hg (a := ⟨e, 0, none⟩) he u) (a := ⟨e, 0, none⟩) he v⟩
/-- Behind what was thrown, and told. -/
theorem putEnd_no {w w5 : World} {B p g n e : Nat} {ids : List Int} (hx : Ix w B p g n ids) (hb : Below w.heap.size w w5) (he : w.heap.size ≤ e) (no : Int) (T : TypeId) (v : Value) :
    PutEnd w B p g n (ids, no) (.returned (.int .i64 no)) ((w5.alloc (.cells #[] T)).setCell ⟨e, 0, none⟩ v) := by
  have h : Below w.heap.size w ((w5.alloc (.cells #[] T)).setCell ⟨e, 0, none⟩ v) := (hb.alloc hb.size _).setCell he v
  exact ⟨rfl, hx.below h (Nat.le_refl _), below_to_grown h _⟩

theorem told_cell {w : World} {e : Addr} {u : Value} (h : w.cell? e = some u) (T : TypeId) (v : Value) : ((w.alloc (.cells #[] T)).setCell e v).cell? e = some v :=
  World.cell?_setCell_same _ _ _ (by rw [World.cell?_alloc_lt _ _ _ (lt_of_cell h)]; exact h)

set_option maxHeartbeats 2000000 in
theorem code_xset {p g n B : Nat} {ids : List Int} (id : Int) (A : Option Addr) (m c : Nat) (rs : List (Int × Int)) (w : World) (hx : Ix w B p g n ids) (hap : ∀ b off, 0 < m → A = some ⟨b, off, none⟩ → b ≠ g)
    (hs : Rn w w.heap.size A m rs) (hm : m ≤ 65536) (hr : ∀ r ∈ rs, in64 r.1 ∧ in64 r.2) (h0 : in64 id) :
    Calls Try.prog 12 #[.pointer (some ⟨p, 0, none⟩), .int .i64 id, .slice A m c] w (PutEnd w B p g n (xPut ids id rs false)) := by
  by_cases hid : id < 1
  · refine (code_xset_less id A m c w hid h0.1).mono ?_
    rintro e w' ⟨rfl, hb⟩
    rw [xPut_less ids id rs hid]
    exact ⟨rfl, hx.below hb (Nat.le_refl _), below_to_grown hb _⟩
  obtain ⟨i0, hi, hz0, hz1, hz2⟩ := info_parts info_bool
  have hlg := hx.lt
  have hlp := hx.ltp
  have hn := hx.small
  have cp := fun W h => hx.pages W h
  have h01 := h0.2
  have HX := hidb hx
  have HL := hidb hx.hlen
  have HAP := hidb hap
  have HS := hidb hs
  have HR := hidb hr
  have hid1 : false = false → 1 ≤ id := fun _ => by omega
  obtain ⟨N, hN⟩ : ∃ N, (xPut ids id rs false) = N := ⟨_, rfl⟩
  rw [hN]
  have HN := hidb hN
  have HB1 : Hid (∀ W1, W1 = (w.alloc (.cells #[.pointer (some ⟨p, 0, none⟩)] 24)).alloc (.cells #[.int .i64 0] 33) → Below w.heap.size w W1 ∧ W1.heap.size = w.heap.size + 1 + 1 ∧ W1.cell? ⟨w.heap.size, 0, none⟩ = some (.pointer (some ⟨p, 0, none⟩)) ∧ W1.cell? ⟨w.heap.size + 1, 0, none⟩ = some (.int .i64 0) ∧ W1.frozen? ⟨w.heap.size + 1, 0, none⟩ = false) := hidb (by
    rintro W1 rfl
    exact ⟨((Below.refl _ _).alloc (Nat.le_refl _) _).alloc (by simp) _, by simp, by rw [World.cell?_alloc_lt _ _ _ (by simp)]; simp, by simp, by simp [go_sem]⟩)
  have HSI : Hid (∀ W1 w1, W1 = (w.alloc (.cells #[.pointer (some ⟨p, 0, none⟩)] 24)).alloc (.cells #[.int .i64 0] 33) → w1.ownsRow w.heap.size 4 1 (.slice (some ⟨W1.heap.size, 0, none⟩) n n) n (madeCells (Value.bool false).cells (n * 1)).toList → W1.grownBy w1 none →
      SetI W1 B p g n ids w1.heap.size (w.heap.size + 1 + 1) w.heap.size [] (w1.alloc (.cells #[.slice (some ⟨w.heap.size + 1 + 1, 0, none⟩) n n] 57))) := hidb (fun W1 w1 h1 hown hgrow => by
    obtain ⟨b1, b2, b3, b4, b5⟩ := HB1.out W1 h1
    rw [b2, met_none] at hown
    have hlt := (hown.lt (w.heap.size + 1 + 1) rfl).2
    have hgz := hgrow.size
    have hb1 : Below W1.heap.size W1 w1 := (Below.refl _ _).grown hgrow (Nat.le_refl _) (fun k hk => by cases hk)
    have hb2 : Below W1.heap.size W1 (w1.alloc (.cells #[.slice (some ⟨w.heap.size + 1 + 1, 0, none⟩) n n] 57)) := hb1.alloc hgz _
    refine ⟨HX.out.below (b1.trans (hb2.mono b1.size)) (Nat.le_refl _), by simp, ?_, ?_, hb2, by omega, by omega, by omega, by omega, by omega⟩
    · rw [hb2.cell (by show w.heap.size < _; omega)]; exact b3
    · rw [Below.heap_alloc _ _ _ hlt]; exact heap_of_row hown)
  cases hT : rs.all (xThere n) with
  | false =>
    obtain rfl : N = (ids, 2) := by rw [← hN]; exact xPut_gone ids id rs false hid1 (by rw [hx.hlen]; exact hT)
    have CA : Hid (∀ (W1 w1 : World), SetI W1 B p g n ids w1.heap.size (w.heap.size + 1 + 1) w.heap.size [] (w1.alloc (.cells #[.slice (some ⟨w.heap.size + 1 + 1, 0, none⟩) n n] 57)) → Below w.heap.size w W1 → ∀ f,
        Calls Try.prog 23 #[.pointer (some ⟨p, 0, none⟩), .slice A m c, f] (w1.alloc (.cells #[.slice (some ⟨w.heap.size + 1 + 1, 0, none⟩) n n] 57)) fun e w' => e = .panicked [thrown 58] ∧ Below W1.heap.size W1 w') := hidb (fun W1 w1 h hb f => by
      have hbw := hb.trans (h.bel.mono hb.size)
      refine (code_xask_gone A m c rs _ h.ix.pages hn ((HS.out.below hbw).more hbw.size) hm HR.out hT).mono ?_
      rintro e w' ⟨rfl, h2⟩
      exact ⟨rfl, h.bel.trans (h2.mono h.bel.size)⟩)
    clear hx hap hs hr hN hid1 hT
    go_enter_defers Try.func12, Try.ntmps12
    go_wp2_with (first
      | (go_at_call 16; (with_reducible refine (cp _ (((Below.refl _ _).alloc (Nat.le_refl _) _).alloc (by simp) _)).mono ?_); rintro e w' ⟨rfl, rfl⟩)
      | (at_make; refine wpList_make_full _ rfl _ _ 57 rfl w.heap.size 4 i0 (.bool false) 1 Try.underlying57 hi hz0 hz1 .i64 .i64 _ _ n rfl rfl (by omega) (by omega) (by rw [hz2]; omega) (by unfold maxLen; omega) (by simp; omega) ?_; intro w1 hown hgrow; have S1 := HSI.out _ w1 rfl hown hgrow; have hcx := S1.cx; have ca := CA.out _ w1 S1 (HB1.out _ rfl).1; have HS1 := hidb S1; clear hown hgrow S1)
      | (go_at_call 23; (with_reducible refine (ca _).mono ?_); rintro e w4 ⟨rfl, hb4⟩))
    obtain ⟨b1, b2, b3, b4, b5⟩ := HB1.out _ rfl
    have hcE : w4.cell? ⟨w.heap.size + 1, 0, none⟩ = some (.int .i64 0) := by rw [hb4.cell (by show w.heap.size + 1 < _; omega)]; exact b4
    have hfE : w4.frozen? ⟨w.heap.size + 1, 0, none⟩ = false := by rw [hb4.frozen (by show w.heap.size + 1 < _; omega)]; exact b5
    refine leaves_cons (f := 26) (args := #[.pointer (some ⟨w.heap.size + 1, 0, none⟩)]) (by simp) (by simp [go_sem]) ?_
    refine (catch_set 58 2 (fun w => code_told2 w) ⟨w.heap.size + 1, 0, none⟩ 0 _ (lt_of_cell hcE) hcE hfE).mono ?_
    rintro e u' w'' ⟨rfl, rfl, rfl⟩
    have P := putEnd_no (T := 58) HX.out (b1.trans (hb4.mono b1.size)) (e := w.heap.size + 1) (by omega) 2 (.int .i64 2)
    have hT := told_cell hcE 58 (.int .i64 2)
    simp [Leaves, settle, results, Try.results12, go_sem, hT]
    exact P
  | true =>
    have E := xPut_there ids id rs false hid1 (by rw [hx.hlen]; exact hT)
    rw [okAll_ask, hN] at E
    have CA : Hid (∀ (W1 w1 : World), SetI W1 B p g n ids w1.heap.size (w.heap.size + 1 + 1) w.heap.size [] (w1.alloc (.cells #[.slice (some ⟨w.heap.size + 1 + 1, 0, none⟩) n n] 57)) → Below w.heap.size w W1 → w.heap.size + 1 + 1 < w1.heap.size →
        Calls Try.prog 23 #[.pointer (some ⟨p, 0, none⟩), .slice A m c, .func (.func 27) #[] #[.pointer (some ⟨w1.heap.size, 0, none⟩), .pointer (some ⟨w.heap.size, 0, none⟩)]] (w1.alloc (.cells #[.slice (some ⟨w.heap.size + 1 + 1, 0, none⟩) n n] 57))
          (AskEnd W1 (okOne ids false) (SetI W1 B p g n ids w1.heap.size (w.heap.size + 1 + 1) w.heap.size) (pgs rs))) := hidb (fun W1 w1 h hb hlt =>
      code_xask_set W1 A m c rs _ h.ix.pages hn ((HS.out.below hb).more hb.size) hm HR.out hT h asks_set (by simp; omega))
    cases hok : askAll (okOne ids false) [] (pgs rs) with
    | false =>
      rw [hok] at E
      obtain rfl : N = (ids, 9) := by simpa using E
      have CB : Hid (∀ (W1 w1 : World), SetI W1 B p g n ids w1.heap.size (w.heap.size + 1 + 1) w.heap.size [] (w1.alloc (.cells #[.slice (some ⟨w.heap.size + 1 + 1, 0, none⟩) n n] 57)) → Below w.heap.size w W1 → w.heap.size + 1 + 1 < w1.heap.size →
        Calls Try.prog 23 #[.pointer (some ⟨p, 0, none⟩), .slice A m c, .func (.func 27) #[] #[.pointer (some ⟨w1.heap.size, 0, none⟩), .pointer (some ⟨w.heap.size, 0, none⟩)]] (w1.alloc (.cells #[.slice (some ⟨w.heap.size + 1 + 1, 0, none⟩) n n] 57))
          fun e w' => e = .panicked [thrown 59] ∧ Below W1.heap.size W1 w') := hidb (fun W1 w1 h hb hlt => (CA.out W1 w1 h hb hlt).mono (by
            rintro e w' (⟨h1, _⟩ | ⟨_, h2⟩)
            · rw [hok] at h1; cases h1
            · exact h2))
      clear hx hap hs hr hN hid1 hT E CA hok
      go_enter_defers Try.func12, Try.ntmps12
      go_wp2_with (first
        | (go_at_call 16; (with_reducible refine (cp _ (((Below.refl _ _).alloc (Nat.le_refl _) _).alloc (by simp) _)).mono ?_); rintro e w' ⟨rfl, rfl⟩)
        | (at_make; refine wpList_make_full _ rfl _ _ 57 rfl w.heap.size 4 i0 (.bool false) 1 Try.underlying57 hi hz0 hz1 .i64 .i64 _ _ n rfl rfl (by omega) (by omega) (by rw [hz2]; omega) (by unfold maxLen; omega) (by simp; omega) ?_; intro w1 hown hgrow; have S1 := HSI.out _ w1 rfl hown hgrow; have hcx := S1.cx; have ca := CB.out _ w1 S1 (HB1.out _ rfl).1 (by have := (hown.lt _ rfl).2; rw [(HB1.out _ rfl).2.1] at this; exact this); have HS1 := hidb S1; clear hown hgrow S1)
        | (go_at_call 23; (with_reducible refine ca.mono ?_); rintro e w4 ⟨rfl, hb4⟩))
      obtain ⟨b1, b2, b3, b4, b5⟩ := HB1.out _ rfl
      have hcE : w4.cell? ⟨w.heap.size + 1, 0, none⟩ = some (.int .i64 0) := by rw [hb4.cell (by show w.heap.size + 1 < _; omega)]; exact b4
      have hfE : w4.frozen? ⟨w.heap.size + 1, 0, none⟩ = false := by rw [hb4.frozen (by show w.heap.size + 1 < _; omega)]; exact b5
      refine leaves_cons (f := 26) (args := #[.pointer (some ⟨w.heap.size + 1, 0, none⟩)]) (by simp) (by simp [go_sem]) ?_
      refine (catch_set 59 9 (fun w => code_told9 w) ⟨w.heap.size + 1, 0, none⟩ 0 _ (lt_of_cell hcE) hcE hfE).mono ?_
      rintro e u' w'' ⟨rfl, rfl, rfl⟩
      have P := putEnd_no (T := 59) HX.out (b1.trans (hb4.mono b1.size)) (e := w.heap.size + 1) (by omega) 9 (.int .i64 9)
      have hT := told_cell hcE 59 (.int .i64 9)
      simp [Leaves, settle, results, Try.results12, go_sem, hT]
      exact P
    | true =>
      rw [hok] at E
      obtain rfl : N = (writeAll ids id (pgs rs), 0) := by simpa using E
      have CB : Hid (∀ (W1 w1 : World), SetI W1 B p g n ids w1.heap.size (w.heap.size + 1 + 1) w.heap.size [] (w1.alloc (.cells #[.slice (some ⟨w.heap.size + 1 + 1, 0, none⟩) n n] 57)) → Below w.heap.size w W1 → w.heap.size + 1 + 1 < w1.heap.size →
        Calls Try.prog 23 #[.pointer (some ⟨p, 0, none⟩), .slice A m c, .func (.func 27) #[] #[.pointer (some ⟨w1.heap.size, 0, none⟩), .pointer (some ⟨w.heap.size, 0, none⟩)]] (w1.alloc (.cells #[.slice (some ⟨w.heap.size + 1 + 1, 0, none⟩) n n] 57))
          fun e w' => e = .returned (.tuple #[]) ∧ SetI W1 B p g n ids w1.heap.size (w.heap.size + 1 + 1) w.heap.size (pgs rs) w') := hidb (fun W1 w1 h hb hlt => (CA.out W1 w1 h hb hlt).mono (by
            rintro e w' (⟨_, h1⟩ | ⟨h1, _⟩)
            · exact h1
            · rw [hok] at h1; cases h1))
      have CW : Hid (∀ w4 W1 tm, SetI W1 B p g n ids tm (w.heap.size + 1 + 1) w.heap.size (pgs rs) w4 → Below w.heap.size w W1 →
          Calls Try.prog 25 #[.pointer (some ⟨p, 0, none⟩), .int .i64 id, .slice A m c] w4 fun e w5 => e = .returned (.tuple #[]) ∧ Ix w5 B p g n (writeAll ids id (pgs rs)) ∧ w4.grownBy w5 (some g)) := hidb (fun w4 W1 tm h hb => by
        have hbw := hb.trans (h.bel.mono hb.size)
        exact code_xwrite id A m c rs w4 h.ix HAP.out ((HS.out.below hbw).more hbw.size) hm hT)
      have HE5 : Hid (∀ W1 tm w4 w5, (Below w.heap.size w W1 ∧ W1.heap.size = w.heap.size + 1 + 1 ∧ W1.cell? ⟨w.heap.size, 0, none⟩ = some (.pointer (some ⟨p, 0, none⟩)) ∧ W1.cell? ⟨w.heap.size + 1, 0, none⟩ = some (.int .i64 0) ∧ W1.frozen? ⟨w.heap.size + 1, 0, none⟩ = false) →
          SetI W1 B p g n ids tm (w.heap.size + 1 + 1) w.heap.size (pgs rs) w4 → w4.grownBy w5 (some g) → w5.cell? ⟨w.heap.size + 1, 0, none⟩ = some (.int .i64 0) ∧ w5.frozen? ⟨w.heap.size + 1, 0, none⟩ = false) := hidb (fun W1 tm w4 w5 h1 h4 hg => by
        obtain ⟨b1, b2, b3, b4, b5⟩ := h1
        have k1 : w4.cell? ⟨w.heap.size + 1, 0, none⟩ = some (.int .i64 0) := by rw [h4.bel.cell (by show w.heap.size + 1 < _; omega)]; exact b4
        have k2 : w4.frozen? ⟨w.heap.size + 1, 0, none⟩ = false := by rw [h4.bel.frozen (by show w.heap.size + 1 < _; omega)]; exact b5
        have k3 := hg.block (w.heap.size + 1) (lt_of_cell k1) (fun e => by injection e with e; omega)
        exact ⟨(World.cell?_of_block (w := w4) (a := ⟨w.heap.size + 1, 0, none⟩) k3).trans k1, by rw [← k2]; simp [World.frozen?, k3]⟩)
      clear hx hap hs hr hN hid1 hT E CA hok
      go_enter_defers Try.func12, Try.ntmps12
      go_wp2_with (first
        | (go_at_call 16; (with_reducible refine (cp _ (((Below.refl _ _).alloc (Nat.le_refl _) _).alloc (by simp) _)).mono ?_); rintro e w' ⟨rfl, rfl⟩)
        | (at_make; refine wpList_make_full _ rfl _ _ 57 rfl w.heap.size 4 i0 (.bool false) 1 Try.underlying57 hi hz0 hz1 .i64 .i64 _ _ n rfl rfl (by omega) (by omega) (by rw [hz2]; omega) (by unfold maxLen; omega) (by simp; omega) ?_; intro w1 hown hgrow; have S1 := HSI.out _ w1 rfl hown hgrow; have hcx := S1.cx; have ca := CB.out _ w1 S1 (HB1.out _ rfl).1 (by have := (hown.lt _ rfl).2; rw [(HB1.out _ rfl).2.1] at this; exact this); have HS1 := hidb S1; clear hown hgrow S1)
        | (go_at_call 23; (with_reducible refine ca.mono ?_); rintro e w4 ⟨rfl, S4⟩; have hcx4 := S4.cx; have cw := CW.out _ _ _ S4 (HB1.out _ rfl).1; have HS4 := hidb S4; clear S4)
        | (go_at_call 25; (with_reducible refine cw.mono ?_); rintro e w5 ⟨rfl, hx5, hg5⟩; have hcE : w5.cell? ⟨w.heap.size + 1, 0, none⟩ = some (.int .i64 0) := (HE5.out _ _ _ _ (HB1.out _ rfl) HS4.out hg5).1; have hfE : w5.frozen? ⟨w.heap.size + 1, 0, none⟩ = false := (HE5.out _ _ _ _ (HB1.out _ rfl) HS4.out hg5).2; have HX5 := hidb hx5; have HG5 := hidb hg5; clear hx5 hg5))
      have hcE2 := World.cell?_setCell_same _ _ (.int .i64 0) hcE
      have hb14 : w.grownBy w4 (some g) := below_to_grown ((HB1.out _ rfl).1.trans (HS4.out.bel.mono (HB1.out _ rfl).1.size)) _
      have P := putEnd_ok HX5.out (grown_trans hb14 HG5.out) (e := w.heap.size + 1) (by omega) hlp hlg 0 (.int .i64 0) (.int .i64 0)
      refine leaves_cons (f := 26) (args := #[.pointer (some ⟨w.heap.size + 1, 0, none⟩)]) (by simp) (by simp [go_sem]) ?_
      refine (idle_set ⟨w.heap.size + 1, 0, none⟩ 0 _ hcE2 (by simp [hfE])).mono ?_
      rintro e u' w'' ⟨rfl, rfl, rfl⟩
      have hc2 := World.cell?_setCell_same (w5.setCell ⟨w.heap.size + 1, 0, none⟩ (.int .i64 0)) ⟨w.heap.size + 1, 0, none⟩ (.int .i64 0) hcE2
      simp [Leaves, settle, results, Try.results12, go_sem, hc2]
      exact P

end Go.Proofs.Ytoghahldlnhpdaa
